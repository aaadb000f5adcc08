/-
  Package vec: Plus, Minus, Scale, of any points.
  Package vec: Cross, Dot, Norm2, of any points.
  gussetlaw04: live.
-/
import Derived.Test.YtlpafjbbeljbhaaGreatDoorG37
import Derived.Test.YtlpafjbbeljbhaaGreatDoorG39
namespace Go.Proofs.YtlpafjbbeljbhaaGreatDoor
open Go.RowKit

theorem qI_nz (q : Rat) : qI q = .agg #[.bool (nfZ q.num), .string (sfZ q.num), .string (strOf q.den)] := rfl
theorem okq_nz {n : Bool} {s d : ByteArray} (o : OkQ n s d) : nfZ (qOf n s d).num = n ∧ sfZ (qOf n s d).num = s ∧ strOf (qOf n s d).den = d := o.parts
/-- Whatever two numbers: some number, and the error. -/
theorem any_add (n0 n1 : Bool) (s0 d0 s1 d1 : ByteArray) (z0 : s0.size ≤ 4000) (y0 : d0.size ≤ 4000) (z1 : s1.size ≤ 4000) (y1 : d1.size ≤ 4000) : ∃ xN xS xD, ∀ w, Tab w → Calls Tryz.prog 40 #[.agg #[.bool n0, .string s0, .string d0], .agg #[.bool n1, .string s1, .string d1]] w fun e w' => e = .returned (.tuple #[.agg #[.bool xN, .string xS, .string xD], .int .i64 (twoq n0 s0 d0 n1 s1 d1 : Nat)]) ∧ Below w.heap.size w w' := by
 by_cases h : twoq n0 s0 d0 n1 s1 d1 = 0
 ·refine ⟨nfZ (qOf n0 s0 d0 + qOf n1 s1 d1).num, sfZ (qOf n0 s0 d0 + qOf n1 s1 d1).num, strOf (qOf n0 s0 d0 + qOf n1 s1 d1).den, fun w hT => ?_⟩
  have := qadd_ok n0 n1 s0 d0 s1 d1 w hT h (Nat.le_refl 4000) z0 y0 z1 y1
  rw [qI_nz] at this
  rw [h]
  exact this
 ·refine ⟨false, ⟨#[]⟩, ⟨#[]⟩, fun w hT => ?_⟩
  exact qadd_bad n0 n1 s0 d0 s1 d1 w hT h
/-- Whatever two numbers: some number, and the error. -/
theorem any_sub (n0 n1 : Bool) (s0 d0 s1 d1 : ByteArray) (z0 : s0.size ≤ 4000) (y0 : d0.size ≤ 4000) (z1 : s1.size ≤ 4000) (y1 : d1.size ≤ 4000) : ∃ xN xS xD, ∀ w, Tab w → Calls Tryz.prog 42 #[.agg #[.bool n0, .string s0, .string d0], .agg #[.bool n1, .string s1, .string d1]] w fun e w' => e = .returned (.tuple #[.agg #[.bool xN, .string xS, .string xD], .int .i64 (twoq n0 s0 d0 n1 s1 d1 : Nat)]) ∧ Below w.heap.size w w' := by
 by_cases h : twoq n0 s0 d0 n1 s1 d1 = 0
 ·refine ⟨nfZ (qOf n0 s0 d0 - qOf n1 s1 d1).num, sfZ (qOf n0 s0 d0 - qOf n1 s1 d1).num, strOf (qOf n0 s0 d0 - qOf n1 s1 d1).den, fun w hT => ?_⟩
  have := qsub_ok n0 n1 s0 d0 s1 d1 w hT h (Nat.le_refl 4000) z0 y0 z1 y1
  rw [qI_nz] at this
  rw [h]
  exact this
 ·refine ⟨false, ⟨#[]⟩, ⟨#[]⟩, fun w hT => ?_⟩
  exact qsub_bad n0 n1 s0 d0 s1 d1 w hT h
theorem vplus_ok (n0 n1 n2 n3 : Bool) (s0 d0 s1 d1 s2 d2 s3 d3 : ByteArray) (w : World) (hT : Tab w) (h : two (twoq n0 s0 d0 n1 s1 d1) (twoq n2 s2 d2 n3 s3 d3) = 0) (z0 : s0.size ≤ 4000 ∧ d0.size ≤ 4000) (z1 : s1.size ≤ 4000 ∧ d1.size ≤ 4000) (z2 : s2.size ≤ 4000 ∧ d2.size ≤ 4000) (z3 : s3.size ≤ 4000 ∧ d3.size ≤ 4000) :
  Calls Tryz.prog 12 #[.agg #[.bool n0, .string s0, .string d0, .bool n1, .string s1, .string d1], .agg #[.bool n2, .string s2, .string d2, .bool n3, .string s3, .string d3]] w fun e w' => e = .returned (.tuple #[.agg #[.bool (nfZ (qOf n0 s0 d0 + qOf n2 s2 d2).num), .string (sfZ (qOf n0 s0 d0 + qOf n2 s2 d2).num), .string (strOf (qOf n0 s0 d0 + qOf n2 s2 d2).den), .bool (nfZ (qOf n1 s1 d1 + qOf n3 s3 d3).num), .string (sfZ (qOf n1 s1 d1 + qOf n3 s3 d3).num), .string (strOf (qOf n1 s1 d1 + qOf n3 s3 d3).den)], .int .i64 0]) ∧ Below w.heap.size w w' := by
 obtain ⟨h0, h1⟩ := two_zero.1 h
 obtain ⟨c0, c1⟩ := twoq_zero.1 h0
 obtain ⟨c2, c3⟩ := twoq_zero.1 h1
 refine plus_walk n0 n1 n2 n3 _ _ s0 d0 s1 d1 s2 d2 s3 d3 _ _ _ _ 0 w (fun w1 b => ?_)
 refine each_add_ok n0 n1 n2 n3 _ _ s0 d0 s1 d1 s2 d2 s3 d3 _ _ _ _ w1 (fun w2 b2 => ?_) (fun w2 b2 => ?_)
 ·have := qadd_ok n0 n2 s0 d0 s2 d2 w2 ((hT.below b).below b2) (twoq_zero.2 ⟨c0, c2⟩) (Nat.le_refl 4000) z0.1 z0.2 z2.1 z2.2
  rwa [qI_nz] at this
 ·have := qadd_ok n1 n3 s1 d1 s3 d3 w2 ((hT.below b).below b2) (twoq_zero.2 ⟨c1, c3⟩) (Nat.le_refl 4000) z1.1 z1.2 z3.1 z3.2
  rwa [qI_nz] at this
theorem vminus_ok (n0 n1 n2 n3 : Bool) (s0 d0 s1 d1 s2 d2 s3 d3 : ByteArray) (w : World) (hT : Tab w) (h : two (twoq n0 s0 d0 n1 s1 d1) (twoq n2 s2 d2 n3 s3 d3) = 0) (z0 : s0.size ≤ 4000 ∧ d0.size ≤ 4000) (z1 : s1.size ≤ 4000 ∧ d1.size ≤ 4000) (z2 : s2.size ≤ 4000 ∧ d2.size ≤ 4000) (z3 : s3.size ≤ 4000 ∧ d3.size ≤ 4000) :
  Calls Tryz.prog 13 #[.agg #[.bool n0, .string s0, .string d0, .bool n1, .string s1, .string d1], .agg #[.bool n2, .string s2, .string d2, .bool n3, .string s3, .string d3]] w fun e w' => e = .returned (.tuple #[.agg #[.bool (nfZ (qOf n0 s0 d0 - qOf n2 s2 d2).num), .string (sfZ (qOf n0 s0 d0 - qOf n2 s2 d2).num), .string (strOf (qOf n0 s0 d0 - qOf n2 s2 d2).den), .bool (nfZ (qOf n1 s1 d1 - qOf n3 s3 d3).num), .string (sfZ (qOf n1 s1 d1 - qOf n3 s3 d3).num), .string (strOf (qOf n1 s1 d1 - qOf n3 s3 d3).den)], .int .i64 0]) ∧ Below w.heap.size w w' := by
 obtain ⟨h0, h1⟩ := two_zero.1 h
 obtain ⟨c0, c1⟩ := twoq_zero.1 h0
 obtain ⟨c2, c3⟩ := twoq_zero.1 h1
 refine minus_walk n0 n1 n2 n3 _ _ s0 d0 s1 d1 s2 d2 s3 d3 _ _ _ _ 0 w (fun w1 b => ?_)
 refine each_sub_ok n0 n1 n2 n3 _ _ s0 d0 s1 d1 s2 d2 s3 d3 _ _ _ _ w1 (fun w2 b2 => ?_) (fun w2 b2 => ?_)
 ·have := qsub_ok n0 n2 s0 d0 s2 d2 w2 ((hT.below b).below b2) (twoq_zero.2 ⟨c0, c2⟩) (Nat.le_refl 4000) z0.1 z0.2 z2.1 z2.2
  rwa [qI_nz] at this
 ·have := qsub_ok n1 n3 s1 d1 s3 d3 w2 ((hT.below b).below b2) (twoq_zero.2 ⟨c1, c3⟩) (Nat.le_refl 4000) z1.1 z1.2 z3.1 z3.2
  rwa [qI_nz] at this
theorem vplus_bad (n0 n1 n2 n3 : Bool) (s0 d0 s1 d1 s2 d2 s3 d3 : ByteArray) (w : World) (hT : Tab w) (h : ¬ two (twoq n0 s0 d0 n1 s1 d1) (twoq n2 s2 d2 n3 s3 d3) = 0) (z0 : s0.size ≤ 4000 ∧ d0.size ≤ 4000) (z1 : s1.size ≤ 4000 ∧ d1.size ≤ 4000) (z2 : s2.size ≤ 4000 ∧ d2.size ≤ 4000) (z3 : s3.size ≤ 4000 ∧ d3.size ≤ 4000) :
  Calls Tryz.prog 12 #[.agg #[.bool n0, .string s0, .string d0, .bool n1, .string s1, .string d1], .agg #[.bool n2, .string s2, .string d2, .bool n3, .string s3, .string d3]] w fun e w' => e = .returned (.tuple #[.agg #[.bool false, .string { data := #[] }, .string { data := #[] }, .bool false, .string { data := #[] }, .string { data := #[] }], .int .i64 (two (twoq n0 s0 d0 n1 s1 d1) (twoq n2 s2 d2 n3 s3 d3) : Nat)]) ∧ Below w.heap.size w w' := by
 refine plus_walk n0 n1 n2 n3 _ _ s0 d0 s1 d1 s2 d2 s3 d3 _ _ _ _ ((two (twoq n0 s0 d0 n1 s1 d1) (twoq n2 s2 d2 n3 s3 d3) : Nat) : Int) w (fun w1 b => ?_)
 have HC : Hid (∀ (B : Nat) (w2 : World), Below w1.heap.size w1 w2 → Cel w2 B [.bool n0, .string s0, .string d0, .bool n1, .string s1, .string d1, .bool n2, .string s2, .string d2, .bool n3, .string s3, .string d3] 26 → Calls Tryz.prog 43 #[.slice (some ⟨B, 0, none⟩) 4 4] w2 fun e w' => e = .returned (.int .i64 (two (twoq n0 s0 d0 n1 s1 d1) (twoq n2 s2 d2 n3 s3 d3) : Nat)) ∧ Below w2.heap.size w2 w') := fun B w2 b2 k => vcheck4 B n0 n1 n2 n3 s0 d0 s1 d1 s2 d2 s3 d3 w2 ((hT.below b).below b2) k
 obtain ⟨xN, xS, xD, hx⟩ := any_add n0 n2 s0 d0 s2 d2 z0.1 z0.2 z2.1 z2.2
 obtain ⟨yN, yS, yD, hy⟩ := any_add n1 n3 s1 d1 s3 d3 z1.1 z1.2 z3.1 z3.2
 have H1 : Hid (∀ w2, Below w1.heap.size w1 w2 → _) := fun w2 b2 => hx w2 ((hT.below b).below b2)
 have H2 : Hid (∀ w2, Below w1.heap.size w1 w2 → _) := fun w2 b2 => hy w2 ((hT.below b).below b2)
 by_cases e1 : twoq n0 s0 d0 n2 s2 d2 = 0
 ·rw [e1] at H1
  have e2 : ¬ twoq n1 s1 d1 n3 s3 d3 = 0 := fun e2 => h (two_zero.2 ⟨twoq_zero.2 ⟨(twoq_zero.1 e1).1, (twoq_zero.1 e2).1⟩, twoq_zero.2 ⟨(twoq_zero.1 e1).2, (twoq_zero.1 e2).2⟩⟩)
  exact each_add_bad1 n0 n1 n2 n3 xN yN s0 d0 s1 d1 s2 d2 s3 d3 xS xD yS yD _ _ (by omega) w1 H1 H2 HC
 ·exact each_add_bad0 n0 n1 n2 n3 xN yN s0 d0 s1 d1 s2 d2 s3 d3 xS xD yS yD _ _ _ (by omega) w1 H1 H2 HC
theorem vminus_bad (n0 n1 n2 n3 : Bool) (s0 d0 s1 d1 s2 d2 s3 d3 : ByteArray) (w : World) (hT : Tab w) (h : ¬ two (twoq n0 s0 d0 n1 s1 d1) (twoq n2 s2 d2 n3 s3 d3) = 0) (z0 : s0.size ≤ 4000 ∧ d0.size ≤ 4000) (z1 : s1.size ≤ 4000 ∧ d1.size ≤ 4000) (z2 : s2.size ≤ 4000 ∧ d2.size ≤ 4000) (z3 : s3.size ≤ 4000 ∧ d3.size ≤ 4000) :
  Calls Tryz.prog 13 #[.agg #[.bool n0, .string s0, .string d0, .bool n1, .string s1, .string d1], .agg #[.bool n2, .string s2, .string d2, .bool n3, .string s3, .string d3]] w fun e w' => e = .returned (.tuple #[.agg #[.bool false, .string { data := #[] }, .string { data := #[] }, .bool false, .string { data := #[] }, .string { data := #[] }], .int .i64 (two (twoq n0 s0 d0 n1 s1 d1) (twoq n2 s2 d2 n3 s3 d3) : Nat)]) ∧ Below w.heap.size w w' := by
 refine minus_walk n0 n1 n2 n3 _ _ s0 d0 s1 d1 s2 d2 s3 d3 _ _ _ _ ((two (twoq n0 s0 d0 n1 s1 d1) (twoq n2 s2 d2 n3 s3 d3) : Nat) : Int) w (fun w1 b => ?_)
 have HC : Hid (∀ (B : Nat) (w2 : World), Below w1.heap.size w1 w2 → Cel w2 B [.bool n0, .string s0, .string d0, .bool n1, .string s1, .string d1, .bool n2, .string s2, .string d2, .bool n3, .string s3, .string d3] 26 → Calls Tryz.prog 43 #[.slice (some ⟨B, 0, none⟩) 4 4] w2 fun e w' => e = .returned (.int .i64 (two (twoq n0 s0 d0 n1 s1 d1) (twoq n2 s2 d2 n3 s3 d3) : Nat)) ∧ Below w2.heap.size w2 w') := fun B w2 b2 k => vcheck4 B n0 n1 n2 n3 s0 d0 s1 d1 s2 d2 s3 d3 w2 ((hT.below b).below b2) k
 obtain ⟨xN, xS, xD, hx⟩ := any_sub n0 n2 s0 d0 s2 d2 z0.1 z0.2 z2.1 z2.2
 obtain ⟨yN, yS, yD, hy⟩ := any_sub n1 n3 s1 d1 s3 d3 z1.1 z1.2 z3.1 z3.2
 have H1 : Hid (∀ w2, Below w1.heap.size w1 w2 → _) := fun w2 b2 => hx w2 ((hT.below b).below b2)
 have H2 : Hid (∀ w2, Below w1.heap.size w1 w2 → _) := fun w2 b2 => hy w2 ((hT.below b).below b2)
 by_cases e1 : twoq n0 s0 d0 n2 s2 d2 = 0
 ·rw [e1] at H1
  have e2 : ¬ twoq n1 s1 d1 n3 s3 d3 = 0 := fun e2 => h (two_zero.2 ⟨twoq_zero.2 ⟨(twoq_zero.1 e1).1, (twoq_zero.1 e2).1⟩, twoq_zero.2 ⟨(twoq_zero.1 e1).2, (twoq_zero.1 e2).2⟩⟩)
  exact each_sub_bad1 n0 n1 n2 n3 xN yN s0 d0 s1 d1 s2 d2 s3 d3 xS xD yS yD _ _ (by omega) w1 H1 H2 HC
 ·exact each_sub_bad0 n0 n1 n2 n3 xN yN s0 d0 s1 d1 s2 d2 s3 d3 xS xD yS yD _ _ _ (by omega) w1 H1 H2 HC
end Go.Proofs.YtlpafjbbeljbhaaGreatDoor
namespace Go.Proofs.YtlpafjbbeljbhaaGreatDoor
open Go.RowKit

theorem okq_flip {n : Bool} {s d : ByteArray} (o : OkQ n s d) (hs : 0 < s.size) : OkQ (!n) s d ∧ qOf (!n) s d = -qOf n s d := by
 refine ⟨⟨⟨o.1.1, fun _ => hs⟩, o.2.1, o.2.2.1, o.2.2.2⟩, ?_⟩
 unfold qOf
 have e : zOf (!n) s = -zOf n s := by cases n <;> simp [zOf]
 rw [e, Rat.neg_mkRat]
theorem okq_none {n : Bool} {s d : ByteArray} (o : OkQ n s d) (hs : s.size = 0) : n = false ∧ s = ⟨#[]⟩ ∧ qOf n s d = 0 := by
 have hn : n = false := by
  cases n with
  | false => rfl
  | true => have := o.1.2 rfl; omega
 have e : s = ⟨#[]⟩ := ByteArray.size_eq_zero_iff.1 hs
 refine ⟨hn, e, ?_⟩
 subst hn
 unfold qOf
 have : zOf false s = 0 := by rw [zOf_f, natOf_empty hs]; rfl
 rw [this]
 exact Rat.zero_mkRat _
/-- A point turned to the left. -/
theorem turned_any (n0 n1 : Bool) (s0 d0 s1 d1 : ByteArray) (o1 : OkQ n1 s1 d1) : ∃ t, OkQ t s1 d1 ∧ qOf t s1 d1 = -qOf n1 s1 d1 ∧ ∀ w, Calls Tryz.prog 46 #[.agg #[.bool n0, .string s0, .string d0, .bool n1, .string s1, .string d1]] w fun e w' => e = .returned (.agg #[.bool t, .string s1, .string d1, .bool n0, .string s0, .string d0]) ∧ Below w.heap.size w w' := by
 by_cases hs : s1.size = 0
 ·obtain ⟨rfl, rfl, h0⟩ := okq_none o1 hs
  exact ⟨false, o1, by rw [h0]; rfl, fun w => turned_zero n0 false s0 d0 d1 w⟩
 ·obtain ⟨a, b⟩ := okq_flip o1 (by omega)
  refine ⟨!n1, a, b, fun w => turned_some n0 n1 s0 d0 s1 d1 w ?_⟩
  rw [ByteArray.toList_eq]
  obtain ⟨⟨l⟩⟩ := s1
  cases l with
  | nil => exact absurd rfl hs
  | cons _ _ => rfl

theorem vCross_bad (n0 n1 n2 n3 : Bool) (s0 d0 s1 d1 s2 d2 s3 d3 : ByteArray) (w : World) (hT : Tab w) (h : ¬ two (twoq n0 s0 d0 n1 s1 d1) (twoq n2 s2 d2 n3 s3 d3) = 0) :
  Calls Tryz.prog 15 #[.agg #[.bool n0, .string s0, .string d0, .bool n1, .string s1, .string d1], .agg #[.bool n2, .string s2, .string d2, .bool n3, .string s3, .string d3]] w fun e w' => e = .returned (.tuple #[.agg #[.bool false, .string { data := #[] }, .string { data := #[] }], .int .i64 (two (twoq n0 s0 d0 n1 s1 d1) (twoq n2 s2 d2 n3 s3 d3) : Nat)]) ∧ Below w.heap.size w w' := by
 have hc : Hid (∀ (B : Nat) (w1 : World), Below w.heap.size w w1 → Cel w1 B [.bool n0, .string s0, .string d0, .bool n1, .string s1, .string d1, .bool n2, .string s2, .string d2, .bool n3, .string s3, .string d3] 26 → Calls Tryz.prog 43 #[.slice (some ⟨B, 0, none⟩) 4 4] w1 fun e w' => e = .returned (.int .i64 (two (twoq n0 s0 d0 n1 s1 d1) (twoq n2 s2 d2 n3 s3 d3) : Nat)) ∧ Below w1.heap.size w1 w') := fun B w1 b k => vcheck4 B n0 n1 n2 n3 s0 d0 s1 d1 s2 d2 s3 d3 w1 (hT.below b) k
 exact cross_bad n0 n1 n2 n3 s0 d0 s1 d1 s2 d2 s3 d3 _ (by omega) w hc
theorem vCross_ok (n0 n1 n2 n3 : Bool) (s0 d0 s1 d1 s2 d2 s3 d3 : ByteArray) (w : World) (hT : Tab w) (h : two (twoq n0 s0 d0 n1 s1 d1) (twoq n2 s2 d2 n3 s3 d3) = 0) (z0 : s0.size ≤ 170 ∧ d0.size ≤ 170) (z1 : s1.size ≤ 170 ∧ d1.size ≤ 170) (z2 : s2.size ≤ 170 ∧ d2.size ≤ 170) (z3 : s3.size ≤ 170 ∧ d3.size ≤ 170) :
  Calls Tryz.prog 15 #[.agg #[.bool n0, .string s0, .string d0, .bool n1, .string s1, .string d1], .agg #[.bool n2, .string s2, .string d2, .bool n3, .string s3, .string d3]] w fun e w' => e = .returned (.tuple #[.agg #[.bool (nfZ (qOf n0 s0 d0 * qOf n3 s3 d3 - qOf n1 s1 d1 * qOf n2 s2 d2).num), .string (sfZ (qOf n0 s0 d0 * qOf n3 s3 d3 - qOf n1 s1 d1 * qOf n2 s2 d2).num), .string (strOf (qOf n0 s0 d0 * qOf n3 s3 d3 - qOf n1 s1 d1 * qOf n2 s2 d2).den)], .int .i64 0]) ∧ Below w.heap.size w w' := by
 have hc : Hid (∀ (B : Nat) (w1 : World), Below w.heap.size w w1 → Cel w1 B [.bool n0, .string s0, .string d0, .bool n1, .string s1, .string d1, .bool n2, .string s2, .string d2, .bool n3, .string s3, .string d3] 26 → Calls Tryz.prog 43 #[.slice (some ⟨B, 0, none⟩) 4 4] w1 fun e w' => e = .returned (.int .i64 (two (twoq n0 s0 d0 n1 s1 d1) (twoq n2 s2 d2 n3 s3 d3) : Nat)) ∧ Below w1.heap.size w1 w') := fun B w1 b k => vcheck4 B n0 n1 n2 n3 s0 d0 s1 d1 s2 d2 s3 d3 w1 (hT.below b) k
 rw [h] at hc
 obtain ⟨h0, h1⟩ := two_zero.1 h
 have o0 := (chkq_zero (twoq_zero.1 h0).1).1
 have o1 := (chkq_zero (twoq_zero.1 h0).2).1
 have o2 := (chkq_zero (twoq_zero.1 h1).1).1
 have o3 := (chkq_zero (twoq_zero.1 h1).2).1
 refine cross_ok n0 n1 n2 n3 _ s0 d0 s1 d1 s2 d2 s3 d3 _ _ w hc (fun B g1 g2 w1 b kB k1 k2 => ?_)
 have := det2_any B g1 g2 n0 n1 n2 n3 s0 d0 s1 d1 s2 d2 s3 d3 (hT.below b) kB k1 k2 o0 o1 o2 o3 z0 z1 z2 z3
 exact this
theorem vDot_bad (n0 n1 n2 n3 : Bool) (s0 d0 s1 d1 s2 d2 s3 d3 : ByteArray) (w : World) (hT : Tab w) (h : ¬ two (twoq n0 s0 d0 n1 s1 d1) (twoq n2 s2 d2 n3 s3 d3) = 0) :
  Calls Tryz.prog 14 #[.agg #[.bool n0, .string s0, .string d0, .bool n1, .string s1, .string d1], .agg #[.bool n2, .string s2, .string d2, .bool n3, .string s3, .string d3]] w fun e w' => e = .returned (.tuple #[.agg #[.bool false, .string { data := #[] }, .string { data := #[] }], .int .i64 (two (twoq n0 s0 d0 n1 s1 d1) (twoq n2 s2 d2 n3 s3 d3) : Nat)]) ∧ Below w.heap.size w w' := by
 have hc : Hid (∀ (B : Nat) (w1 : World), Below w.heap.size w w1 → Cel w1 B [.bool n0, .string s0, .string d0, .bool n1, .string s1, .string d1, .bool n2, .string s2, .string d2, .bool n3, .string s3, .string d3] 26 → Calls Tryz.prog 43 #[.slice (some ⟨B, 0, none⟩) 4 4] w1 fun e w' => e = .returned (.int .i64 (two (twoq n0 s0 d0 n1 s1 d1) (twoq n2 s2 d2 n3 s3 d3) : Nat)) ∧ Below w1.heap.size w1 w') := fun B w1 b k => vcheck4 B n0 n1 n2 n3 s0 d0 s1 d1 s2 d2 s3 d3 w1 (hT.below b) k
 exact dot_bad n0 n1 n2 n3 s0 d0 s1 d1 s2 d2 s3 d3 _ (by omega) w hc
theorem vDot_ok (n0 n1 n2 n3 : Bool) (s0 d0 s1 d1 s2 d2 s3 d3 : ByteArray) (w : World) (hT : Tab w) (h : two (twoq n0 s0 d0 n1 s1 d1) (twoq n2 s2 d2 n3 s3 d3) = 0) (z0 : s0.size ≤ 170 ∧ d0.size ≤ 170) (z1 : s1.size ≤ 170 ∧ d1.size ≤ 170) (z2 : s2.size ≤ 170 ∧ d2.size ≤ 170) (z3 : s3.size ≤ 170 ∧ d3.size ≤ 170) :
  Calls Tryz.prog 14 #[.agg #[.bool n0, .string s0, .string d0, .bool n1, .string s1, .string d1], .agg #[.bool n2, .string s2, .string d2, .bool n3, .string s3, .string d3]] w fun e w' => e = .returned (.tuple #[.agg #[.bool (nfZ (qOf n0 s0 d0 * qOf n2 s2 d2 + qOf n1 s1 d1 * qOf n3 s3 d3).num), .string (sfZ (qOf n0 s0 d0 * qOf n2 s2 d2 + qOf n1 s1 d1 * qOf n3 s3 d3).num), .string (strOf (qOf n0 s0 d0 * qOf n2 s2 d2 + qOf n1 s1 d1 * qOf n3 s3 d3).den)], .int .i64 0]) ∧ Below w.heap.size w w' := by
 have hc : Hid (∀ (B : Nat) (w1 : World), Below w.heap.size w w1 → Cel w1 B [.bool n0, .string s0, .string d0, .bool n1, .string s1, .string d1, .bool n2, .string s2, .string d2, .bool n3, .string s3, .string d3] 26 → Calls Tryz.prog 43 #[.slice (some ⟨B, 0, none⟩) 4 4] w1 fun e w' => e = .returned (.int .i64 (two (twoq n0 s0 d0 n1 s1 d1) (twoq n2 s2 d2 n3 s3 d3) : Nat)) ∧ Below w1.heap.size w1 w') := fun B w1 b k => vcheck4 B n0 n1 n2 n3 s0 d0 s1 d1 s2 d2 s3 d3 w1 (hT.below b) k
 rw [h] at hc
 obtain ⟨h0, h1⟩ := two_zero.1 h
 have o0 := (chkq_zero (twoq_zero.1 h0).1).1
 have o1 := (chkq_zero (twoq_zero.1 h0).2).1
 have o2 := (chkq_zero (twoq_zero.1 h1).1).1
 have o3 := (chkq_zero (twoq_zero.1 h1).2).1
 obtain ⟨t, ot, et, ht⟩ := turned_any n2 n3 s2 d2 s3 d3 o3
 refine dot_ok n0 n1 n2 n3 _ t s0 d0 s1 d1 s2 d2 s3 d3 _ _ w hc (fun w1 => ht w1) (fun B g1 g2 w1 b kB k1 k2 => ?_)
 have := det2_any B g1 g2 n0 n1 t n2 s0 d0 s1 d1 s3 d3 s2 d2 (hT.below b) kB k1 k2 o0 o1 ot o2 z0 z1 z3 z2
 rw [et] at this
 have e : qOf n0 s0 d0 * qOf n2 s2 d2 - qOf n1 s1 d1 * -qOf n3 s3 d3 = qOf n0 s0 d0 * qOf n2 s2 d2 + qOf n1 s1 d1 * qOf n3 s3 d3 := by grind
 rw [e] at this
 exact this
theorem vNorm_bad (n0 n1 : Bool) (s0 d0 s1 d1 : ByteArray) (w : World) (hT : Tab w) (h : ¬ twoq n0 s0 d0 n1 s1 d1 = 0) :
  Calls Tryz.prog 16 #[.agg #[.bool n0, .string s0, .string d0, .bool n1, .string s1, .string d1]] w fun e w' => e = .returned (.tuple #[.agg #[.bool false, .string { data := #[] }, .string { data := #[] }], .int .i64 (twoq n0 s0 d0 n1 s1 d1 : Nat)]) ∧ Below w.heap.size w w' :=
 norm_bad n0 n1 s0 d0 s1 d1 _ (by omega) w (fun w1 b => vCheck_any n0 n1 s0 d0 s1 d1 w1 (hT.below b))
theorem vNorm_ok (n0 n1 : Bool) (s0 d0 s1 d1 : ByteArray) (w : World) (hT : Tab w) (h : twoq n0 s0 d0 n1 s1 d1 = 0) (z0 : s0.size ≤ 170 ∧ d0.size ≤ 170) (z1 : s1.size ≤ 170 ∧ d1.size ≤ 170) :
  Calls Tryz.prog 16 #[.agg #[.bool n0, .string s0, .string d0, .bool n1, .string s1, .string d1]] w fun e w' => e = .returned (.tuple #[.agg #[.bool (nfZ (qOf n0 s0 d0 * qOf n0 s0 d0 + qOf n1 s1 d1 * qOf n1 s1 d1).num), .string (sfZ (qOf n0 s0 d0 * qOf n0 s0 d0 + qOf n1 s1 d1 * qOf n1 s1 d1).num), .string (strOf (qOf n0 s0 d0 * qOf n0 s0 d0 + qOf n1 s1 d1 * qOf n1 s1 d1).den)], .int .i64 0]) ∧ Below w.heap.size w w' := by
 have hk : Hid (∀ w1, Below w.heap.size w w1 → Calls Tryz.prog 18 #[.agg #[.bool n0, .string s0, .string d0, .bool n1, .string s1, .string d1]] w1 fun e w' => e = .returned (.int .i64 (twoq n0 s0 d0 n1 s1 d1 : Nat)) ∧ Below w1.heap.size w1 w') := fun w1 b => vCheck_any n0 n1 s0 d0 s1 d1 w1 (hT.below b)
 rw [h] at hk
 have o0 := (chkq_zero (twoq_zero.1 h).1).1
 have o1 := (chkq_zero (twoq_zero.1 h).2).1
 obtain ⟨t, ot, et, ht⟩ := turned_any n0 n1 s0 d0 s1 d1 o1
 refine norm_ok n0 n1 _ t s0 d0 s1 d1 _ _ w hk (fun w1 => ht w1) (fun B g1 g2 w1 b kB k1 k2 => ?_)
 have := det2_any B g1 g2 n0 n1 t n0 s0 d0 s1 d1 s1 d1 s0 d0 (hT.below b) kB k1 k2 o0 o1 ot o0 z0 z1 z1 z0
 rw [et] at this
 have e : qOf n0 s0 d0 * qOf n0 s0 d0 - qOf n1 s1 d1 * -qOf n1 s1 d1 = qOf n0 s0 d0 * qOf n0 s0 d0 + qOf n1 s1 d1 * qOf n1 s1 d1 := by grind
 rw [e] at this
 exact this
end Go.Proofs.YtlpafjbbeljbhaaGreatDoor
namespace Go.Proofs.YtlpafjbbeljbhaaGreatDoor
open Go.RowKit

theorem okq_int (z : Int) : OkQ (nfZ z) (sfZ z) ⟨#[1]⟩ := ⟨okZ_nz z, by rw [← strOf_one]; exact okS_strOf 1, by rw [natOf_one]; omega, by rw [natOf_one]; exact Nat.gcd_one_right _⟩
theorem qOf_int (z : Int) : qOf (nfZ z) (sfZ z) ⟨#[1]⟩ = (z : Rat) := by
 unfold qOf
 rw [zOf_nz, natOf_one, Rat.mkRat_one]
theorem sz_int (z : Int) (h1 : -200 ≤ z) (h2 : z ≤ 200) : (sfZ z).size ≤ 170 ∧ (⟨#[1]⟩ : ByteArray).size ≤ 170 := by
 refine ⟨Nat.le_trans (Bd.size (k := 1) ?_) (by omega), by decide⟩
 unfold Bd
 simp
 omega
theorem chk_int (z : Int) (h1 : -200 ≤ z) (h2 : z ≤ 200) : chkq (nfZ z) (sfZ z) ⟨#[1]⟩ = 0 := chkq_ok (okq_int z) (by have := (sz_int z h1 h2).1; omega) (by decide)
theorem qI_z (z : Int) : (nfZ ((z : Rat)).num = nfZ z ∧ sfZ ((z : Rat)).num = sfZ z ∧ strOf ((z : Rat)).den = ⟨#[1]⟩) := ⟨rfl, rfl, strOf_one⟩
theorem live4_any (w : World) (hT : Tab w) : Calls Tryz.prog 10 #[] w fun e w' => e = .returned (.bool true) ∧ Below w.heap.size w w' := by
 refine live4_walk (nfZ 1) (nfZ 0) (nfZ 0) (nfZ 1) (nfZ 1) (nfZ 2) (nfZ 3) (nfZ 4) (nfZ (-2)) (sfZ 1) ⟨#[1]⟩ (sfZ 0) ⟨#[1]⟩ (sfZ 0) ⟨#[1]⟩ (sfZ 1) ⟨#[1]⟩ (sfZ 1) ⟨#[1]⟩ (sfZ 2) ⟨#[1]⟩ (sfZ 3) ⟨#[1]⟩ (sfZ 4) ⟨#[1]⟩ (sfZ (-2)) ⟨#[1]⟩ w ?_ ?_ ?_ ?_ ?_ ?_ ?_ ?_ ?_ ?_ ?_
 ·exact fun w1 => lat_any 1 0 (by omega) (by omega) (by omega) (by omega) w1
 ·exact fun w1 => lat_any 0 1 (by omega) (by omega) (by omega) (by omega) w1
 ·intro w1 b
  have h0 : two (twoq (nfZ 1) (sfZ 1) ⟨#[1]⟩ (nfZ 0) (sfZ 0) ⟨#[1]⟩) (twoq (nfZ 0) (sfZ 0) ⟨#[1]⟩ (nfZ 1) (sfZ 1) ⟨#[1]⟩) = 0 := two_zero.2 ⟨twoq_zero.2 ⟨chk_int 1 (by omega) (by omega), chk_int 0 (by omega) (by omega)⟩, twoq_zero.2 ⟨chk_int 0 (by omega) (by omega), chk_int 1 (by omega) (by omega)⟩⟩
  have := vCross_ok (nfZ 1) (nfZ 0) (nfZ 0) (nfZ 1) (sfZ 1) ⟨#[1]⟩ (sfZ 0) ⟨#[1]⟩ (sfZ 0) ⟨#[1]⟩ (sfZ 1) ⟨#[1]⟩ w1 (hT.below b) h0 (sz_int 1 (by omega) (by omega)) (sz_int 0 (by omega) (by omega)) (sz_int 0 (by omega) (by omega)) (sz_int 1 (by omega) (by omega))
  rw [qOf_int, qOf_int, show ((1 : Int) : Rat) * ((1 : Int) : Rat) - ((0 : Int) : Rat) * ((0 : Int) : Rat) = ((1 : Int) : Rat) by decide +kernel] at this
  rw [(qI_z 1).1, (qI_z 1).2.1, (qI_z 1).2.2] at this
  exact this
 ·exact fun w1 => roq_any 1 (by omega) (by omega) w1
 ·exact fun w1 => roq_any 2 (by omega) (by omega) w1
 ·exact fun w1 => roq_any 3 (by omega) (by omega) w1
 ·exact fun w1 => roq_any 4 (by omega) (by omega) w1
 ·exact fun w1 => roq_any (-2) (by omega) (by omega) w1
 ·intro B g1 g2 w1 b kB k1 k2
  have hB0 := kB.cell 0
  have hB1 := kB.cell 1
  simp only [List.getElem?_cons_zero, List.getElem?_cons_succ] at hB0 hB1
  have sm : ∀ z : Int, 1 ≤ z → z ≤ 4 → chkq (nfZ z) (sfZ z) ⟨#[1]⟩ = 0 := fun z a c => chk_int z (by omega) (by omega)
  have := vDet_sq (some ⟨B, 0, none⟩) 2 2 (fun _ => 0) (.agg #[.bool (nfZ (-2)), .string (sfZ (-2)), .string ⟨#[1]⟩]) 0 w1 (by omega) ?_ ?_ ?_
  ·exact this
  ·refine Or.inr ⟨rfl, rfl, ⟨_, _, _, rfl⟩, fun w2 b2 => ?_⟩
   have := det2_any B g1 g2 (nfZ 1) (nfZ 2) (nfZ 3) (nfZ 4) (sfZ 1) ⟨#[1]⟩ (sfZ 2) ⟨#[1]⟩ (sfZ 3) ⟨#[1]⟩ (sfZ 4) ⟨#[1]⟩ ((hT.below b).below b2) (kB.below b2) (k1.below b2) (k2.below b2) (okq_int 1) (okq_int 2) (okq_int 3) (okq_int 4) (sz_int 1 (by omega) (by omega)) (sz_int 2 (by omega) (by omega)) (sz_int 3 (by omega) (by omega)) (sz_int 4 (by omega) (by omega))
   rw [qOf_int, qOf_int, qOf_int, qOf_int, show ((1 : Int) : Rat) * ((4 : Int) : Rat) - ((2 : Int) : Rat) * ((3 : Int) : Rat) = ((-2 : Int) : Rat) by decide +kernel, qI_nz, (qI_z (-2)).1, (qI_z (-2)).2.1, (qI_z (-2)).2.2] at this
   exact this
  ·intro w2 b2
   have kB' := kB.below b2
   refine isSquare_yes (some ⟨B, 0, none⟩) 2 2 (fun _ => 2) (fun i => f2 (f2 (nfZ 1) (nfZ 3) i) (f2 (nfZ 2) (nfZ 4) i)) (fun i => f2 (f2 (sfZ 1) (sfZ 3) i) (f2 (sfZ 2) (sfZ 4) i)) (fun _ => f2 ⟨#[1]⟩ ⟨#[1]⟩) w2 (fun i hi => ?_) ⟨by omega, by omega, fun _ _ => rfl⟩
   match i, hi with
   | 0, _ => exact ⟨B, 0, some ⟨g1, 0, none⟩, 2, rfl, kB'.cell 0, Nat.le_refl _, rdq_2 (k1.below b2)⟩
   | 1, _ => exact ⟨B, 0, some ⟨g2, 0, none⟩, 2, rfl, kB'.cell 1, Nat.le_refl _, rdq_2 (k2.below b2)⟩
  ·intro i hi
   match i, hi with
   | 0, _ =>
    refine ⟨B, 0, some ⟨g1, 0, none⟩, 2, 2, rfl, hB0, fun w2 b2 => ?_⟩
    have := vcheck2 g1 (nfZ 1) (nfZ 2) (sfZ 1) ⟨#[1]⟩ (sfZ 2) ⟨#[1]⟩ w2 ((hT.below b).below b2) (k1.below b2)
    rw [twoq_zero.2 ⟨sm 1 (by omega) (by omega), sm 2 (by omega) (by omega)⟩] at this
    exact this
   | 1, _ =>
    refine ⟨B, 0, some ⟨g2, 0, none⟩, 2, 2, rfl, hB1, fun w2 b2 => ?_⟩
    have := vcheck2 g2 (nfZ 3) (nfZ 4) (sfZ 3) ⟨#[1]⟩ (sfZ 4) ⟨#[1]⟩ w2 ((hT.below b).below b2) (k2.below b2)
    rw [twoq_zero.2 ⟨sm 3 (by omega) (by omega), sm 4 (by omega) (by omega)⟩] at this
    exact this
 ·exact fun w1 => vDet_no none 0 0 w1 (fun w2 b2 => isSquare_few none 0 0 w2 (by omega))
 ·intro w1 b
  have := vCheck_any false false ⟨#[]⟩ ⟨#[]⟩ ⟨#[]⟩ ⟨#[]⟩ w1 (hT.below b)
  have hc : chkq false ⟨#[]⟩ ⟨#[]⟩ = 1 := by unfold chkq; rw [if_neg (by decide)]; exact if_pos (Or.inr (Or.inl rfl))
  rw [show twoq false ⟨#[]⟩ ⟨#[]⟩ false ⟨#[]⟩ ⟨#[]⟩ = 1 by unfold twoq; rw [hc]; rfl] at this
  exact this
end Go.Proofs.YtlpafjbbeljbhaaGreatDoor
