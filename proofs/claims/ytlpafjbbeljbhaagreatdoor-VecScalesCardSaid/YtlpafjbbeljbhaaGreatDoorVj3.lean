/-
  gussetlaw04: VecScales, of any point and number.
-/
import Derived.Test.YtlpafjbbeljbhaaGreatDoorG38
import Derived.Test.YtlpafjbbeljbhaaGreatDoorG40
import Derived.Test.YtlpafjbbeljbhaaGreatDoorG41
import Derived.Test.YtlpafjbbeljbhaaGreatDoorVj2
namespace Go.Proofs.YtlpafjbbeljbhaaGreatDoor
open Go.RowKit Go.Shelf

theorem rchk4_any (n0 n1 : Bool) (s0 d0 s1 d1 : ByteArray) (w : World) (z0 : s0.size ≤ 8000) (y0 : d0.size ≤ 8000) (z1 : s1.size ≤ 8000) (y1 : d1.size ≤ 8000) :
  Calls Tryz.prog 17 #[.agg #[.bool n0, .string s0, .string d0, .bool n1, .string s1, .string d1]] w fun e w' => e = .returned (.int .i64 (twoq n0 s0 d0 n1 s1 d1 : Nat)) ∧ Below w.heap.size w w' :=
 rchk4_walk n0 n1 s0 d0 s1 d1 _ w (fun w1 => bothq_any n0 n1 s0 d0 s1 d1 w1 z0 y0 z1 y1)
theorem twoq_same (n : Bool) (s d : ByteArray) : twoq n s d n s d = chkq n s d := by unfold twoq; split <;> simp_all
theorem sh_true {s d : ByteArray} (h : sh s d = true) : s.size ≤ 80 ∧ d.size ≤ 80 := of_decide_eq_true h
theorem scales_law (n0 n1 n2 : Bool) (s0 d0 s1 d1 s2 d2 : ByteArray) (w : World) (hT : Tab w) :
  Calls Tryz.prog 4 #[.agg #[.bool n0, .string s0, .string d0, .bool n1, .string s1, .string d1], .agg #[.bool n2, .string s2, .string d2]] w fun e w' => e = .returned (.bool true) ∧ Below w.heap.size w w' := by
 have HL : Hid (∀ w1, Below w.heap.size w w1 → Calls Tryz.prog 10 #[] w1 fun e w' => e = .returned (.bool true) ∧ Below w1.heap.size w1 w') := fun w1 b => live4_any w1 (hT.below b)
 have S0 := shut (fun w1 => small_any n0 n1 s0 d0 s1 d1 w1)
 have S1 := shut (fun w1 => short_any n2 s2 d2 w1)
 by_cases h0 : (sh s0 d0 && sh s1 d1) = true
 ·rw [h0] at S0
  rw [Bool.and_eq_true] at h0
  have z0 := sh_true h0.1
  have z1 := sh_true h0.2
  by_cases h2 : sh s2 d2 = true
  ·rw [h2] at S1
   have z2 := sh_true h2
   have H2 := shut (fun w1 => rchk4_any n0 n1 s0 d0 s1 d1 w1 (by omega) (by omega) (by omega) (by omega))
   have H3 := shut (fun w1 => refc_any n2 s2 d2 w1 (by omega) (by omega))
   by_cases hE : two (twoq n0 s0 d0 n1 s1 d1) (twoq n2 s2 d2 n2 s2 d2) = 0
   ·have H1 : Hid (∀ w1, Below w.heap.size w w1 → _) := fun w1 b => vscale_ok n0 n1 n2 s0 d0 s1 d1 s2 d2 w1 (hT.below b) hE (by omega) (by omega) (by omega)
    obtain ⟨e1, e2⟩ := two_zero.1 hE
    have e3 : chkq n2 s2 d2 = 0 := by rw [← twoq_same]; exact e2
    have o0 := (chkq_zero (twoq_zero.1 e1).1).1
    have o1 := (chkq_zero (twoq_zero.1 e1).2).1
    have o2 := (chkq_zero e3).1
    rw [e1] at H2
    rw [e3] at H3
    refine scales_ok n0 n1 n2 _ _ s0 d0 s1 d1 s2 d2 _ _ _ _ w HL S0 S1 H1 H2 H3 (fun w1 => ?_)
    refine rscale_walk n0 n1 n2 _ _ s0 d0 s1 d1 s2 d2 _ _ _ _ w1 (fun w2 => ?_) (fun w2 => ?_)
    ·exact rtimesq_any n0 n2 s0 d0 s2 d2 w2 o0 o2 (K := 80) (by omega) z0.1 z0.2 z2.1 z2.2
    ·exact rtimesq_any n1 n2 s1 d1 s2 d2 w2 o1 o2 (K := 80) (by omega) z1.1 z1.2 z2.1 z2.2
   ·have H1 : Hid (∀ w1, Below w.heap.size w w1 → _) := fun w1 b => vscale_bad n0 n1 n2 s0 d0 s1 d1 s2 d2 w1 (hT.below b) hE (by omega) (by omega) (by omega)
    by_cases e1 : twoq n0 s0 d0 n1 s1 d1 = 0
    ·have e2 : two (twoq n0 s0 d0 n1 s1 d1) (twoq n2 s2 d2 n2 s2 d2) = chkq n2 s2 d2 := by unfold two; rw [if_pos e1, twoq_same]
     rw [e2] at H1 hE
     rw [e1] at H2
     exact scales_b2 n0 n1 n2 s0 d0 s1 d1 s2 d2 _ (by omega) w HL S0 S1 H1 H2 H3
    ·have e2 : two (twoq n0 s0 d0 n1 s1 d1) (twoq n2 s2 d2 n2 s2 d2) = twoq n0 s0 d0 n1 s1 d1 := by unfold two; rw [if_neg e1]
     rw [e2] at H1
     exact scales_b1 n0 n1 n2 s0 d0 s1 d1 s2 d2 _ (by omega) w HL S0 S1 H1 H2
  ·rw [Bool.not_eq_true] at h2
   rw [h2] at S1
   exact scales_l2 n0 n1 n2 s0 d0 s1 d1 s2 d2 w HL S0 S1
 ·rw [Bool.not_eq_true] at h0
  rw [h0] at S0
  exact scales_l1 n0 n1 n2 s0 d0 s1 d1 s2 d2 w HL S0
end Go.Proofs.YtlpafjbbeljbhaaGreatDoor
