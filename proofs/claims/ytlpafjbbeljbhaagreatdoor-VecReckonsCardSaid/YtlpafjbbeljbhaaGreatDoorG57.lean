/-
  gussetlaw04: VecReckons, of any two points.
-/
import Derived.Test.YtlpafjbbeljbhaaGreatDoorG54
import Derived.Test.YtlpafjbbeljbhaaGreatDoorG55
import Derived.Test.YtlpafjbbeljbhaaGreatDoorG56
namespace Go.Proofs.YtlpafjbbeljbhaaGreatDoor
open Go.RowKit Go.Shelf

theorem norm_some (n0 n1 : Bool) (s0 d0 s1 d1 : ByteArray) (z0 : s0.size ≤ 80 ∧ d0.size ≤ 80) (z1 : s1.size ≤ 80 ∧ d1.size ≤ 80) : ∃ vN vS vD, ∀ w, Tab w → Calls Tryz.prog 16 #[.agg #[.bool n0, .string s0, .string d0, .bool n1, .string s1, .string d1]] w fun e w' => e = .returned (.tuple #[.agg #[.bool vN, .string vS, .string vD], .int .i64 (twoq n0 s0 d0 n1 s1 d1 : Nat)]) ∧ Below w.heap.size w w' := by
 by_cases h : twoq n0 s0 d0 n1 s1 d1 = 0
 ·refine ⟨nfZ (qOf n0 s0 d0 * qOf n0 s0 d0 + qOf n1 s1 d1 * qOf n1 s1 d1).num, sfZ (qOf n0 s0 d0 * qOf n0 s0 d0 + qOf n1 s1 d1 * qOf n1 s1 d1).num, strOf (qOf n0 s0 d0 * qOf n0 s0 d0 + qOf n1 s1 d1 * qOf n1 s1 d1).den, fun w hT => ?_⟩
  rw [h]
  exact vNorm_ok n0 n1 s0 d0 s1 d1 w hT h (by omega) (by omega)
 ·exact ⟨false, ⟨#[]⟩, ⟨#[]⟩, fun w hT => vNorm_bad n0 n1 s0 d0 s1 d1 w hT h⟩
theorem reckons_law (n0 n1 n2 n3 : Bool) (s0 d0 s1 d1 s2 d2 s3 d3 : ByteArray) (w : World) (hT : Tab w) :
  Calls Tryz.prog 3 #[.agg #[.bool n0, .string s0, .string d0, .bool n1, .string s1, .string d1], .agg #[.bool n2, .string s2, .string d2, .bool n3, .string s3, .string d3]] w fun e w' => e = .returned (.bool true) ∧ Below w.heap.size w w' := by
 have HL : Hid (∀ w1, Below w.heap.size w w1 → Calls Tryz.prog 10 #[] w1 fun e w' => e = .returned (.bool true) ∧ Below w1.heap.size w1 w') := fun w1 b => live4_any w1 (hT.below b)
 have S0 := shut (fun w1 => small_any n0 n1 s0 d0 s1 d1 w1)
 have S1 := shut (fun w1 => small_any n2 n3 s2 d2 s3 d3 w1)
 by_cases h0 : (sh s0 d0 && sh s1 d1) = true
 ·rw [h0] at S0
  rw [Bool.and_eq_true] at h0
  have z0 := sh_true h0.1
  have z1 := sh_true h0.2
  by_cases h2 : (sh s2 d2 && sh s3 d3) = true
  ·rw [h2] at S1
   rw [Bool.and_eq_true] at h2
   have z2 := sh_true h2.1
   have z3 := sh_true h2.2
   have HP : Hid (∀ (B : Nat) (w1 : World), Cel w1 B [.bool n0, .string s0, .string d0, .bool n1, .string s1, .string d1, .bool n2, .string s2, .string d2, .bool n3, .string s3, .string d3] 28 → _) := fun B w1 k => rpoints2 B n0 n1 n2 n3 s0 d0 s1 d1 s2 d2 s3 d3 w1 k z0 z1 z2 z3
   have H6 : Hid (∀ w1, _) := fun w1 => rchk4_any n0 n1 s0 d0 s1 d1 w1 (by omega) (by omega) (by omega) (by omega)
   have H7 : Hid (∀ w1, Below w.heap.size w w1 → _) := fun w1 b => vCheck_any n0 n1 s0 d0 s1 d1 w1 (hT.below b)
   by_cases hE : two (twoq n0 s0 d0 n1 s1 d1) (twoq n2 s2 d2 n3 s3 d3) = 0
   ·rw [hE] at HP
    obtain ⟨e1, e2⟩ := two_zero.1 hE
    rw [e1] at H6 H7
    have o0 := (chkq_zero (twoq_zero.1 e1).1).1
    have o1 := (chkq_zero (twoq_zero.1 e1).2).1
    have o2 := (chkq_zero (twoq_zero.1 e2).1).1
    have o3 := (chkq_zero (twoq_zero.1 e2).2).1
    have H1 : Hid (∀ w1, Below w.heap.size w w1 → _) := fun w1 b => vplus_ok n0 n1 n2 n3 s0 d0 s1 d1 s2 d2 s3 d3 w1 (hT.below b) hE (by omega) (by omega) (by omega) (by omega)
    have H2 : Hid (∀ w1, Below w.heap.size w w1 → _) := fun w1 b => vminus_ok n0 n1 n2 n3 s0 d0 s1 d1 s2 d2 s3 d3 w1 (hT.below b) hE (by omega) (by omega) (by omega) (by omega)
    have H3 : Hid (∀ w1, Below w.heap.size w w1 → _) := fun w1 b => vDot_ok n0 n1 n2 n3 s0 d0 s1 d1 s2 d2 s3 d3 w1 (hT.below b) hE (by omega) (by omega) (by omega) (by omega)
    have H4 : Hid (∀ w1, Below w.heap.size w w1 → _) := fun w1 b => vCross_ok n0 n1 n2 n3 s0 d0 s1 d1 s2 d2 s3 d3 w1 (hT.below b) hE (by omega) (by omega) (by omega) (by omega)
    have H5 : Hid (∀ w1, Below w.heap.size w w1 → _) := fun w1 b => vNorm_ok n0 n1 s0 d0 s1 d1 w1 (hT.below b) e1 (by omega) (by omega)
    have b0 := o0.bq z0.1 z0.2
    have b1 := o1.bq z1.1 z1.2
    have b2 := o2.bq z2.1 z2.2
    have b3 := o3.bq z3.1 z3.2
    obtain ⟨K, hK⟩ : ∃ K, K = 2000 := ⟨_, rfl⟩
    have c02 := (vq_mul b0 b2).mono (show _ ≤ K by omega)
    have c13 := (vq_mul b1 b3).mono (show _ ≤ K by omega)
    have c03 := (vq_mul b0 b3).mono (show _ ≤ K by omega)
    have c12 := (vq_mul b1 b2).mono (show _ ≤ K by omega)
    have c00 := (vq_mul b0 b0).mono (show _ ≤ K by omega)
    have c11 := (vq_mul b1 b1).mono (show _ ≤ K by omega)
    have K1 : Hid (∀ w1, _) := fun w1 => rplus4_walk n0 n1 n2 n3 _ _ s0 d0 s1 d1 s2 d2 s3 d3 _ _ _ _ w1 (fun w2 => rsumq_any n0 n2 s0 d0 s2 d2 w2 o0 o2 (K := 80) (by omega) z0.1 z0.2 z2.1 z2.2) (fun w2 => rsumq_any n1 n3 s1 d1 s3 d3 w2 o1 o3 (K := 80) (by omega) z1.1 z1.2 z3.1 z3.2)
    have K2 : Hid (∀ w1, _) := fun w1 => rminus4_walk n0 n1 n2 n3 _ _ s0 d0 s1 d1 s2 d2 s3 d3 _ _ _ _ w1 (fun w2 => rlessq_any n0 n2 s0 d0 s2 d2 w2 o0 o2 (K := 80) (by omega) z0.1 z0.2 z2.1 z2.2) (fun w2 => rlessq_any n1 n3 s1 d1 s3 d3 w2 o1 o3 (K := 80) (by omega) z1.1 z1.2 z3.1 z3.2)
    have K3 : Hid (∀ w1, _) := fun w1 => rdot4_walk n0 n1 n2 n3 _ _ _ s0 d0 s1 d1 s2 d2 s3 d3 _ _ _ _ _ _ w1 (fun w2 => rtimesq_any n0 n2 s0 d0 s2 d2 w2 o0 o2 (K := 80) (by omega) z0.1 z0.2 z2.1 z2.2) (fun w2 => rtimesq_any n1 n3 s1 d1 s3 d3 w2 o1 o3 (K := 80) (by omega) z1.1 z1.2 z3.1 z3.2) (fun w2 => rsumI (qOf n0 s0 d0 * qOf n2 s2 d2) (qOf n1 s1 d1 * qOf n3 s3 d3) (by omega) c02 c13 w2)
    have K4 : Hid (∀ w1, _) := fun w1 => rcross4_walk n0 n1 n2 n3 _ _ _ s0 d0 s1 d1 s2 d2 s3 d3 _ _ _ _ _ _ w1 (fun w2 => rtimesq_any n0 n3 s0 d0 s3 d3 w2 o0 o3 (K := 80) (by omega) z0.1 z0.2 z3.1 z3.2) (fun w2 => rtimesq_any n1 n2 s1 d1 s2 d2 w2 o1 o2 (K := 80) (by omega) z1.1 z1.2 z2.1 z2.2) (fun w2 => rlessI (qOf n0 s0 d0 * qOf n3 s3 d3) (qOf n1 s1 d1 * qOf n2 s2 d2) (by omega) c03 c12 w2)
    have K5 : Hid (∀ w1, _) := fun w1 => rnorm4_walk n0 n1 _ s0 d0 s1 d1 _ _ w1 (fun w1 => rdot4_walk n0 n1 n0 n1 _ _ _ s0 d0 s1 d1 s0 d0 s1 d1 _ _ _ _ _ _ w1 (fun w2 => rtimesq_any n0 n0 s0 d0 s0 d0 w2 o0 o0 (K := 80) (by omega) z0.1 z0.2 z0.1 z0.2) (fun w2 => rtimesq_any n1 n1 s1 d1 s1 d1 w2 o1 o1 (K := 80) (by omega) z1.1 z1.2 z1.1 z1.2) (fun w2 => rsumI (qOf n0 s0 d0 * qOf n0 s0 d0) (qOf n1 s1 d1 * qOf n1 s1 d1) (by omega) c00 c11 w2))
    exact reckons_ok n0 n1 n2 n3 _ _ _ _ _ _ _ s0 d0 s1 d1 s2 d2 s3 d3 _ _ _ _ _ _ _ _ _ _ _ _ _ _ w HL S0 S1 HP H1 H2 H3 H4 H5 H6 H7 K1 K2 K3 K4 K5
   ·obtain ⟨vN, vS, vD, hv⟩ := norm_some n0 n1 s0 d0 s1 d1 z0 z1
    have H1 : Hid (∀ w1, Below w.heap.size w w1 → _) := fun w1 b => vplus_bad n0 n1 n2 n3 s0 d0 s1 d1 s2 d2 s3 d3 w1 (hT.below b) hE (by omega) (by omega) (by omega) (by omega)
    have H2 : Hid (∀ w1, Below w.heap.size w w1 → _) := fun w1 b => vminus_bad n0 n1 n2 n3 s0 d0 s1 d1 s2 d2 s3 d3 w1 (hT.below b) hE (by omega) (by omega) (by omega) (by omega)
    have H3 : Hid (∀ w1, Below w.heap.size w w1 → _) := fun w1 b => vDot_bad n0 n1 n2 n3 s0 d0 s1 d1 s2 d2 s3 d3 w1 (hT.below b) hE
    have H4 : Hid (∀ w1, Below w.heap.size w w1 → _) := fun w1 b => vCross_bad n0 n1 n2 n3 s0 d0 s1 d1 s2 d2 s3 d3 w1 (hT.below b) hE
    have H5 : Hid (∀ w1, Below w.heap.size w w1 → _) := fun w1 b => hv w1 (hT.below b)
    exact reckons_bad n0 n1 n2 n3 vN s0 d0 s1 d1 s2 d2 s3 d3 vS vD _ _ (by omega) w HL S0 S1 HP H1 H2 H3 H4 H5 H6 H7
  ·rw [Bool.not_eq_true] at h2
   rw [h2] at S1
   exact reckons_l2 n0 n1 n2 n3 s0 d0 s1 d1 s2 d2 s3 d3 w HL S0 S1
 ·rw [Bool.not_eq_true] at h0
  rw [h0] at S0
  exact reckons_l1 n0 n1 n2 n3 s0 d0 s1 d1 s2 d2 s3 d3 w HL S0
end Go.Proofs.YtlpafjbbeljbhaaGreatDoor
