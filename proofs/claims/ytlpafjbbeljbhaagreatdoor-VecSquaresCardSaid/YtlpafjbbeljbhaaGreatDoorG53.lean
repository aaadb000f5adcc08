/-
  gussetlaw04: VecSquares, of any two points.
-/
import Derived.Test.YtlpafjbbeljbhaaGreatDoorG52
namespace Go.Proofs.YtlpafjbbeljbhaaGreatDoor
open Go.RowKit Go.Shelf

theorem squares_law (n0 n1 n2 n3 : Bool) (s0 d0 s1 d1 s2 d2 s3 d3 : ByteArray) (w : World) (hT : Tab w) :
  Calls Tryz.prog 8 #[.agg #[.bool n0, .string s0, .string d0, .bool n1, .string s1, .string d1], .agg #[.bool n2, .string s2, .string d2, .bool n3, .string s3, .string d3]] w fun e w' => e = .returned (.bool true) ∧ Below w.heap.size w w' := by
 have HL : Hid (∀ w1, Below w.heap.size w w1 → Calls Tryz.prog 10 #[] w1 fun e w' => e = .returned (.bool true) ∧ Below w1.heap.size w1 w') := fun w1 b => live4_any w1 (hT.below b)
 have S0 := shut (fun w1 => small_any n0 n1 s0 d0 s1 d1 w1)
 have S1 := shut (fun w1 => small_any n2 n3 s2 d2 s3 d3 w1)
 by_cases h0 : (sh s0 d0 && sh s1 d1) = true
 ·rw [h0] at S0
  rw [Bool.and_eq_true] at h0
  have z0 := sh_true h0.1
  have z1 := sh_true h0.2
  by_cases h2 : (sh s2 d2 && sh s3 d3) = true
  ·rw [h2] at S1
   rw [Bool.and_eq_true] at h2
   have z2 := sh_true h2.1
   have z3 := sh_true h2.2
   have HP : Hid (∀ (B : Nat) (w1 : World), Cel w1 B [.bool n0, .string s0, .string d0, .bool n1, .string s1, .string d1, .bool n2, .string s2, .string d2, .bool n3, .string s3, .string d3] 28 → _) := fun B w1 k => rpoints2 B n0 n1 n2 n3 s0 d0 s1 d1 s2 d2 s3 d3 w1 k z0 z1 z2 z3
   by_cases hE : two (twoq n0 s0 d0 n1 s1 d1) (twoq n2 s2 d2 n3 s3 d3) = 0
   ·rw [hE] at HP
    obtain ⟨e1, e2⟩ := two_zero.1 hE
    have o0 := (chkq_zero (twoq_zero.1 e1).1).1
    have o1 := (chkq_zero (twoq_zero.1 e1).2).1
    have o2 := (chkq_zero (twoq_zero.1 e2).1).1
    have o3 := (chkq_zero (twoq_zero.1 e2).2).1
    have H1 : Hid (∀ w1, Below w.heap.size w w1 → _) := fun w1 b => vDot_ok n0 n1 n2 n3 s0 d0 s1 d1 s2 d2 s3 d3 w1 (hT.below b) hE (by omega) (by omega) (by omega) (by omega)
    have H2 : Hid (∀ w1, Below w.heap.size w w1 → _) := fun w1 b => vCross_ok n0 n1 n2 n3 s0 d0 s1 d1 s2 d2 s3 d3 w1 (hT.below b) hE (by omega) (by omega) (by omega) (by omega)
    have H3 : Hid (∀ w1, Below w.heap.size w w1 → _) := fun w1 b => vNorm_ok n0 n1 s0 d0 s1 d1 w1 (hT.below b) e1 (by omega) (by omega)
    have H4 : Hid (∀ w1, Below w.heap.size w w1 → _) := fun w1 b => vNorm_ok n2 n3 s2 d2 s3 d3 w1 (hT.below b) e2 (by omega) (by omega)
    have b0 := o0.bq z0.1 z0.2
    have b1 := o1.bq z1.1 z1.2
    have b2 := o2.bq z2.1 z2.2
    have b3 := o3.bq z3.1 z3.2
    have bd := vq_add (vq_mul b0 b2) (vq_mul b1 b3)
    have bc := vq_sub (vq_mul b0 b3) (vq_mul b1 b2)
    have bm := vq_add (vq_mul b0 b0) (vq_mul b1 b1)
    have bn := vq_add (vq_mul b2 b2) (vq_mul b3 b3)
    obtain ⟨K, hK⟩ : ∃ K, K = 2000 := ⟨_, rfl⟩
    have sd := (vq_mul bd bd).mono (show _ ≤ K by omega)
    have sc := (vq_mul bc bc).mono (show _ ≤ K by omega)
    replace bd := bd.mono (show _ ≤ K by omega)
    replace bc := bc.mono (show _ ≤ K by omega)
    replace bm := bm.mono (show _ ≤ K by omega)
    replace bn := bn.mono (show _ ≤ K by omega)
    have id : (qOf n0 s0 d0 * qOf n0 s0 d0 + qOf n1 s1 d1 * qOf n1 s1 d1) * (qOf n2 s2 d2 * qOf n2 s2 d2 + qOf n3 s3 d3 * qOf n3 s3 d3) = (qOf n0 s0 d0 * qOf n2 s2 d2 + qOf n1 s1 d1 * qOf n3 s3 d3) * (qOf n0 s0 d0 * qOf n2 s2 d2 + qOf n1 s1 d1 * qOf n3 s3 d3) + (qOf n0 s0 d0 * qOf n3 s3 d3 - qOf n1 s1 d1 * qOf n2 s2 d2) * (qOf n0 s0 d0 * qOf n3 s3 d3 - qOf n1 s1 d1 * qOf n2 s2 d2) := by grind
    have H5 : Hid (∀ w1, _) := fun w1 => rsquare_walk _ _ _ _ _ _ w1 (fun w2 => rtimesI (qOf n0 s0 d0 * qOf n2 s2 d2 + qOf n1 s1 d1 * qOf n3 s3 d3) (qOf n0 s0 d0 * qOf n2 s2 d2 + qOf n1 s1 d1 * qOf n3 s3 d3) (by omega) bd bd w2)
    have H6 : Hid (∀ w1, _) := fun w1 => rsquare_walk _ _ _ _ _ _ w1 (fun w2 => rtimesI (qOf n0 s0 d0 * qOf n3 s3 d3 - qOf n1 s1 d1 * qOf n2 s2 d2) (qOf n0 s0 d0 * qOf n3 s3 d3 - qOf n1 s1 d1 * qOf n2 s2 d2) (by omega) bc bc w2)
    have H7 : Hid (∀ w1, _) := fun w1 => rsumI ((qOf n0 s0 d0 * qOf n2 s2 d2 + qOf n1 s1 d1 * qOf n3 s3 d3) * (qOf n0 s0 d0 * qOf n2 s2 d2 + qOf n1 s1 d1 * qOf n3 s3 d3)) ((qOf n0 s0 d0 * qOf n3 s3 d3 - qOf n1 s1 d1 * qOf n2 s2 d2) * (qOf n0 s0 d0 * qOf n3 s3 d3 - qOf n1 s1 d1 * qOf n2 s2 d2)) (by omega) sd sc w1
    have H8 : Hid (∀ w1, _) := fun w1 => rtimesI (qOf n0 s0 d0 * qOf n0 s0 d0 + qOf n1 s1 d1 * qOf n1 s1 d1) (qOf n2 s2 d2 * qOf n2 s2 d2 + qOf n3 s3 d3 * qOf n3 s3 d3) (by omega) bm bn w1
    rw [id] at H8
    exact squares_ok n0 n1 n2 n3 _ _ _ _ _ _ _ s0 d0 s1 d1 s2 d2 s3 d3 _ _ _ _ _ _ _ _ _ _ _ _ _ _ w HL S0 S1 HP H1 H2 H3 H4 H5 H6 H7 H8
   ·exact squares_l3 n0 n1 n2 n3 s0 d0 s1 d1 s2 d2 s3 d3 _ (by omega) w HL S0 S1 HP
  ·rw [Bool.not_eq_true] at h2
   rw [h2] at S1
   exact squares_l2 n0 n1 n2 n3 s0 d0 s1 d1 s2 d2 s3 d3 w HL S0 S1
 ·rw [Bool.not_eq_true] at h0
  rw [h0] at S0
  exact squares_l1 n0 n1 n2 n3 s0 d0 s1 d1 s2 d2 s3 d3 w HL S0
end Go.Proofs.YtlpafjbbeljbhaaGreatDoor
