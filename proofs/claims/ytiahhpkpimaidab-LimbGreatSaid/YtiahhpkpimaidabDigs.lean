/-
  limb.Of of what is no Nat; package gussetref01: IsNat, Digits.
-/
import Derived.Test.YtiahhpkpimaidabOf
import Derived.Test.YtiahhpkpimaidabRdivMath
import Derived.Test.YtiahhpkpimaidabRefs
import Derived.BigRegion
namespace Go.Proofs.Ytiahhpkpimaidab
open Go.RowKit

set_option maxHeartbeats 1000000 in
theorem of_arg (s : ByteArray) (w : World) (hm : s.size ≤ 32000) (hs : 0 < s.size) (h0 : lm (byts s) 0 = 0) :
    Calls Try.prog 13 #[.string s] w fun e w' => e = .returned (.tuple #[.slice none 0 0, .int .i64 1]) ∧ w' = w := by
  have g1 : ((s[0]).toNat : Int) = 0 := by rw [byts_at s 0 hs, h0]; rfl
  have g3 : (s[0]).toNat = 0 := by omega
  have g2 : s[0] = 0 := UInt8.toNat.inj g3
  go_enter Try.func13, Try.ntmps13
  go_wp2
  go_ret2
  exact ⟨rfl, rfl⟩

theorem toList_ne {s : ByteArray} (hs : 0 < s.size) : ¬ s.toList = [] := by
  rw [ByteArray.toList_eq]
  intro h
  have := congrArg List.length h
  rw [Array.length_toList] at this
  have h2 : s.data.size = s.size := rfl
  rw [h2, List.length_nil] at this
  omega
/-! ### Digits -/
def DgAt (s : ByteArray) (zs : List Nat) (n k : Nat) : Prop := zs.length = n ∧ M.Low D32 zs ∧ M.val D32 zs = M.val 256 ((byts s).reverse.take k)
theorem dg_room {s : ByteArray} {zs : List Nat} {n m t P : Nat} (h : DgAt s zs n (4 * m + t)) (hP : P = 256 ^ t) : lm zs m < P := by
  obtain ⟨h1, h2, h3⟩ := h
  have e : M.val D32 zs < 256 ^ (4 * m + t) := by
    rw [h3]
    exact M.val_lt_pow (by omega) ((Low_reverse (byts_low s)).take _) (by simp; omega)
  have d := R.digit D32_pos h2 m
  have e2 : M.val D32 zs / D32 ^ m < P := by
    rw [Nat.div_lt_iff_lt_mul (Nat.pow_pos D32_pos), hP]
    rw [Nat.pow_add, Nat.pow_mul, Nat.mul_comm] at e
    exact e
  have e3 := Nat.mod_le (M.val D32 zs / D32 ^ m) D32
  unfold lm
  omega
theorem DgAt.step {s : ByteArray} {zs : List Nat} {n m t P : Nat} (h : DgAt s zs n (4 * m + t)) (ht : t < 4) (hP : P = 256 ^ t) (hm : m < n) (hk : 4 * m + t < s.size) (y : Nat) (hy : y = lm zs m + lm (byts s) (s.size - 1 - (4 * m + t)) * P) :
    DgAt s (zs.set m y) n (4 * m + t + 1) ∧ y < D32 := by
  have hr := dg_room h hP
  obtain ⟨h1, h2, h3⟩ := h
  have hx := lm_lt (by omega) (byts_low s) (s.size - 1 - (4 * m + t))
  have hyl : y < D32 := by
    have hP2 : 256 * P ≤ D32 := by
      rw [hP, Nat.mul_comm, ← Nat.pow_succ]
      exact Nat.pow_le_pow_right (j := 4) (by omega) (by omega)
    have : lm (byts s) (s.size - 1 - (4 * m + t)) * P ≤ 255 * P := Nat.mul_le_mul_right _ (by omega)
    omega
  refine ⟨⟨by rw [List.length_set]; exact h1, R.low_set h2 m y hyl, ?_⟩, hyl⟩
  have hv := R.val_set (b := D32) zs m (lm (byts s) (s.size - 1 - (4 * m + t)) * P) (by omega)
  rw [hy]
  show M.val D32 (zs.set m (zs.getD m 0 + _)) = _
  rw [hv, h3, M.val_take_succ]
  have e1 : (byts s).reverse.getD (4 * m + t) 0 = lm (byts s) (s.size - 1 - (4 * m + t)) := by
    unfold lm
    rw [List.getD_eq_getElem?_getD, List.getD_eq_getElem?_getD, List.getElem?_reverse (by rw [byts_length]; exact hk), byts_length]
  rw [e1]
  congr 1
  rw [hP, Nat.mul_comm (lm _ _), ← Nat.mul_assoc, Nat.pow_add, Nat.pow_mul]
  rfl

end Go.Proofs.Ytiahhpkpimaidab
