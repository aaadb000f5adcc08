/-
  More plain arithmetic of rows of digits.
-/
import Derived.Test.YtiahhpkpimaidabMath
namespace Go.Proofs.Ytiahhpkpimaidab
namespace M
theorem Trim.tail {y : Nat} {ys : List Nat} (ht : Trim (y :: ys)) : Trim ys := by
  intro n hn
  have := ht (n + 1) (by simp [hn])
  simpa using this
theorem pow_le_val {b : Nat} : ∀ (ys : List Nat), Trim ys → ys ≠ [] → b ^ (ys.length - 1) ≤ val b ys
  | [], _, h => absurd rfl h
  | y :: ys, ht, _ => by
    by_cases hy : ys = []
    · subst hy; have := ht 0 rfl; simp at this; simp [val]; omega
    · have := pow_le_val (b := b) ys ht.tail hy
      rw [val_cons]
      have hlen : (y :: ys).length - 1 = (ys.length - 1) + 1 := by
        have : 0 < ys.length := List.length_pos_iff.2 hy
        simp; omega
      rw [hlen, Nat.pow_succ, Nat.mul_comm _ b]
      have := Nat.mul_le_mul_left b this
      omega
theorem lt_of_length {b : Nat} (hb : 0 < b) {xs ys : List Nat} (la : Low b xs) (ht : Trim ys) (h : xs.length < ys.length) : val b xs < val b ys := by
  have h1 := val_lt hb la
  have h2 := pow_le_val (b := b) ys ht (by intro e; rw [e] at h; simp at h)
  have h3 : b ^ xs.length ≤ b ^ (ys.length - 1) := Nat.pow_le_pow_right hb (by omega)
  omega
theorem digs_len_of_lt {b k n : Nat} (hb : 2 ≤ b) (h : n < b ^ k) : (digs b n).length ≤ k := by
  by_cases hk : (digs b n).length ≤ k
  · exact hk
  · exfalso
    have h1 := pow_le_val (b := b) (digs b n) (trim_digs hb n) (by intro e; rw [e] at hk; simp at hk)
    rw [val_digs hb] at h1
    have h2 : b ^ k ≤ b ^ ((digs b n).length - 1) := Nat.pow_le_pow_right (by omega) (by omega)
    omega
theorem val_lt_pow {b k : Nat} (hb : 0 < b) {xs : List Nat} (h : Low b xs) (hk : xs.length ≤ k) : val b xs < b ^ k :=
  Nat.lt_of_lt_of_le (val_lt hb h) (Nat.pow_le_pow_right hb hk)
theorem add_lt_pow {b k m n : Nat} (hb : 2 ≤ b) (h1 : m < b ^ k) (h2 : n < b ^ k) : m + n < b ^ (k + 1) := by
  rw [Nat.pow_succ]
  have : b ^ k * 2 ≤ b ^ k * b := Nat.mul_le_mul_left _ hb
  omega
theorem mul_lt_pow {b j k m n : Nat} (h1 : m < b ^ j) (h2 : n < b ^ k) : m * n < b ^ (j + k) := by
  rw [Nat.pow_add]; exact Nat.mul_lt_mul'' h1 h2
theorem half_carry {b V c s1 s2 k : Nat} (hb : 2 ≤ b) (h1 : s1 < b ^ k) (h2 : s2 < b ^ k) (hc : c ≤ 1) (h : V + b ^ (k + 1) * c = s1 + b ^ k * 0 + s2) : V = s1 + s2 := by
  rw [Nat.pow_succ] at h
  have e3 : b ^ k * 2 ≤ b ^ k * b := Nat.mul_le_mul_left _ hb
  have e4 : c = 0 ∨ c = 1 := by omega
  rcases e4 with rfl | rfl <;> omega
end M
end Go.Proofs.Ytiahhpkpimaidab
