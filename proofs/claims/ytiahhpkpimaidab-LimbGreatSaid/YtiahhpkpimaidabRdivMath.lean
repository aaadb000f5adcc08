/-
  The arithmetic of a division bit by bit. No Go here.
-/
import Derived.Test.YtiahhpkpimaidabMath2
namespace Go.Proofs.Ytiahhpkpimaidab
namespace R

/-- A digit of a row is a digit of its number. -/
theorem digit {b : Nat} (hb : 0 < b) {xs : List Nat} (hl : M.Low b xs) (m : Nat) : M.val b xs / b ^ m % b = xs.getD m 0 := by
  have hp : 0 < b ^ m := Nat.pow_pos hb
  have e : M.val b xs = M.val b (xs.take m) + b ^ m * M.val b (xs.drop m) := by
    by_cases h : m ≤ xs.length
    · have := M.val_append b (xs.take m) (xs.drop m)
      rwa [List.take_append_drop, List.length_take, Nat.min_eq_left h] at this
    · rw [M.val_take_all _ _ _ (by omega), List.drop_of_length_le (by omega)]; simp [M.val]
  have hlt : M.val b (xs.take m) < b ^ m := M.val_lt_pow hb (hl.take m) (by simp; omega)
  rw [e, Nat.add_mul_div_left _ _ hp, Nat.div_eq_of_lt hlt, Nat.zero_add]
  have e2 := M.val_hd b (xs.drop m)
  have hg : (xs.drop m).getD 0 0 = xs.getD m 0 := by
    rw [List.getD_eq_getElem?_getD, List.getD_eq_getElem?_getD, List.getElem?_drop, Nat.add_zero]
  rw [e2, hg, Nat.add_mul_mod_self_left, Nat.mod_eq_of_lt (hl.getD hb m)]

theorem val_set {b : Nat} : ∀ (xs : List Nat) (m e : Nat), m < xs.length → M.val b (xs.set m (xs.getD m 0 + e)) = M.val b xs + b ^ m * e
  | [], m, e, h => by simp at h
  | x :: xs, 0, e, _ => by
    rw [List.set_cons_zero, M.val_cons, M.val_cons, List.getD_cons_zero, Nat.pow_zero, Nat.one_mul]; omega
  | x :: xs, m + 1, e, h => by
    rw [List.set_cons_succ, M.val_cons, M.val_cons, List.getD_cons_succ, val_set xs m e (by simpa using h), Nat.mul_add, Nat.pow_succ, ← Nat.mul_assoc, Nat.mul_comm b (b ^ m)]
    omega

theorem low_set {b : Nat} {xs : List Nat} (hl : M.Low b xs) (m y : Nat) (hy : y < b) : M.Low b (xs.set m y) := by
  intro x hx
  rcases List.mem_or_eq_of_mem_set hx with h | h
  · exact hl x h
  · rw [h]; exact hy

/-- Bit j of the number: it stands in digit m = j / 32 at place t = j % 32. -/
theorem bit {V D m t : Nat} (hD : D = 4294967296) (ht : t < 32) : V / 2 ^ (32 * m + t) % 2 = V / D ^ m % D / 2 ^ t % 2 := by
  have e1 : 2 ^ (32 * m + t) = D ^ m * 2 ^ t := by
    rw [Nat.pow_add, Nat.pow_mul, hD]
  rw [e1, ← Nat.div_div_eq_div_mul]
  generalize V / D ^ m = W
  have e2 : D = 2 ^ t * 2 ^ (32 - t) := by rw [← Nat.pow_add, show t + (32 - t) = 32 by omega, hD]
  have e3 : 2 ^ (32 - t) = 2 * 2 ^ (31 - t) := by rw [show 32 - t = (31 - t) + 1 by omega, Nat.pow_succ, Nat.mul_comm]
  have hT : 0 < 2 ^ t := Nat.pow_pos (by omega)
  have e4 : W % D / 2 ^ t = W / 2 ^ t % 2 ^ (32 - t) := by
    rw [e2, Nat.mod_mul_right_div_self]
  rw [e4, e3, Nat.mod_mul_right_mod]

/-- Room for the bit. -/
theorem room {Q D m t : Nat} (hD : D = 4294967296) (ht : t < 32) : Q * 2 ^ (32 * m + t + 1) / D ^ m % D + 2 ^ t < D := by
  have e1 : 2 ^ (32 * m + t + 1) = 2 ^ (t + 1) * D ^ m := by
    rw [show 32 * m + t + 1 = (t + 1) + 32 * m by omega, Nat.pow_add, Nat.pow_mul, hD]
  have hp : 0 < D ^ m := Nat.pow_pos (by omega)
  rw [e1, ← Nat.mul_assoc, Nat.mul_div_cancel _ hp]
  have e2 : D = 2 ^ (31 - t) * 2 ^ (t + 1) := by rw [← Nat.pow_add, show 31 - t + (t + 1) = 32 by omega, hD]
  have h1 : Q * 2 ^ (t + 1) % D = Q % 2 ^ (31 - t) * 2 ^ (t + 1) := by
    rw [e2, Nat.mul_mod_mul_right]
  rw [h1]
  have h2 : Q % 2 ^ (31 - t) + 1 ≤ 2 ^ (31 - t) := Nat.mod_lt _ (Nat.pow_pos (by omega))
  have h3 : (Q % 2 ^ (31 - t) + 1) * 2 ^ (t + 1) ≤ 2 ^ (31 - t) * 2 ^ (t + 1) := Nat.mul_le_mul_right _ h2
  rw [← e2, Nat.add_mul, Nat.one_mul] at h3
  have h4 : 2 ^ t < 2 ^ (t + 1) := Nat.pow_lt_pow_right (by omega) (by omega)
  omega

/-- One bit more. -/
theorem stepN {X Y j : Nat} (hY : 0 < Y) : 
    (2 * (X / 2 ^ (j + 1) % Y) + X / 2 ^ j % 2 < Y → X / 2 ^ j % Y = 2 * (X / 2 ^ (j + 1) % Y) + X / 2 ^ j % 2 ∧ X / 2 ^ j / Y = 2 * (X / 2 ^ (j + 1) / Y)) ∧
    (Y ≤ 2 * (X / 2 ^ (j + 1) % Y) + X / 2 ^ j % 2 → X / 2 ^ j % Y = 2 * (X / 2 ^ (j + 1) % Y) + X / 2 ^ j % 2 - Y ∧ X / 2 ^ j / Y = 2 * (X / 2 ^ (j + 1) / Y) + 1) := by
  have e1 : X / 2 ^ (j + 1) = X / 2 ^ j / 2 := by rw [Nat.pow_succ, Nat.div_div_eq_div_mul]
  rw [e1]
  generalize X / 2 ^ j = Z
  have h1 := Nat.div_add_mod Z 2
  have h2 := Nat.div_add_mod (Z / 2) Y
  have h3 := Nat.mod_lt (Z / 2) hY
  have h4 : Z % 2 < 2 := Nat.mod_lt _ (by omega)
  generalize Z / 2 % Y = r at *
  generalize Z / 2 / Y = q at *
  generalize Z % 2 = c at *
  have e : Z = Y * (2 * q) + (2 * r + c) := by rw [Nat.mul_left_comm]; omega
  refine ⟨fun h => ?_, fun h => ?_⟩
  · rw [e, Nat.mul_add_mod, Nat.mod_eq_of_lt h, Nat.mul_add_div hY, Nat.div_eq_of_lt h]
    exact ⟨rfl, rfl⟩
  · have e' : Z = Y * (2 * q + 1) + (2 * r + c - Y) := by rw [Nat.mul_add, Nat.mul_one]; omega
    have hlt : 2 * r + c - Y < Y := by omega
    rw [e', Nat.mul_add_mod, Nat.mod_eq_of_lt hlt, Nat.mul_add_div hY, Nat.div_eq_of_lt hlt]
    exact ⟨by omega, rfl⟩
end R
end Go.Proofs.Ytiahhpkpimaidab
