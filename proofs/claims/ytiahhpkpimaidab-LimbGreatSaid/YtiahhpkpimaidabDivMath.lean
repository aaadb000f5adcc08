/-
  The arithmetic of a division limb by limb, in halves. No Go here.
-/
namespace Go.Proofs.Ytiahhpkpimaidab
namespace K

/-- What holds of a guessed half q, with its rest r. -/
def Inv (u d1 d0 Y l q r : Int) : Prop := q * d1 + r = u ∧ u * 4294967296 + l < q * d1 * 4294967296 + q * d0 + Y ∧ 0 ≤ q ∧ q ≤ 17179869184 ∧ 0 ≤ r ∧ r < 4294967296
/-- The half is right. -/
def Right (u Y l q : Int) : Prop := 0 ≤ q ∧ q < 4294967296 ∧ q * Y ≤ u * 4294967296 + l ∧ u * 4294967296 + l < q * Y + Y
/-- The setting. -/
structure Set0 (u d1 d0 Y l : Int) : Prop where
  hY : Y = d1 * 4294967296 + d0
  a1 : 2147483648 ≤ d1
  a2 : d1 < 4294967296
  b1 : 0 ≤ d0
  b2 : d0 < 4294967296
  u1 : 0 ≤ u
  u2 : u < Y
  l1 : 0 ≤ l
  l2 : l < 4294967296

variable {u d1 d0 Y l q r : Int}

theorem qY (hY : Y = d1 * 4294967296 + d0) : q * Y = q * d1 * 4294967296 + q * d0 := by
  rw [hY, Int.mul_add, Int.mul_assoc]

theorem start (h : Set0 u d1 d0 Y l) : Inv u d1 d0 Y l (u / d1) (u - u / d1 * d1) := by
  obtain ⟨hY, a1, a2, b1, b2, u1, u2, l1, l2⟩ := h
  have e := Int.mul_ediv_add_emod u d1
  have m0 := Int.emod_nonneg u (show d1 ≠ 0 by omega)
  have m1 := Int.emod_lt_of_pos u (show 0 < d1 by omega)
  have q0 : 0 ≤ u / d1 := Int.ediv_nonneg u1 (by omega)
  rw [Int.mul_comm d1] at e
  generalize u / d1 = q at *
  generalize u % d1 = m at *
  have p1 : 0 ≤ q * d0 := Int.mul_nonneg q0 b1
  have p2 : q * 2147483648 ≤ q * d1 := Int.mul_le_mul_of_nonneg_left a1 q0
  refine ⟨by omega, by omega, q0, by omega, by omega, by omega⟩

theorem right_of (h : Set0 u d1 d0 Y l) (i1 : q * d1 + r = u) (i2 : u * 4294967296 + l < q * d1 * 4294967296 + q * d0 + Y) (i3 : 0 ≤ q) (hle : q * d0 ≤ 4294967296 * r + l) : Right u Y l q := by
  obtain ⟨hY, a1, a2, b1, b2, u1, u2, l1, l2⟩ := h
  have e := qY (q := q) hY
  refine ⟨i3, ?_, by omega, by omega⟩
  by_cases hq : q < 4294967296
  · exact hq
  · exfalso
    have p1 : 4294967296 * d1 ≤ q * d1 := Int.mul_le_mul_of_nonneg_right (by omega) (by omega)
    have p2 : 4294967296 * d0 ≤ q * d0 := Int.mul_le_mul_of_nonneg_right (by omega) b1
    omega

/-- The test says no. -/
theorem no (h : Set0 u d1 d0 Y l) (i : Inv u d1 d0 Y l q r) (hle : q * d0 ≤ 4294967296 * r + l) : Right u Y l q := right_of h i.1 i.2.1 i.2.2.1 hle

theorem down (h : Set0 u d1 d0 Y l) (i : Inv u d1 d0 Y l q r) (ht : 4294967296 ≤ q ∨ 4294967296 * r + l < q * d0) :
    (q - 1) * d1 + (r + d1) = u ∧ u * 4294967296 + l < (q - 1) * d1 * 4294967296 + (q - 1) * d0 + Y ∧ 0 ≤ q - 1 := by
  obtain ⟨hY, a1, a2, b1, b2, u1, u2, l1, l2⟩ := h
  obtain ⟨i1, i2, i3, i4, i5, i6⟩ := i
  have s1 : (q - 1) * d1 = q * d1 - d1 := by rw [Int.sub_mul, Int.one_mul]
  have s2 : (q - 1) * d0 = q * d0 - d0 := by rw [Int.sub_mul, Int.one_mul]
  rw [s1, s2]
  have key : u * 4294967296 + l < q * d1 * 4294967296 + q * d0 := by
    rcases ht with ht | ht
    · have p1 : 4294967296 * d1 ≤ q * d1 := Int.mul_le_mul_of_nonneg_right ht (by omega)
      have p2 : 4294967296 * d0 ≤ q * d0 := Int.mul_le_mul_of_nonneg_right ht b1
      omega
    · omega
  refine ⟨by omega, by omega, ?_⟩
  rcases Int.lt_or_le 0 q with hq | hq
  · omega
  · have : q = 0 := by omega
    subst this
    simp at key
    omega
/-- The test says yes, and the rest stays a half. -/
theorem yes (h : Set0 u d1 d0 Y l) (i : Inv u d1 d0 Y l q r) (ht : 4294967296 ≤ q ∨ 4294967296 * r + l < q * d0) (hr : r + d1 < 4294967296) : Inv u d1 d0 Y l (q - 1) (r + d1) := by
  obtain ⟨g1, g2, g3⟩ := down h i ht
  have := h.a1
  exact ⟨g1, g2, g3, by have := i.2.2.2.1; omega, by have := i.2.2.2.2.1; omega, hr⟩
/-- The test says yes, and the rest is greater: it is right. -/
theorem brk (h : Set0 u d1 d0 Y l) (i : Inv u d1 d0 Y l q r) (ht : 4294967296 ≤ q ∨ 4294967296 * r + l < q * d0) (hr : 4294967296 ≤ r + d1) : Right u Y l (q - 1) := by
  obtain ⟨g1, g2, g3⟩ := down h i ht
  refine right_of h g1 g2 g3 ?_
  obtain ⟨hY, a1, a2, b1, b2, u1, u2, l1, l2⟩ := h
  have hq : q - 1 < 4294967296 := by
    by_cases hq : q - 1 < 4294967296
    · exact hq
    · exfalso
      have p1 : 4294967296 * d1 ≤ (q - 1) * d1 := Int.mul_le_mul_of_nonneg_right (by omega) (by omega)
      omega
  have p2 : (q - 1) * d0 ≤ 4294967296 * d0 := Int.mul_le_mul_of_nonneg_right (by omega) b1
  omega

/-- The rest behind a right half. -/
theorem rest (h : Right u Y l q) : 0 ≤ u * 4294967296 + l - q * Y ∧ u * 4294967296 + l - q * Y < Y := by
  obtain ⟨_, _, a, b⟩ := h; omega

/-- Both halves together. -/
theorem fin {hi lo y S L l1 l0 q1 q0 R R2 : Int} (hS : 0 < S) (hy : 0 < y) (eL : (hi * 18446744073709551616 + lo) * S = u * 18446744073709551616 + L) (eY : Y = y * S) (el : L = l1 * 4294967296 + l0)
    (e1 : R = u * 4294967296 + l1 - q1 * Y) (e2 : R2 = R * 4294967296 + l0 - q0 * Y) (r0 : 0 ≤ R2) (r1 : R2 < Y) :
    (hi * 18446744073709551616 + lo) / y = q1 * 4294967296 + q0 ∧ (hi * 18446744073709551616 + lo) % y = R2 / S := by
  generalize hi * 18446744073709551616 + lo = N at *
  have e3 : R2 = (N - (q1 * 4294967296 + q0) * y) * S := by
    rw [Int.sub_mul, eL, Int.mul_assoc, ← eY, Int.add_mul, Int.mul_right_comm]
    omega
  have e4 : R2 / S = N - (q1 * 4294967296 + q0) * y := by rw [e3, Int.mul_ediv_cancel _ (by omega)]
  have n0 : 0 ≤ N - (q1 * 4294967296 + q0) * y := by
    rw [← e4]; exact Int.ediv_nonneg r0 (by omega)
  have n1 : N - (q1 * 4294967296 + q0) * y < y := by
    rw [← e4]
    apply Int.ediv_lt_of_lt_mul hS
    rw [← eY]; exact r1
  have e5 : N / y = q1 * 4294967296 + q0 := by
    have : N = (N - (q1 * 4294967296 + q0) * y) + (q1 * 4294967296 + q0) * y := by omega
    rw [this, Int.add_mul_ediv_right _ _ (by omega), Int.ediv_eq_zero_of_lt n0 n1]
    omega
  refine ⟨e5, ?_⟩
  rw [e4, Int.emod_def, e5, Int.mul_comm y]
end K
end Go.Proofs.Ytiahhpkpimaidab
