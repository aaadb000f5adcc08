/-
  The arithmetic of a long division. No Go here.
-/
import Derived.Test.YtiahhpkpimaidabMath2
namespace Go.Proofs.Ytiahhpkpimaidab
namespace L

/-- g is the quotient of V by D, or one more. -/
def Near (V D g : Nat) : Prop := V < g * D + D ∧ g * D < V + D

theorem near_three {b P d1 be Dl U low Vl g : Nat} (hd1 : 1 ≤ d1) (hDl : Dl < P) (hVl : Vl < P) (hg : g < b) (h1 : g * (d1 * b + be) ≤ U * b + low) (h2 : U * b + low < g * (d1 * b + be) + (d1 * b + be)) :
    Near ((U * b + low) * P + Vl) ((d1 * b + be) * P + Dl) g := by
  have q : b * P ≤ (d1 * b + be) * P := Nat.mul_le_mul_right _ (by
    have : 1 * b ≤ d1 * b := Nat.mul_le_mul_right _ hd1
    omega)
  generalize d1 * b + be = D2 at *
  generalize U * b + low = U3 at *
  have e1 : g * (D2 * P + Dl) = g * D2 * P + g * Dl := by rw [Nat.mul_add, Nat.mul_assoc]
  have e2 : (g * D2 + D2) * P = g * D2 * P + D2 * P := Nat.add_mul _ _ _
  have p1 : (U3 + 1) * P ≤ (g * D2 + D2) * P := Nat.mul_le_mul_right _ h2
  rw [Nat.add_mul, Nat.one_mul] at p1
  have p2 : g * D2 * P ≤ U3 * P := Nat.mul_le_mul_right _ h1
  have p3 : g * Dl ≤ g * P := Nat.mul_le_mul_left _ (by omega)
  have p4 : (g + 1) * P ≤ b * P := Nat.mul_le_mul_right _ hg
  rw [Nat.add_mul, Nat.one_mul] at p4
  unfold Near
  omega

theorem near_top {b P d1 be Dl top V : Nat} (hb : be < b) (hDl : Dl < P) (hd : b ≤ 2 * d1) (ht : d1 ≤ top) (hVt : top * (b * (b * P)) ≤ V) (hV : V < b * ((d1 * b + be) * P + Dl)) :
    Near V ((d1 * b + be) * P + Dl) (b - 1) := by
  have p1 : d1 * (b * (b * P)) ≤ top * (b * (b * P)) := Nat.mul_le_mul_right _ ht
  have p2 : b * ((d1 * b + be) * P + Dl + 1) ≤ b * ((d1 * b + b) * P) := Nat.mul_le_mul_left _ (by
    have : (d1 * b + be + 1) * P ≤ (d1 * b + b) * P := Nat.mul_le_mul_right _ (by omega)
    rw [Nat.add_mul _ 1, Nat.one_mul] at this
    omega)
  have e2 : b * ((d1 * b + b) * P) = d1 * (b * (b * P)) + b * (b * P) := by
    rw [Nat.add_mul, Nat.mul_add, Nat.mul_assoc d1, Nat.mul_left_comm b d1]
  have p3 : b * (b * P) ≤ 2 * ((d1 * b + be) * P + Dl) := by
    have : b * (b * P) ≤ (2 * d1) * (b * P) := Nat.mul_le_mul_right _ hd
    have e : (d1 * b + be) * P = d1 * (b * P) + be * P := by rw [Nat.add_mul, Nat.mul_assoc]
    rw [Nat.mul_assoc 2] at this
    omega
  generalize (d1 * b + be) * P + Dl = D at *
  rw [Nat.mul_add] at p2
  have e3 : (b - 1) * D + D = b * D := by
    have : b - 1 + 1 = b := by omega
    rw [← Nat.succ_mul, Nat.succ_eq_add_one, this]
  have hD : 0 < D := by
    rcases Nat.eq_zero_or_pos D with h | h
    · subst h; omega
    · exact h
  unfold Near
  refine ⟨by omega, ?_⟩
  omega

/-- Behind the subtraction, where nothing is missing. -/
theorem noBorrow {Bn D V g vs vs' ab c : Nat} (hV : V = vs + Bn * ab) (hn : Near V D g) (hD : D ≤ Bn) (e : vs' + D * g = vs + Bn * c) (h : c ≤ ab) : ab = c ∧ vs' < D ∧ V = g * D + vs' := by
  obtain ⟨n1, n2⟩ := hn
  obtain ⟨d, rfl⟩ : ∃ d, ab = c + d := ⟨ab - c, by omega⟩
  rw [Nat.mul_add] at hV
  rw [Nat.mul_comm D] at e
  have hd : d = 0 := by
    rcases Nat.eq_zero_or_pos d with h | h
    · exact h
    · have : Bn * 1 ≤ Bn * d := Nat.mul_le_mul_left _ h
      omega
  subst hd
  omega
/-- Where something is missing, the guess was one too great. -/
theorem borrow {Bn D V g vs vs' ab c : Nat} (hV : V = vs + Bn * ab) (hn : Near V D g) (hD : D ≤ Bn) (hv : vs' < Bn) (e : vs' + D * g = vs + Bn * c) (h : ab < c) :
    c = ab + 1 ∧ 0 < g ∧ ∀ vt c2, vt < Bn → c2 ≤ 1 → vt + Bn * c2 = vs' + D → c2 = 1 ∧ V = (g - 1) * D + vt ∧ vt < D := by
  obtain ⟨n1, n2⟩ := hn
  obtain ⟨d, rfl⟩ : ∃ d, c = ab + 1 + d := ⟨c - ab - 1, by omega⟩
  rw [Nat.mul_add, Nat.mul_add] at e
  rw [Nat.mul_comm D] at e
  have hd : d = 0 := by
    rcases Nat.eq_zero_or_pos d with h | h
    · exact h
    · have : Bn * 1 ≤ Bn * d := Nat.mul_le_mul_left _ h
      omega
  subst hd
  have hg : 0 < g := by
    rcases Nat.eq_zero_or_pos g with h | h
    · subst h; omega
    · exact h
  refine ⟨rfl, hg, ?_⟩
  intro vt c2 h1 h2 h3
  obtain ⟨p, rfl⟩ : ∃ p, g = p + 1 := ⟨g - 1, by omega⟩
  rw [Nat.add_sub_cancel]
  rw [Nat.add_mul] at *
  have h4 : c2 = 0 ∨ c2 = 1 := by omega
  rcases h4 with rfl | rfl <;> omega

/-- hi: the rest of the limbs from k on; qs: their quotient. -/
def LAt (b : Nat) (rs hi qs : List Nat) (n D t k : Nat) : Prop := hi.length = n ∧ M.Low b hi ∧ M.Low b qs ∧ qs.length + k = t ∧ M.val b hi < D ∧ M.val b (rs.drop k) = M.val b qs * D + M.val b hi
theorem LAt.step {b : Nat} {rs hi qs hi' : List Nat} {n D t j q : Nat} (h : LAt b rs hi qs n D t (j + 1)) (hj : j < rs.length) (h1 : hi'.length = n) (h2 : M.Low b hi') (h3 : q < b) (h4 : M.val b hi' < D) (h5 : rs.getD j 0 + b * M.val b hi = q * D + M.val b hi') :
    LAt b rs hi' (q :: qs) n D t j := by
  obtain ⟨a1, a2, a3, a4, a5, a6⟩ := h
  refine ⟨h1, h2, M.Low.cons h3 a3, by simp; omega, h4, ?_⟩
  have e : rs.drop j = rs.getD j 0 :: rs.drop (j + 1) := by
    rw [List.drop_eq_getElem_cons hj]; simp [List.getD, hj]
  rw [e, M.val_cons, a6, M.val_cons, Nat.add_mul, Nat.mul_add, Nat.mul_assoc]
  omega

/-- At the end. -/
theorem fin {X Y S D Q R : Nat} (hS : 0 < S) (hD : D = Y * S) (h : X * S = Q * D + R) (hR : R < D) : Q = X / Y ∧ R / S = X % Y := by
  subst hD
  have hY : 0 < Y := by
    rcases Nat.eq_zero_or_pos Y with h | h
    · subst h; rw [Nat.zero_mul] at hR; omega
    · exact h
  rw [← Nat.mul_assoc] at h
  have h1 : Q * Y ≤ X := by
    have : Q * Y * S ≤ X * S := by omega
    exact Nat.le_of_mul_le_mul_right this hS
  obtain ⟨Z, rfl⟩ : ∃ Z, X = Q * Y + Z := ⟨X - Q * Y, by omega⟩
  rw [Nat.add_mul] at h
  have hRZ : R = Z * S := by omega
  subst hRZ
  have hZ : Z < Y := Nat.lt_of_mul_lt_mul_right hR
  rw [Nat.mul_div_cancel _ hS, Nat.mul_comm Q, Nat.mul_add_div hY, Nat.div_eq_of_lt hZ, Nat.mul_add_mod, Nat.mod_eq_of_lt hZ]
  exact ⟨rfl, rfl⟩

/-- The highest limbs of a shifted row are below the divisor. -/
theorem top_lt {b S n t Y X R V : Nat} (hY : b ^ n ≤ Y) (hX : X < b ^ (n + t)) (h : X * S = R + b ^ t * V) (hS : 0 < S) : V < Y * S := by
  have h1 : b ^ t * V < b ^ t * (Y * S) := by
    have e1 : X * S < b ^ (n + t) * S := Nat.mul_lt_mul_of_pos_right hX hS
    have e2 : b ^ n * S ≤ Y * S := Nat.mul_le_mul_right _ hY
    have e3 : b ^ t * (b ^ n * S) ≤ b ^ t * (Y * S) := Nat.mul_le_mul_left _ e2
    have e4 : b ^ (n + t) * S = b ^ t * (b ^ n * S) := by rw [Nat.pow_add, Nat.mul_comm (b ^ n), Nat.mul_assoc]
    omega
  exact Nat.lt_of_mul_lt_mul_left h1

/-- What a row is, shifted until its highest bit is set. -/
theorem shift_lt {b P S Z T R : Nat} (hb : b = S * Z) (hR : R < P) (hT : T * S < b) (hS : 0 < S) : (R + P * T) * S < P * b := by
  have h1 : T < Z := by rw [hb, Nat.mul_comm] at hT; exact Nat.lt_of_mul_lt_mul_left hT
  have h2 : R + P * T < P * Z := by
    have : P * (T + 1) ≤ P * Z := Nat.mul_le_mul_left _ h1
    rw [Nat.mul_add] at this
    omega
  have h3 : (R + P * T) * S < P * Z * S := Nat.mul_lt_mul_of_pos_right h2 hS
  rw [hb, Nat.mul_comm S, ← Nat.mul_assoc]
  exact h3
theorem shift_hi {P S T R H Rl d : Nat} (hP : Rl < P) (hH : H ≤ T * S) (e : Rl + P * d = (R + P * T) * S) : H ≤ d := by
  have h1 : P * H ≤ P * (T * S) := Nat.mul_le_mul_left _ hH
  rw [Nat.add_mul, Nat.mul_assoc] at e
  by_cases h : H ≤ d
  · exact h
  · have : P * (d + 1) ≤ P * H := Nat.mul_le_mul_left _ (by omega)
    rw [Nat.mul_add] at this
    omega
theorem top_zero {P V e : Nat} (h : V + P * e < P) : e = 0 := by
  rcases Nat.eq_zero_or_pos e with h0 | h0
  · exact h0
  · have : P * 1 ≤ P * e := Nat.mul_le_mul_left _ h0
    omega
theorem part_lt {b x h D : Nat} (hx : x < b) (hh : h < D) : x + b * h < b * D := by
  have : b * (h + 1) ≤ b * D := Nat.mul_le_mul_left _ hh
  rw [Nat.mul_add] at this
  omega

theorem last1 (xs : List Nat) (h : xs ≠ []) : ∃ ys a, xs = ys ++ [a] := ⟨xs.dropLast, xs.getLast h, (List.dropLast_concat_getLast h).symm⟩
theorem last2 (xs : List Nat) (h : 2 ≤ xs.length) : ∃ ys a b, xs = ys ++ [a, b] := by
  obtain ⟨y1, b, rfl⟩ := last1 xs (by intro h0; subst h0; simp at h)
  obtain ⟨y2, a, rfl⟩ := last1 y1 (by intro h0; subst h0; simp at h)
  exact ⟨y2, a, b, by simp⟩
end L
end Go.Proofs.Ytiahhpkpimaidab
