/-
  Euclid's steps, many at once: what the factors of such steps make of two numbers, and when leading parts tell them.
  Steps that are sure from the leading limbs alone, twice.
  Greatest common divisors by halves and differences.
-/
import Derived.Test.YtimmgjlojplccaaGreatDoorG01
namespace Go.Proofs.YtimmgjlojplccaaGreatDoor

namespace M

/-- Steps of Euclid, taken: X and Y out of what they left. -/
structure Eu (a b c d X Y X' Y' : Nat) : Prop where
  x : X = d * X' + b * Y'
  y : Y = c * X' + a * Y'
  u : a * d = b * c + 1 ∨ b * c = a * d + 1

theorem Eu.refl (X Y : Nat) : Eu 1 0 0 1 X Y X Y := ⟨by omega, by omega, by omega⟩

/-- One step more. -/
theorem Eu.step {a b c d X Y X' Y' q R : Nat} (h : Eu a b c d X Y X' Y') (hq : X' = q * Y' + R) : Eu c d (a + q * c) (b + q * d) X Y Y' R := by
  obtain ⟨h1, h2, h3⟩ := h
  refine ⟨?_, ?_, ?_⟩
  · rw [h1, hq, Nat.mul_add, Nat.add_mul]
    have : d * (q * Y') = q * d * Y' := by rw [← Nat.mul_assoc, Nat.mul_comm d q]
    omega
  · rw [h2, hq, Nat.mul_add, Nat.add_mul]
    have : c * (q * Y') = q * c * Y' := by rw [← Nat.mul_assoc, Nat.mul_comm c q]
    omega
  · rw [Nat.mul_add, Nat.mul_add]
    have e1 : c * (q * d) = d * (q * c) := by rw [Nat.mul_left_comm, Nat.mul_left_comm d q, Nat.mul_comm c d]
    have e2 : c * b = b * c := Nat.mul_comm ..
    have e3 : d * a = a * d := Nat.mul_comm ..
    omega

/-- Steps after steps. -/
theorem Eu.trans {a b c d X Y X' Y' a2 b2 c2 d2 X2 Y2 : Nat} (h : Eu a b c d X Y X' Y') (h2 : Eu a2 b2 c2 d2 X' Y' X2 Y2) :
    Eu (a2 * a + b2 * c) (a2 * b + b2 * d) (c2 * a + d2 * c) (c2 * b + d2 * d) X Y X2 Y2 := by
  obtain ⟨h1, h2', h3⟩ := h
  obtain ⟨k1, k2, k3⟩ := h2
  refine ⟨?_, ?_, ?_⟩
  · rw [h1, k1, k2]; grind
  · rw [h2', k1, k2]; grind
  · rcases h3 with h3 | h3 <;> rcases k3 with k3 | k3
    · left; grind
    · right; grind
    · right; grind
    · left; grind

/-- What the factors make of X and Y. -/
theorem Eu.take {a b c d X Y X' Y' : Nat} (h : Eu a b c d X Y X' Y') :
    (a * X = b * Y + X' ∧ d * Y = c * X + Y') ∨ (b * Y = a * X + X' ∧ c * X = d * Y + Y') := by
  obtain ⟨h1, h2, h3⟩ := h
  rcases h3 with h3 | h3
  · left
    rw [h1, h2]
    constructor <;> grind
  · right
    rw [h1, h2]
    constructor <;> grind

theorem Eu.gcd {a b c d X Y X' Y' : Nat} (h : Eu a b c d X Y X' Y') : Nat.gcd X' Y' = Nat.gcd X Y := by
  apply Nat.dvd_antisymm
  · apply Nat.dvd_gcd
    · rw [h.x]; exact Nat.dvd_add (Nat.dvd_mul_left_of_dvd (Nat.gcd_dvd_left ..) _) (Nat.dvd_mul_left_of_dvd (Nat.gcd_dvd_right ..) _)
    · rw [h.y]; exact Nat.dvd_add (Nat.dvd_mul_left_of_dvd (Nat.gcd_dvd_left ..) _) (Nat.dvd_mul_left_of_dvd (Nat.gcd_dvd_right ..) _)
  · have dx := Nat.gcd_dvd_left X Y
    have dy := Nat.gcd_dvd_right X Y
    generalize Nat.gcd X Y = g at *
    have m1 : ∀ k, g ∣ k * X := fun k => Nat.dvd_mul_left_of_dvd dx k
    have m2 : ∀ k, g ∣ k * Y := fun k => Nat.dvd_mul_left_of_dvd dy k
    rcases h.take with ⟨e1, e2⟩ | ⟨e1, e2⟩
    · exact Nat.dvd_gcd ((Nat.dvd_add_right (m2 b)).1 (e1 ▸ m1 a)) ((Nat.dvd_add_right (m1 c)).1 (e2 ▸ m2 d))
    · exact Nat.dvd_gcd ((Nat.dvd_add_right (m1 a)).1 (e1 ▸ m2 b)) ((Nat.dvd_add_right (m2 d)).1 (e2 ▸ m1 c))
end M
namespace M
/-- x and y are leading parts of m X and m Y, in units of S. -/
structure Lead (m S x y X Y : Int) : Prop where
  x1 : -S < 4 * (m * X - x * S)
  x2 : 4 * (m * X - x * S) < 5 * S
  y1 : -S < 4 * (m * Y - y * S)
  y2 : 4 * (m * Y - y * S) < 5 * S

/-- Steps that the leading parts tell. -/
def Few (x y a b c d p r : Nat) : Prop :=
  (a = 1 ∧ b = 0 ∧ c = 0 ∧ d = 1 ∧ p = x ∧ r = y) ∨
  (1 ≤ b ∧ 1 ≤ c ∧ c ≤ d ∧ a ≤ b ∧ 1 ≤ d ∧ r < p ∧ ∀ m S X Y : Nat, 0 < m → 0 < S → Lead m S x y X Y →
    ∃ X' Y' : Nat, Eu a b c d X Y X' Y' ∧ 0 < Y' ∧ Y' < X' ∧
      -(6 * (b * S : Int)) ≤ 4 * (m * X' - p * S) ∧ 4 * (m * X' - p * S) ≤ 6 * (b * S : Int) ∧
      -(6 * (d * S : Int)) ≤ 4 * (m * Y' - r * S) ∧ 4 * (m * Y' - r * S) ≤ 6 * (d * S : Int))

theorem Few.zero (x y : Nat) : Few x y 1 0 0 1 x y := Or.inl ⟨rfl, rfl, rfl, rfl, rfl, rfl⟩

/-- A step more is sure. -/
theorem sure {m S X' Y' p r q t b d : Nat} {E F : Int} (hm : 0 < m) (hS : 0 < S) (hp : p = q * r + t) (hd : 1 ≤ b + q * d) (t1 : 2 * (b + q * d) ≤ t) (t2 : 2 * (d + (b + q * d)) + t ≤ r)
    (hF : F = m * Y' - r * S)
    (F1 : -(6 * (d * S : Int)) ≤ 4 * F) (F2 : 4 * F ≤ 6 * (d * S : Int)) (hE : E = m * X' - p * S)
    (G1 : -(6 * ((b + q * d : Nat) * S : Int)) ≤ 4 * (E - q * F)) (G2 : 4 * (E - q * F) ≤ 6 * ((b + q * d : Nat) * S : Int)) :
    ∃ R : Nat, X' = q * Y' + R ∧ 0 < R ∧ R < Y' ∧
      -(6 * (d * S : Int)) ≤ 4 * (m * Y' - r * S) ∧ 4 * (m * Y' - r * S) ≤ 6 * (d * S : Int) ∧
      -(6 * ((b + q * d : Nat) * S : Int)) ≤ 4 * (m * R - t * S) ∧ 4 * (m * R - t * S) ≤ 6 * ((b + q * d : Nat) * S : Int) := by
  generalize hD : b + q * d = D at *
  -- the rest
  have hG : E - q * F = m * ((X' : Int) - q * Y') - t * S := by
    rw [hE, hF, hp]
    push_cast
    grind
  have k1 : ((2 * D * S : Nat) : Int) ≤ ((t * S : Nat) : Int) := Int.ofNat_le.2 (Nat.mul_le_mul_right S t1)
  have k2 : ((2 * (d + D) + t) * S : Nat) ≤ r * S := Nat.mul_le_mul_right S t2
  have k2' : (((2 * (d + D) + t) * S : Nat) : Int) ≤ ((r * S : Nat) : Int) := Int.ofNat_le.2 k2
  have k0 : 0 < D * S := Nat.mul_pos (by omega) hS
  have k0' : (0 : Int) < ((D * S : Nat) : Int) := by omega
  have e1 : ((2 * D * S : Nat) : Int) = 2 * (D * S : Int) := by push_cast; rw [Int.mul_assoc]
  have e2 : (((2 * (d + D) + t) * S : Nat) : Int) = 2 * (d * S : Int) + 2 * (D * S : Int) + t * S := by push_cast; grind
  have e3 : ((D * S : Nat) : Int) = (D : Int) * S := by push_cast; rfl
  have e4 : ((t * S : Nat) : Int) = (t : Int) * S := by push_cast; rfl
  have e5 : ((r * S : Nat) : Int) = (r : Int) * S := by push_cast; rfl
  rw [e1, e4] at k1
  rw [e2, e5] at k2'
  rw [e3] at k0'
  rw [hG] at G1 G2
  have pos : 0 < (m : Int) * ((X' : Int) - q * Y') := by omega
  have pos' : 0 < (X' : Int) - q * Y' := by
    rcases Int.lt_or_le 0 ((X' : Int) - q * Y') with h | h
    · exact h
    · have := Int.mul_nonpos_of_nonneg_of_nonpos (a := (m : Int)) (by omega) h
      omega
  obtain ⟨R, hR⟩ : ∃ R : Nat, (R : Int) = (X' : Int) - q * Y' := ⟨((X' : Int) - q * Y').toNat, by omega⟩
  rw [← hR] at G1 G2 pos pos'
  rw [hF] at F1 F2
  have lt : (m : Int) * R < m * Y' := by omega
  refine ⟨R, ?_, by omega, ?_, F1, F2, G1, G2⟩
  · have : (X' : Int) = ((q * Y' + R : Nat) : Int) := by push_cast; omega
    omega
  · have := Int.lt_of_mul_lt_mul_left lt (by omega)
    omega

theorem Few.step {x y a b c d p r q t : Nat} (h : Few x y a b c d p r) (hxy : y ≤ x) (hp : p = q * r + t) (ht : t < r) (t1 : 2 * (b + q * d) ≤ t) (t2 : 2 * (d + (b + q * d)) + t ≤ r) :
    Few x y c d (a + q * c) (b + q * d) r t := by
  rcases h with ⟨rfl, rfl, rfl, rfl, rfl, rfl⟩ | ⟨hb, hc, hcd, hab, hd, hrp, H⟩
  · have hq : 1 ≤ q := by
      rcases Nat.eq_zero_or_pos q with h | h
      · subst h; omega
      · exact h
    refine Or.inr ⟨by omega, by omega, by omega, by omega, by omega, ht, fun m S X Y hm hS L => ?_⟩
    have kq : ((S : Nat) : Int) ≤ ((q * S : Nat) : Int) := by have := Nat.mul_le_mul_right S hq; omega
    have eq : ((q * S : Nat) : Int) = (q : Int) * S := by push_cast; rfl
    obtain ⟨l1, l2, l3, l4⟩ := L
    generalize hE : (m : Int) * X - p * S = E at l1 l2
    generalize hF : (m : Int) * Y - r * S = F at l3 l4
    have f1 : (q : Int) * (4 * F) ≤ q * (5 * S) := Int.mul_le_mul_of_nonneg_left (by omega) (by omega)
    have f2 : (q : Int) * (-S) ≤ q * (4 * F) := Int.mul_le_mul_of_nonneg_left (by omega) (by omega)
    have g1 : (q : Int) * (4 * F) = 4 * (q * F) := by grind
    have g2 : (q : Int) * (5 * S) = 5 * (q * S) := by grind
    have g3 : (q : Int) * (-S) = -(q * S) := by grind
    have ed : (((0 + q * 1 : Nat) : Int) * S) = (q : Int) * S := by simp
    have ed1 : ((1 : Nat) : Int) * S = S := by simp
    rw [g1, g2] at f1
    rw [g1, g3] at f2
    obtain ⟨R, e, r1, r2, w1, w2, w3, w4⟩ := sure (b := 0) (d := 1) hm hS hp (by omega) t1 t2 hF.symm (by rw [ed1]; omega) (by rw [ed1]; omega) hE.symm (by rw [ed]; omega) (by rw [ed]; omega)
    exact ⟨Y, R, (Eu.refl X Y).step e, r1, r2, w1, w2, w3, w4⟩
  · have hq : 1 ≤ q := by
      rcases Nat.eq_zero_or_pos q with h | h
      · subst h; omega
      · exact h
    have hqc := Nat.mul_le_mul hq hc
    refine Or.inr ⟨by omega, by omega, ?_, by omega, by omega, ht, fun m S X Y hm hS L => ?_⟩
    · have := Nat.mul_le_mul_left q hcd; omega
    obtain ⟨X', Y', eu, y0, yx, u1, u2, u3, u4⟩ := H m S X Y hm hS L
    generalize hE : (m : Int) * X' - p * S = E at u1 u2
    generalize hF : (m : Int) * Y' - r * S = F at u3 u4
    have f1 : (q : Int) * (4 * F) ≤ q * (6 * (d * S)) := Int.mul_le_mul_of_nonneg_left u4 (by omega)
    have f2 : (q : Int) * (-(6 * (d * S))) ≤ q * (4 * F) := Int.mul_le_mul_of_nonneg_left u3 (by omega)
    have g1 : (q : Int) * (4 * F) = 4 * (q * F) := by grind
    have g2 : (q : Int) * (6 * (d * S)) = 6 * (q * d * S) := by grind
    have g3 : (q : Int) * (-(6 * (d * S))) = -(6 * (q * d * S)) := by grind
    have ed : (((b + q * d : Nat) : Int) * S) = (b : Int) * S + q * d * S := by push_cast; grind
    rw [g1, g2] at f1
    rw [g1, g3] at f2
    obtain ⟨R, e, r1, r2, w1, w2, w3, w4⟩ := sure (b := b) (d := d) hm hS hp (by omega) t1 t2 hF.symm u3 u4 hE.symm (by rw [ed]; omega) (by rw [ed]; omega)
    exact ⟨Y', R, eu.step e, r1, r2, w1, w2, w3, w4⟩
end M
end Go.Proofs.YtimmgjlojplccaaGreatDoor
namespace Go.Proofs.YtimmgjlojplccaaGreatDoor

namespace M
theorem Few.small {x y a b c d p r K : Nat} (h : Few x y a b c d p r) (hb : b < K) (hd : d < K) : a < K ∧ c < K ∧ 1 ≤ d := by
  rcases h with ⟨h1, h2, h3, h4, -⟩ | ⟨-, h2, h3, h4, h5, -⟩ <;> omega
theorem Few.eu {x y a b c d p r : Nat} (h : Few x y a b c d p r) {m S X Y : Nat} (hm : 0 < m) (hS : 0 < S) (L : Lead m S x y X Y) (hYX : Y ≤ X) :
    ∃ X' Y', Eu a b c d X Y X' Y' ∧ Y' ≤ X' ∧ ((a = 1 ∧ b = 0 ∧ c = 0 ∧ d = 1) ∨ (0 < Y' ∧ Y' < X' ∧ 1 ≤ b ∧ 1 ≤ c ∧ 1 ≤ d)) := by
  rcases h with ⟨rfl, rfl, rfl, rfl, -⟩ | ⟨h1, h2, h3, h4, h5, h6, H⟩
  · exact ⟨X, Y, Eu.refl X Y, hYX, Or.inl ⟨rfl, rfl, rfl, rfl⟩⟩
  · obtain ⟨X', Y', eu, k1, k2, -⟩ := H m S X Y hm hS L
    exact ⟨X', Y', eu, by omega, Or.inr ⟨k1, k2, h1, h2, h5⟩⟩
theorem lead_of {m S x y X Y e f : Nat} (h1 : m * X = x * S + e) (he : e < S) (h2 : m * Y = y * S + f) (hf : f < S) : Lead m S x y X Y := by
  have a1 : (m : Int) * X - x * S = e := by
    have : ((m * X : Nat) : Int) = ((x * S + e : Nat) : Int) := by rw [h1]
    push_cast at this; omega
  have a2 : (m : Int) * Y - y * S = f := by
    have : ((m * Y : Nat) : Int) = ((y * S + f : Nat) : Int) := by rw [h2]
    push_cast at this; omega
  refine ⟨?_, ?_, ?_, ?_⟩ <;> first | rw [a1] | rw [a2]
  all_goals omega
theorem between {a b K R s t : Nat} (ha : a ≤ K) (hb : b ≤ K) (hs : s < R) (ht : t < R) : -((K * R : Nat) : Int) ≤ a * s - b * t ∧ (a : Int) * s - b * t ≤ ((K * R : Nat) : Int) := by
  have h1 : a * s ≤ K * R := Nat.mul_le_mul ha (by omega)
  have h2 : b * t ≤ K * R := Nat.mul_le_mul hb (by omega)
  have e1 : (a : Int) * s = ((a * s : Nat) : Int) := by push_cast; rfl
  have e2 : (b : Int) * t = ((b * t : Nat) : Int) := by push_cast; rfl
  rw [e1, e2]
  omega
/-- The same steps, taken of leading parts. -/
theorem Eu.near {a b c d X Y X' Y' U V U' V' m R s t K : Nat} (h : Eu a b c d X Y X' Y') (k : Eu a b c d U V U' V') (hX : m * X = U * R + s) (hY : m * Y = V * R + t) (hs : s < R) (ht : t < R)
    (ha : a ≤ K) (hb : b ≤ K) (hc : c ≤ K) (hd : d ≤ K) :
    (-((K * R : Nat) : Int) ≤ m * X' - U' * R ∧ (m : Int) * X' - U' * R ≤ ((K * R : Nat) : Int)) ∧ (-((K * R : Nat) : Int) ≤ m * Y' - V' * R ∧ (m : Int) * Y' - V' * R ≤ ((K * R : Nat) : Int)) := by
  have iX : (m : Int) * X = U * R + s := by exact_mod_cast hX
  have iY : (m : Int) * Y = V * R + t := by exact_mod_cast hY
  have b1 := between ha hb hs ht
  have b2 := between hd hc ht hs
  have hx : (X : Int) = d * X' + b * Y' := by exact_mod_cast h.x
  have hy : (Y : Int) = c * X' + a * Y' := by exact_mod_cast h.y
  have kx : (U : Int) = d * U' + b * V' := by exact_mod_cast k.x
  have ky : (V : Int) = c * U' + a * V' := by exact_mod_cast k.y
  rcases h.u with u | u
  · have iu : (a : Int) * d = b * c + 1 := by exact_mod_cast u
    have e1 : (m : Int) * X' - U' * R = a * s - b * t := by grind
    have e2 : (m : Int) * Y' - V' * R = d * t - c * s := by grind
    rw [e1, e2]
    exact ⟨b1, b2⟩
  · have iu : (b : Int) * c = a * d + 1 := by exact_mod_cast u
    have e1 : (m : Int) * X' - U' * R = -(a * s - b * t) := by grind
    have e2 : (m : Int) * Y' - V' * R = -(d * t - c * s) := by grind
    rw [e1, e2]
    omega
end M
namespace M
theorem first_steps {X Y T R p q p' q' s t a b c d u v : Nat} (hT : 0 < T) (hR : 0 < R) (hX : T * X = (p + 18446744073709551616 * q) * R + s) (hs : s < R)
    (hY : T * Y = (p' + 18446744073709551616 * q') * R + t) (ht : t < R) (hp : p < 18446744073709551616) (hp' : p' < 18446744073709551616) (hq : 9223372036854775808 ≤ q) (hYX : Y ≤ X)
    (f : Few q q' a b c d u v) (hb : b < 1073741824) (hd : d < 1073741824) :
    ∃ tX tY X1 Y1, Eu a b c d (p + 18446744073709551616 * q) (p' + 18446744073709551616 * q') tX tY ∧ tY ≤ tX ∧ tX ≤ p + 18446744073709551616 * q ∧ 79228162514264337593543950336 ≤ tX ∧
      Eu a b c d X Y X1 Y1 ∧ Y1 ≤ X1 ∧ ((a = 1 ∧ b = 0 ∧ c = 0 ∧ d = 1) ∨ (0 < Y1 ∧ Y1 < X1 ∧ 1 ≤ b ∧ 1 ≤ c ∧ 1 ≤ d)) := by
  obtain ⟨U, hU⟩ : ∃ U, p + 18446744073709551616 * q = U := ⟨_, rfl⟩
  obtain ⟨V, hV⟩ : ∃ V, p' + 18446744073709551616 * q' = V := ⟨_, rfl⟩
  rw [hU] at hX ⊢
  rw [hV] at hY ⊢
  have hVU : V ≤ U := by
    have h1 : T * Y ≤ T * X := Nat.mul_le_mul_left T hYX
    rcases Nat.lt_or_ge U V with h | h
    · have h2 : (U + 1) * R ≤ V * R := Nat.mul_le_mul_right R h
      rw [Nat.add_mul, Nat.one_mul] at h2
      omega
    · exact h
  have L1 : Lead (1 : Nat) (18446744073709551616 : Nat) q q' U V := lead_of (m := 1) (S := 18446744073709551616) (e := p) (f := p') (by omega) hp (by omega) hp'
  have L2 : Lead T ((18446744073709551616 * R : Nat) : Int) q q' X Y := by
    refine lead_of (m := T) (S := 18446744073709551616 * R) (e := p * R + s) (f := p' * R + t) ?_ ?_ ?_ ?_
    · rw [hX, ← hU]; grind
    · have : (p + 1) * R ≤ 18446744073709551616 * R := Nat.mul_le_mul_right R hp
      rw [Nat.add_mul, Nat.one_mul] at this
      omega
    · rw [hY, ← hV]; grind
    · have : (p' + 1) * R ≤ 18446744073709551616 * R := Nat.mul_le_mul_right R hp'
      rw [Nat.add_mul, Nat.one_mul] at this
      omega
  obtain ⟨tX, tY, e1, l1, -⟩ := f.eu (by omega) (by omega) L1 hVU
  obtain ⟨X1, Y1, e2, l2, z2⟩ := f.eu hT (Nat.mul_pos (by omega) hR) L2 hYX
  have hd1 := (f.small hb hd).2.2
  refine ⟨tX, tY, X1, Y1, e1, l1, ?_, ?_, e2, l2, z2⟩
  · have := e1.x
    have h2 := Nat.mul_le_mul_right tX hd1
    omega
  · have h1 := e1.x
    have h2 : d * tX ≤ 1073741823 * tX := Nat.mul_le_mul_right tX (by omega)
    have h3 : b * tY ≤ 1073741823 * tX := Nat.mul_le_mul (by omega) l1
    omega

theorem second_steps {X Y X1 Y1 U V tX tY T T2 R s t a b c d x2 y2 e2 f2 a2 b2 c2 d2 u v : Nat} (hT : 0 < T) (hT2 : 0 < T2) (hT3 : T2 ≤ 2147483648) (hR : 0 < R) (hX : T * X = U * R + s) (hs : s < R) (hY : T * Y = V * R + t) (ht : t < R)
    (ha : a < 1073741824) (hb : b < 1073741824) (hc : c < 1073741824) (hd : d < 1073741824) (h1 : Eu a b c d X Y X1 Y1) (h2 : Eu a b c d U V tX tY) (hl : Y1 ≤ X1)
    (hz : (a = 1 ∧ b = 0 ∧ c = 0 ∧ d = 1) ∨ (0 < Y1 ∧ Y1 < X1 ∧ 1 ≤ b ∧ 1 ≤ c ∧ 1 ≤ d))
    (g1 : T2 * tX = x2 * 18446744073709551616 + e2) (he : e2 < 18446744073709551616) (g2 : T2 * tY = y2 * 18446744073709551616 + f2) (hf : f2 < 18446744073709551616)
    (f : Few x2 y2 a2 b2 c2 d2 u v) :
    a2 * b + b2 * d = 0 ∨ ∃ X' Y', Eu (a2 * a + b2 * c) (a2 * b + b2 * d) (c2 * a + d2 * c) (c2 * b + d2 * d) X Y X' Y' ∧ 0 < Y' ∧ Y' < X' ∧ 1 ≤ c2 * a + d2 * c ∧ 1 ≤ c2 * b + d2 * d := by
  obtain ⟨⟨n1, n2⟩, ⟨n3, n4⟩⟩ := Eu.near h1 h2 hX hY hs ht (K := 1073741824) (by omega) (by omega) (by omega) (by omega)
  have key : ∀ (B K Z tZ z e : Nat), B = 18446744073709551616 → K = 1073741824 → T2 * tZ = z * B + e → e < B → -((K * R : Nat) : Int) ≤ T * Z - tZ * R → (T : Int) * Z - tZ * R ≤ ((K * R : Nat) : Int) →
      -((B * R : Nat) : Int) < 4 * (((T2 * T : Nat) : Int) * Z - z * ((B * R : Nat) : Int)) ∧ 4 * (((T2 * T : Nat) : Int) * Z - z * ((B * R : Nat) : Int)) < 5 * ((B * R : Nat) : Int) := by
    intro B K Z tZ z e hB hK k1 k2 k3 k4
    generalize hD : (T : Int) * Z - tZ * R = D at k3 k4
    have i1 : (T2 : Int) * tZ = z * B + e := by exact_mod_cast k1
    have eq : ((T2 * T : Nat) : Int) * Z - z * ((B * R : Nat) : Int) = T2 * D + R * e := by
      rw [← hD]
      push_cast
      grind
    have c2 : ((B * R : Nat) : Int) = 18446744073709551616 * (R : Int) := by rw [Int.natCast_mul, hB]; rfl
    have c1 : ((K * R : Nat) : Int) = 1073741824 * (R : Int) := by rw [Int.natCast_mul, hK]; rfl
    rw [eq, c2]
    rw [c1] at k3 k4
    clear eq i1 hD c1 c2
    have m1 : (T2 : Int) * D ≤ T2 * (1073741824 * R) := Int.mul_le_mul_of_nonneg_left k4 (by omega)
    have m2 : (T2 : Int) * (-(1073741824 * R)) ≤ T2 * D := Int.mul_le_mul_of_nonneg_left k3 (by omega)
    have m3 : (T2 : Int) * (1073741824 * R) ≤ 2147483648 * (1073741824 * R) := Int.mul_le_mul_of_nonneg_right (by omega) (by omega)
    have m4 : (T2 : Int) * (-(1073741824 * R)) = -(T2 * (1073741824 * R)) := by grind
    have m5 : (R : Int) * e ≤ R * 18446744073709551615 := Int.mul_le_mul_of_nonneg_left (by omega) (by omega)
    have m6 : (0 : Int) ≤ R * e := Int.mul_nonneg (by omega) (by omega)
    omega
  obtain ⟨k1, k2⟩ := key 18446744073709551616 1073741824 X1 tX x2 e2 rfl rfl g1 he n1 n2
  obtain ⟨k3, k4⟩ := key 18446744073709551616 1073741824 Y1 tY y2 f2 rfl rfl g2 hf n3 n4
  obtain ⟨X2, Y2, eu, l2, z2⟩ := f.eu (Nat.mul_pos hT2 hT) (Nat.mul_pos (by omega) hR) ⟨k1, k2, k3, k4⟩ hl
  have tr := h1.trans eu
  rcases z2 with ⟨rfl, rfl, rfl, rfl⟩ | ⟨w1, w2, w3, w4, w5⟩
  · rcases hz with ⟨rfl, rfl, rfl, rfl⟩ | ⟨v1, v2, v3, v4, v5⟩
    · left; omega
    · right
      have ex := eu.x
      have ey := eu.y
      exact ⟨X2, Y2, tr, by omega, by omega, by omega, by omega⟩
  · rcases hz with ⟨rfl, rfl, rfl, rfl⟩ | ⟨v1, v2, v3, v4, v5⟩
    · right
      exact ⟨X2, Y2, tr, w1, w2, by omega, by omega⟩
    · right
      have p1 := Nat.mul_le_mul w5 v4
      have p2 := Nat.mul_le_mul w5 v5
      exact ⟨X2, Y2, tr, w1, w2, by omega, by omega⟩
end M
end Go.Proofs.YtimmgjlojplccaaGreatDoor
namespace Go.Proofs.YtimmgjlojplccaaGreatDoor

namespace M
theorem odd_cop {n : Nat} (h : n % 2 = 1) (k : Nat) : Nat.Coprime (2 ^ k) n := by
  apply Nat.Coprime.pow_left
  show Nat.gcd 2 n = 1
  rw [Nat.gcd_rec, h]
  exact Nat.gcd_one_left 2
theorem gcd_odd_right {n : Nat} (h : n % 2 = 1) (k m : Nat) : Nat.gcd n (2 ^ k * m) = Nat.gcd n m := Nat.Coprime.gcd_mul_left_cancel_right m (odd_cop h k)
theorem gcd_odd_left {n : Nat} (h : n % 2 = 1) (k m : Nat) : Nat.gcd (2 ^ k * m) n = Nat.gcd m n := Nat.Coprime.gcd_mul_left_cancel m (odd_cop h k)
theorem gcd_min_max (a b : Nat) : Nat.gcd (min a b) (max a b - min a b) = Nat.gcd a b := by
  rcases Nat.le_total a b with h | h
  · rw [Nat.min_eq_left h, Nat.max_eq_right h, Nat.gcd_sub_self_right h]
  · rw [Nat.min_eq_right h, Nat.max_eq_left h, Nat.gcd_sub_self_right h, Nat.gcd_comm]
theorem even_pow {k m : Nat} (h : 0 < k) : 2 ^ k * m % 2 = 0 := by
  obtain ⟨j, rfl⟩ : ∃ j, k = j + 1 := ⟨k - 1, by omega⟩
  rw [Nat.pow_succ, Nat.mul_assoc, Nat.mul_left_comm, Nat.mul_mod_right]
/-- The common twos. -/
theorem gcd_twos {x y t i x' : Nat} (hx : x = 2 ^ i * x') (ho : x' % 2 = 1) (d1 : 2 ^ t ∣ x) (d2 : 2 ^ t ∣ y) (hb : x / 2 ^ t % 2 = 1 ∨ y / 2 ^ t % 2 = 1) : Nat.gcd x y = Nat.gcd x' y * 2 ^ t := by
  obtain ⟨a, rfl⟩ := d1
  obtain ⟨b, rfl⟩ := d2
  have hp : 0 < 2 ^ t := Nat.pow_pos (by omega)
  rw [Nat.mul_div_cancel_left _ hp, Nat.mul_div_cancel_left _ hp] at hb
  rw [Nat.gcd_mul_left, Nat.mul_comm, gcd_odd_right ho]
  congr 1
  have hti : t ≤ i := by
    rcases Nat.lt_or_ge i t with g | g
    · have e : 2 ^ t = 2 ^ i * 2 ^ (t - i) := by rw [← Nat.pow_add, show i + (t - i) = t by omega]
      rw [e, Nat.mul_assoc] at hx
      have := Nat.eq_of_mul_eq_mul_left (Nat.pow_pos (by omega)) hx
      have h2 := even_pow (k := t - i) (m := a) (by omega)
      omega
    · exact g
  have e : 2 ^ i = 2 ^ t * 2 ^ (i - t) := by rw [← Nat.pow_add, show t + (i - t) = i by omega]
  rw [e, Nat.mul_assoc] at hx
  have ha := Nat.eq_of_mul_eq_mul_left hp hx
  rcases hb with h | h
  · rcases Nat.eq_zero_or_pos (i - t) with g | g
    · rw [g, Nat.pow_zero, Nat.one_mul] at ha; rw [ha]
    · have h2 := even_pow (k := i - t) (m := x') g
      omega
  · rw [ha, gcd_odd_left h]
theorem or_twos {x y t m : Nat} (h : x ||| y = 2 ^ t * (2 * m + 1)) : 2 ^ t ∣ x ∧ 2 ^ t ∣ y ∧ (x / 2 ^ t % 2 = 1 ∨ y / 2 ^ t % 2 = 1) := by
  have hp : 0 < 2 ^ t := Nat.pow_pos (by omega)
  have h0 : (x ||| y) % 2 ^ t = 0 := by rw [h, Nat.mul_mod_right]
  rw [Nat.or_mod_two_pow] at h0
  obtain ⟨a, b⟩ := Nat.or_eq_zero_iff.1 h0
  refine ⟨Nat.dvd_of_mod_eq_zero a, Nat.dvd_of_mod_eq_zero b, ?_⟩
  have h1 : (x ||| y).testBit t = true := by
    rw [Nat.testBit_eq_decide_div_mod_eq, h, Nat.mul_div_cancel_left _ hp]
    simp
  rw [Nat.testBit_or, Bool.or_eq_true, Nat.testBit_eq_decide_div_mod_eq, Nat.testBit_eq_decide_div_mod_eq] at h1
  simpa using h1
end M
end Go.Proofs.YtimmgjlojplccaaGreatDoor
