/-
  gussetref03.Decimal, of any number; rounding does not hang on the sign.
-/
import Derived.Test.YtdbnkcimcpnpdaaGreatDoorG42
namespace Go.Proofs.YtdbnkcimcpnpdaaGreatDoor
open Go.RowKit Go.Shelf

theorem nat_zI (m : Nat) : zI ((m : Nat) : Int) = .agg #[.bool false, .string (strOf m)] := by
 obtain ⟨nf, sf, hf, hok, hsz, hz, hnat, hneg, hstr, hnn, hfn⟩ := named0
 rw [hfn, hstr]
theorem nat_zOf (m : Nat) : zOf false (strOf m) = ((m : Nat) : Int) := by rw [zOf_false, natOf_strOf]
theorem okz_nat (m : Nat) : OkZ false (strOf m) := ⟨okS_strOf m, fun h => by cases h⟩
/-- Rounded to the nearest, of two the even one, above 0. -/
def rup (N D : Nat) : Bool := decide (D < N % D + N % D) || (decide (N % D + N % D = D) && decide (N / D % 2 = 1))
def rnat (N D : Nat) : Nat := if rup N D = true then N / D + 1 else N / D
theorem rnd_nat (N D : Nat) : rnd ((N : Nat) : Int) D = ((rnat N D : Nat) : Int) := by
 unfold rnd rnat rup
 rw [← Int.natCast_emod, ← Int.natCast_ediv]
 generalize N % D = r
 generalize N / D = q
 by_cases h : D < r + r ∨ (r + r = D ∧ q % 2 = 1)
 ·rw [if_pos (by omega), if_pos (by simpa using h)]
  omega
 ·rw [if_neg (by omega), if_neg (by simpa using h)]
theorem rnd_neg (N D : Nat) (hD : 0 < D) : rnd (-((N : Nat) : Int)) D = -((rnat N D : Nat) : Int) := by
 have e := Nat.div_add_mod N D
 have hr := Nat.mod_lt N hD
 have key : (-((N : Nat) : Int)) / (D : Int) = (if N % D = 0 then -((N / D : Nat) : Int) else -((N / D : Nat) : Int) - 1) ∧ (-((N : Nat) : Int)) % (D : Int) = (if N % D = 0 then 0 else (D : Int) - ((N % D : Nat) : Int)) := by
  have e2 : ((D : Nat) : Int) * ((N / D : Nat) : Int) + ((N % D : Nat) : Int) = ((N : Nat) : Int) := by
   rw [← Int.natCast_mul, ← Int.natCast_add, e]
  refine (Int.ediv_emod_unique (by omega)).2 ?_
  generalize N / D = q at *
  generalize N % D = r at *
  by_cases h : r = 0
  ·rw [if_pos h, if_pos h, Int.mul_neg]
   generalize ((D : Nat) : Int) * ((q : Nat) : Int) = P at *
   omega
  ·rw [if_neg h, if_neg h, Int.mul_sub, Int.mul_neg, Int.mul_one]
   generalize ((D : Nat) : Int) * ((q : Nat) : Int) = P at *
   omega
 unfold rnd rnat rup
 rw [key.1, key.2]
 generalize N / D = q at *
 generalize N % D = r at *
 by_cases h : r = 0
 ·rw [if_pos h, if_pos h]
  subst h
  rw [if_neg (by omega), if_neg (by simp; omega)]
 ·rw [if_neg h, if_neg h]
  by_cases h2 : D < r + r ∨ (r + r = D ∧ q % 2 = 1)
  ·rw [if_neg (by omega), if_pos (by simpa using h2)]
   omega
  ·rw [if_pos (by omega), if_neg (by simpa using h2)]
   omega
theorem rnd_zOf (n : Bool) (s : ByteArray) (p D : Nat) (hD : 0 < D) : rnd (zOf n s * ((10 ^ p : Nat) : Int)) D = sgn n (rnat (natOf s * 10 ^ p) D) := by
 cases n with
 | false => rw [zOf_false, ← Int.natCast_mul, rnd_nat]; rfl
 | true =>
  have : zOf true s = -((natOf s : Nat) : Int) := rfl
  rw [this, Int.neg_mul, ← Int.natCast_mul, rnd_neg _ _ hD]
  rfl
theorem dtxt_sgn (n : Bool) (M p : Nat) : dtxt (sgn n M) p = if (n && decide (0 < (strOf M).size)) = true then ⟨#[45]⟩ ++ dpoint (dfull M p) p else dpoint (dfull M p) p := by
 have hs : 0 < (strOf M).size ↔ 0 < M := by
  have := okS_nil (okS_strOf M)
  rw [natOf_strOf] at this
  omega
 have ha : (sgn n M).natAbs = M := by cases n <;> simp [sgn]
 unfold dtxt
 rw [ha]
 cases n with
 | false =>
  rw [if_neg (by simp [sgn]), if_neg (by simp)]
 | true =>
  by_cases h : 0 < M
  ·rw [if_pos (by simp [sgn]; omega), if_pos (by simp [hs, h])]
  ·rw [if_neg (by simp [sgn]; omega), if_neg (by simp [hs, h])]
end Go.Proofs.YtdbnkcimcpnpdaaGreatDoor
