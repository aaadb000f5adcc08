/-
  limb.divideLong: what its loop holds.
-/
import Derived.Test.YtiahhpkpimaidabLong0
import Derived.Test.YtiahhpkpimaidabTake
import Derived.Test.YtiahhpkpimaidabAddTo
import Derived.Test.YtiahhpkpimaidabShift
namespace Go.Proofs.Ytiahhpkpimaidab
open Go.RowKit

theorem divisor_of {ys zs : List Nat} {n1 s : Nat} (lb : M.Low B64 ys) (hn : ys.length = n1 + 1) (hn1 : 1 ≤ n1) (lz : M.Low B64 zs) (nz : zs.length = n1 + 1 + 1) (vz : M.val B64 zs = M.val B64 ys * 2 ^ s) (hs : s ≤ 63)
    (h1 : 9223372036854775808 ≤ lm ys n1 * 2 ^ s) (h2 : lm ys n1 * 2 ^ s < 18446744073709551616) :
    ∃ d0 be d1, zs = (d0 ++ [be, d1]) ++ [0] ∧ d0.length + 1 = n1 ∧ M.Low B64 d0 ∧ be < B64 ∧ d1 < B64 ∧ B64 ≤ 2 * d1 ∧ M.val B64 (d0 ++ [be, d1]) = M.val B64 ys * 2 ^ s := by
  have eB : B64 = 2 ^ s * 2 ^ (64 - s) := by rw [← Nat.pow_add, show s + (64 - s) = 64 by omega]; rfl
  have hS : 0 < 2 ^ s := Nat.pow_pos (by omega)
  have hy : M.val B64 ys = M.val B64 (ys.take n1) + B64 ^ n1 * lm ys n1 := by
    have := M.val_take_succ B64 ys n1
    rw [M.val_take_all _ _ _ (by omega)] at this
    exact this
  have hR : M.val B64 (ys.take n1) < B64 ^ n1 := M.val_lt_pow B64_pos (lb.take n1) (by simp; omega)
  obtain ⟨z1, e0, rfl⟩ := L.last1 zs (by intro h; subst h; simp at nz)
  have nz1 : z1.length = n1 + 1 := by simp at nz; omega
  have hlt : M.val B64 ys * 2 ^ s < B64 ^ n1 * B64 := by rw [hy]; exact L.shift_lt eB hR h2 hS
  rw [M.val_snoc, nz1, Nat.pow_succ] at vz
  have he : e0 = 0 := L.top_zero (by rw [vz]; exact hlt)
  subst he
  rw [Nat.mul_zero, Nat.add_zero] at vz
  obtain ⟨d0, be, d1, rfl⟩ := L.last2 z1 (by omega)
  have nd : d0.length + 1 = n1 := by simp at nz1; omega
  have ld : M.Low B64 d0 := fun x hx => lz x (by simp [hx])
  have lbe : be < B64 := lz be (by simp)
  have ld1 : d1 < B64 := lz d1 (by simp)
  refine ⟨d0, be, d1, rfl, nd, ld, lbe, ld1, ?_, vz⟩
  have hd : 9223372036854775808 ≤ d1 := by
    refine L.shift_hi (P := B64 ^ n1) (Rl := M.val B64 (d0 ++ [be])) (R := M.val B64 (ys.take n1)) (T := lm ys n1) (S := 2 ^ s) (M.val_lt_pow B64_pos (ld.snoc lbe) (by simp; omega)) h1 ?_
    rw [← hy, ← vz, show d0 ++ [be, d1] = (d0 ++ [be]) ++ [d1] by simp, M.val_snoc _ (d0 ++ [be]) d1, List.length_append, List.length_singleton, nd]
  unfold B64; omega

/-- The rest's block, with its parts told. -/
theorem rest_split {rs hi : List Nat} {j n2 z : Nat} (hj : j < rs.length) (hh : hi.length = n2 + 2) (lr : M.Low B64 rs) (lh : M.Low B64 hi) :
    ∃ s0 low nx top, s0.length = n2 ∧ M.Low B64 s0 ∧ low < B64 ∧ nx < B64 ∧ top < B64 ∧ rs.take (j + 1) ++ hi ++ List.replicate z 0 = rs.take j ++ (s0 ++ [low, nx]) ++ (top :: List.replicate z 0) ∧
      M.val B64 (s0 ++ [low, nx, top]) = lm rs j + B64 * M.val B64 hi ∧ M.val B64 (s0 ++ [low, nx, top]) = M.val B64 (s0 ++ [low, nx]) + B64 ^ (n2 + 2) * top := by
  obtain ⟨h0, top, he⟩ := L.last1 (lm rs j :: hi) (by simp)
  have l1 : h0.length = n2 + 2 := by have := congrArg List.length he; simp at this; omega
  obtain ⟨s0, low, nx, rfl⟩ := L.last2 h0 (by omega)
  have ll : M.Low B64 (s0 ++ [low, nx] ++ [top]) := by rw [← he]; exact M.Low.cons (lm_lt B64_pos lr j) lh
  refine ⟨s0, low, nx, top, by simp at l1; omega, fun x hx => ll x (by simp [hx]), ll low (by simp), ll nx (by simp), ll top (by simp), ?_, ?_, ?_⟩
  · have e1 : rs.take (j + 1) = rs.take j ++ [lm rs j] := by
      rw [List.take_succ_eq_append_getElem hj]; simp [lm, hj]
    rw [e1, List.append_assoc (rs.take j), List.singleton_append, he]
    simp
  · rw [← M.val_cons, he]; simp
  · rw [show s0 ++ [low, nx, top] = (s0 ++ [low, nx]) ++ [top] by simp, M.val_snoc, l1]

theorem lm_in (p q : List Nat) (x j : Nat) (h : p.length = j) : lm (p ++ x :: q) j = x := by
  subst h
  simp [lm]
end Go.Proofs.Ytiahhpkpimaidab
