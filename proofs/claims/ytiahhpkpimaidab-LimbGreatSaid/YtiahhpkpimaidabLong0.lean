/-
  limb.guessLimb whole.
-/
import Derived.Test.YtiahhpkpimaidabGuess
import Derived.Test.YtiahhpkpimaidabLongMath
namespace Go.Proofs.Ytiahhpkpimaidab
open Go.RowKit

set_option maxRecDepth 100000 in
theorem guess_ge (top nx low d1 be : Nat) (w : World) (ht : d1 ≤ top) :
    Calls Try.prog 42 #[.int .u64 (top : Nat), .int .u64 (nx : Nat), .int .u64 (low : Nat), .int .u64 (d1 : Nat), .int .u64 (be : Nat)] w fun e w' => e = .returned (.int .u64 18446744073709551615) ∧ w' = w := by
  go_enter Try.func42, Try.ntmps42
  go_wp2
  go_ret
  exact ⟨rfl, rfl⟩

theorem val3 (s0 : List Nat) (x y z : Nat) : M.val B64 (s0 ++ [x, y, z]) = ((z * B64 + y) * B64 + x) * B64 ^ s0.length + M.val B64 s0 := by
  rw [M.val_append]
  simp only [M.val_cons, M.val_nil, Nat.mul_zero, Nat.add_zero]
  rw [Nat.mul_comm (B64 ^ s0.length), Nat.add_comm]
  congr 2
  rw [Nat.add_mul, Nat.mul_add, Nat.mul_comm B64 y, Nat.mul_comm B64 z, Nat.mul_comm B64 (z * B64)]
  omega
theorem val2 (s0 : List Nat) (x y : Nat) : M.val B64 (s0 ++ [x, y]) = (y * B64 + x) * B64 ^ s0.length + M.val B64 s0 := by
  rw [M.val_append]
  simp only [M.val_cons, M.val_nil, Nat.mul_zero, Nat.add_zero]
  rw [Nat.mul_comm (B64 ^ s0.length), Nat.add_comm]
  congr 2
  rw [Nat.mul_comm B64 y]
  omega

theorem guess_any (s0 d0 : List Nat) (low nx top be d1 : Nat) (w : World) (ls : M.Low B64 s0) (ld : M.Low B64 d0) (he : s0.length = d0.length) (hl : low < B64) (hn : nx < B64) (hb : be < B64) (hd : d1 < B64) (h2 : B64 ≤ 2 * d1)
    (hV : M.val B64 (s0 ++ [low, nx, top]) < B64 * M.val B64 (d0 ++ [be, d1])) :
    Calls Try.prog 42 #[.int .u64 (top : Nat), .int .u64 (nx : Nat), .int .u64 (low : Nat), .int .u64 (d1 : Nat), .int .u64 (be : Nat)] w fun e w' => ∃ q : Nat, e = .returned (.int .u64 (q : Nat)) ∧ q < B64 ∧ L.Near (M.val B64 (s0 ++ [low, nx, top])) (M.val B64 (d0 ++ [be, d1])) q ∧ Below w.heap.size w w' := by
  rw [val3, val2, he] at hV ⊢
  have hDl : M.val B64 d0 < B64 ^ d0.length := M.val_lt B64_pos ld
  have hVl : M.val B64 s0 < B64 ^ d0.length := by have := M.val_lt B64_pos ls; rwa [he] at this
  by_cases ht : top < d1
  · refine (guess_lt top nx low d1 be w ht hn hl hd hb).mono ?_
    rintro e w' ⟨q, rfl, ⟨g1, g2, g3⟩, hbel⟩
    exact ⟨q, rfl, g1, L.near_three (by omega) hDl hVl g1 g2 g3, hbel⟩
  · refine (guess_ge top nx low d1 be w (by omega)).mono ?_
    rintro e w' ⟨rfl, rfl⟩
    refine ⟨B64 - 1, rfl, by unfold B64; omega, L.near_top hb hDl h2 (Nat.not_lt.1 ht) ?_ hV, Below.refl _ _⟩
    have e1 : top * (B64 * (B64 * B64 ^ d0.length)) = top * B64 * B64 * B64 ^ d0.length := by simp only [Nat.mul_assoc]
    have e2 : top * B64 * B64 * B64 ^ d0.length ≤ ((top * B64 + nx) * B64 + low) * B64 ^ d0.length := Nat.mul_le_mul_right _ (by rw [Nat.add_mul]; omega)
    omega
end Go.Proofs.Ytiahhpkpimaidab
