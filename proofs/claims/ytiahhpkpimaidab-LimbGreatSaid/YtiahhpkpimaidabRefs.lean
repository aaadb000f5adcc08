/-
  Package gussetref01: trim, Split.
-/
import Derived.Test.YtiahhpkpimaidabBlk
import Derived.RegionTactic
import Derived.BigRegion
import Derived.Deep.RegionLaw
namespace Go.Proofs.Ytiahhpkpimaidab
open Go.RowKit

def D32 : Nat := 4294967296
theorem D32_two : 2 ≤ D32 := by unfold D32; omega
theorem D32_pos : 0 < D32 := by unfold D32; omega
theorem D32_sq : D32 * D32 = B64 := by unfold D32 B64; omega
def lo32 (x : Nat) : Nat := x % D32
def hi32 (x : Nat) : Nat := x / D32

/-- The digits of a row of limbs. -/
def spl : List Nat → List Nat
  | [] => []
  | x :: r => lo32 x :: hi32 x :: spl r
theorem spl_length : ∀ xs : List Nat, (spl xs).length = 2 * xs.length
  | [] => rfl
  | x :: r => by simp [spl, spl_length r]; omega
theorem spl_append : ∀ (xs ys : List Nat), spl (xs ++ ys) = spl xs ++ spl ys
  | [], _ => rfl
  | x :: r, ys => by simp [spl, spl_append r ys]
theorem spl_low : ∀ {xs : List Nat}, M.Low B64 xs → M.Low D32 (spl xs)
  | [], _ => M.Low.nil _
  | x :: r, h => by
    have h1 := h.head
    refine M.Low.cons (Nat.mod_lt _ D32_pos) (M.Low.cons ?_ (spl_low h.tail))
    rw [← D32_sq] at h1
    exact Nat.div_lt_of_lt_mul h1
theorem spl_val : ∀ (xs : List Nat), M.val D32 (spl xs) = M.val B64 xs
  | [] => rfl
  | x :: r => by
    simp only [spl, M.val_cons, spl_val r]
    have : lo32 x + D32 * hi32 x = x := Nat.mod_add_div _ _
    rw [Nat.mul_add, ← Nat.mul_assoc, D32_sq]
    omega

theorem rem32 (x : Nat) : ((x : Int) % 4294967296) = ((lo32 x : Nat) : Int) := by unfold lo32 D32; omega
theorem quo32 (x : Nat) (h : x < B64) : IntKind.u64.wrap ((x : Int) / 4294967296) = ((hi32 x : Nat) : Int) := by
  rw [IntKind.wrap_u64]; unfold hi32 D32; unfold B64 at h; omega

theorem take_succ_lm (xs : List Nat) (k : Nat) (h : k < xs.length) : xs.take (k + 1) = xs.take k ++ [lm xs k] := by
  rw [List.take_succ_eq_append_getElem h]; simp [lm, h]
theorem spl_step (xs : List Nat) (k : Nat) (h : k < xs.length) : ((spl (xs.take k) ++ List.replicate (2 * (xs.length - k)) 0).set (2 * k) (lo32 (lm xs k))).set (2 * k + 1) (hi32 (lm xs k)) = spl (xs.take (k + 1)) ++ List.replicate (2 * (xs.length - (k + 1))) 0 := by
  have e1 : (spl (xs.take k)).length = 2 * k := by simp [spl_length]; omega
  have e2 : 2 * (xs.length - k) = (2 * (xs.length - (k + 1)) + 1) + 1 := by omega
  rw [e2]
  have h1 := M.set_append_replicate (spl (xs.take k)) (2 * (xs.length - (k + 1)) + 1) (lo32 (lm xs k))
  rw [e1] at h1
  rw [h1]
  have h2 := M.set_append_replicate (spl (xs.take k) ++ [lo32 (lm xs k)]) (2 * (xs.length - (k + 1))) (hi32 (lm xs k))
  rw [List.length_append, e1] at h2
  rw [show 2 * k + 1 = 2 * k + [lo32 (lm xs k)].length from rfl, h2, take_succ_lm xs k h, spl_append]
  simp [spl]
theorem Blk.alloc {w : World} {g : Nat} {ys : List Nat} (h : Blk w g ys) (o : Obj) : Blk (w.alloc o) g ys := h.below ((Below.refl _ _).alloc (Nat.le_refl _) o)
theorem Blk.drew {w : World} {g : Nat} {ys : List Nat} (h : Blk w g ys) : Blk w.drew g ys := h

end Go.Proofs.Ytiahhpkpimaidab
