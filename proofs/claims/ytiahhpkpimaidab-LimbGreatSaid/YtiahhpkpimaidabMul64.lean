/-
  math/bits.Mul64; blocks of which one alone is written.
-/
import Derived.Test.YtiahhpkpimaidabRefs
import Derived.Test.YtiahhpkpimaidabSubs
import Derived.Lib.Mul64
namespace Go.Proofs.Ytiahhpkpimaidab
open Go.RowKit

/-- Of all that is there block g alone may have turned; nothing was made. -/
structure Only (g : Nat) (w w' : World) : Prop where
  os : w'.os = w.os
  tape : w'.tape = w.tape
  output : w'.output = w.output
  size : w'.heap.size = w.heap.size
  block : ∀ k, k ≠ g → w'.heap[k]? = w.heap[k]?

theorem Only.refl (g : Nat) (w : World) : Only g w w := ⟨rfl, rfl, rfl, rfl, fun _ _ => rfl⟩
theorem Only.trans {g : Nat} {a b c : World} (h : Only g a b) (k : Only g b c) : Only g a c :=
  ⟨k.os.trans h.os, k.tape.trans h.tape, k.output.trans h.output, k.size.trans h.size, fun i hi => (k.block i hi).trans (h.block i hi)⟩
theorem Only.setCell {g : Nat} {a w : World} (h : Only g a w) (j : Nat) (u : Value) : Only g a (w.setCell ⟨g, j, none⟩ u) :=
  h.trans ⟨rfl, rfl, rfl, by simp [World.setCell], fun k hk => Below.heap_setCell _ _ _ _ hk⟩
theorem Only.drew {g : Nat} {a w : World} (h : Only g a w) : Only g a w.drew := ⟨h.os, h.tape, h.output, h.size, h.block⟩
theorem Only.below {g B : Nat} {a w w' : World} (h : Below B a w) (k : Only g w w') (hB : B ≤ g) : Below B a w' :=
  h.trans ⟨k.os, k.tape, k.output, by rw [k.size]; exact Nat.le_refl _, fun i hi => k.block i (by omega)⟩
theorem Only.blk {g g' : Nat} {w w' : World} {ys : List Nat} (k : Only g w w') (h : Blk w g' ys) (hn : g' ≠ g) : Blk w' g' ys := by
  unfold Blk at *; rw [k.block g' hn]; exact h

/-- The slice value v reads in w as the limbs xs, and does not lie in block g. -/
def RdX (w : World) (v : Value) (xs : List Nat) (g : Nat) : Prop :=
  ∃ a cap, v = .slice a xs.length cap ∧ xs.length ≤ cap ∧ ∀ j, j < xs.length → ∃ b off, a = some ⟨b, off, none⟩ ∧ b ≠ g ∧ w.cell? ⟨b, off + j, none⟩ = some (.int .u64 (lm xs j : Nat))
theorem RdX.only {w w' : World} {v : Value} {xs : List Nat} {g : Nat} (h : RdX w v xs g) (k : Only g w w') : RdX w' v xs g := by
  obtain ⟨a, cap, rfl, hc, h⟩ := h
  refine ⟨a, cap, rfl, hc, fun j hj => ?_⟩
  obtain ⟨b, off, rfl, hb, hcell⟩ := h j hj
  exact ⟨b, off, rfl, hb, by rw [World.cell?_of_block (w := w) (k.block b hb)]; exact hcell⟩
theorem RdX.rd {w : World} {v : Value} {xs : List Nat} {g : Nat} (h : RdX w v xs g) : Rd w v xs := by
  obtain ⟨a, cap, rfl, hc, h⟩ := h
  refine ⟨a, cap, rfl, hc, fun j hj => ?_⟩
  obtain ⟨b, off, rfl, _, hcell⟩ := h j hj
  exact ⟨b, off, rfl, hcell⟩
theorem RdX.at {w : World} {a : Option Addr} {n cap g : Nat} {xs : List Nat} (h : RdX w (.slice a n cap) xs g) {j : Nat} (hj : j < xs.length) :
    ∃ b off, a = some ⟨b, off, none⟩ ∧ b ≠ g ∧ w.cell? ⟨b, off + j, none⟩ = some (.int .u64 (lm xs j : Nat)) := by
  obtain ⟨a', c', e, _, h'⟩ := h
  simp only [Value.slice.injEq] at e
  obtain ⟨rfl, rfl, rfl⟩ := e
  exact h' j hj
/-- What lay in older memory does not lie in a new block. -/
theorem Rd.apart {w w' : World} {v : Value} {xs : List Nat} {g : Nat} (h : Rd w v xs) (hb : Below w.heap.size w w') (hg : w.heap.size ≤ g) : RdX w' v xs g := by
  obtain ⟨a, cap, rfl, hc, h⟩ := h
  refine ⟨a, cap, rfl, hc, fun j hj => ?_⟩
  obtain ⟨b, off, rfl, hcell⟩ := h j hj
  have hlt := World.block_lt_of_cell? w _ hcell
  exact ⟨b, off, rfl, by simp at hlt; omega, by rw [hb.cell hlt]; exact hcell⟩
theorem Blk.rdX {w : World} {g g' : Nat} {ys : List Nat} (h : Blk w g' ys) (off n cap : Nat) (hn : off + n ≤ ys.length) (hc : n ≤ cap) (hg : g' ≠ g) : RdX w (.slice (some ⟨g', off, none⟩) n cap) ((ys.drop off).take n) g := by
  have e : ((ys.drop off).take n).length = n := by simp; omega
  refine ⟨_, cap, by rw [e], by omega, fun j hj => ⟨g', off, rfl, hg, ?_⟩⟩
  rw [e] at hj
  rw [h.cell (by omega), lm_take hj]
  simp [lm]

def mulHi (x y : Nat) : Nat := x * y / 18446744073709551616
def mulLo (x y : Nat) : Nat := x * y % 18446744073709551616

theorem mask32 (a : Nat) (ha : a < 18446744073709551616) : bits .and .u64 (a : Int) 4294967295 = ((a % 4294967296 : Nat) : Int) := by
  have h := bits_and_u64_nat a 4294967295 ha (by omega)
  rw [show a &&& 4294967295 = a % 4294967296 from Nat.and_two_pow_sub_one_eq_mod a 32] at h
  exact h
theorem castDiv32 (a : Nat) : (a : Int) / 4294967296 = ((a / 4294967296 : Nat) : Int) := by omega
theorem castMul (a b : Nat) : (a : Int) * (b : Int) = ((a * b : Nat) : Int) := (Int.natCast_mul a b).symm
theorem castAdd (a b : Nat) : (a : Int) + (b : Int) = ((a + b : Nat) : Int) := (Int.natCast_add a b).symm
theorem wrapIn (a : Nat) (ha : a < 18446744073709551616) : IntKind.u64.wrap (a : Int) = (a : Int) := by rw [IntKind.wrap_u64]; omega
theorem wrapMod (a : Nat) : IntKind.u64.wrap (a : Int) = ((a % 18446744073709551616 : Nat) : Int) := by rw [IntKind.wrap_u64]; omega

set_option maxHeartbeats 1000000 in
theorem mul64_any (x y : Nat) (hx : x < B64) (hy : y < B64) (w : World) :
    Calls Try.prog 37 #[.int .u64 (x : Nat), .int .u64 (y : Nat)] w fun e w' => e = .returned (.tuple #[.int .u64 (mulHi x y : Nat), .int .u64 (mulLo x y : Nat)]) ∧ w' = w := by
  unfold B64 at hx hy
  unfold mulHi mulLo
  obtain ⟨bd, bt, bw, hhi⟩ := Lib.mul64_hi x y hx hy
  have ba := Lib.half_mul_le (a := x / 4294967296) (b := y / 4294967296) (by omega) (by omega)
  have bb := Lib.half_mul_le (a := x / 4294967296) (b := y % 4294967296) (by omega) (by omega)
  have bc := Lib.half_mul_le (a := x % 4294967296) (b := y / 4294967296) (by omega) (by omega)
  have ba' : x / 4294967296 * (y / 4294967296) < 18446744073709551616 := by omega
  have bb' : x / 4294967296 * (y % 4294967296) < 18446744073709551616 := by omega
  have bc' : x % 4294967296 * (y / 4294967296) < 18446744073709551616 := by omega
  have bh1 : x / 4294967296 * (y / 4294967296) + (x / 4294967296 * (y % 4294967296) + x % 4294967296 * (y % 4294967296) / 4294967296) / 4294967296 < 18446744073709551616 := by omega
  have bh : x / 4294967296 * (y / 4294967296) + (x / 4294967296 * (y % 4294967296) + x % 4294967296 * (y % 4294967296) / 4294967296) / 4294967296 + ((x / 4294967296 * (y % 4294967296) + x % 4294967296 * (y % 4294967296) / 4294967296) % 4294967296 + x % 4294967296 * (y / 4294967296)) / 4294967296 < 18446744073709551616 := by omega
  go_enter Try.func37, Try.ntmps37
  go_wp2
  simp only [mask32 x hx, mask32 y hy, castDiv32, castMul, castAdd, wrapIn _ bd, wrapIn _ bb', wrapIn _ bt, mask32 _ bt, wrapIn _ bc', wrapIn _ bw, wrapIn _ ba', wrapIn _ bh1, wrapIn _ bh, wrapMod (x * y)]
  rw [hhi]
  go_ret2
  exact ⟨rfl, rfl⟩
end Go.Proofs.Ytiahhpkpimaidab
