/-
  Package vec: dot.
  Package vec: determinant.
  Package vec: the determinant of two rows.
  Package vec: isSquare, Det, of any rows.
  Package vec: each, where a number may not be; Plus, Minus, Scale, walked.
  Package vec: cross.
  Package vec: Norm2.
  Package vec: Plus, Minus, Scale, walked.
  gussetref03's Of; gussetlaw04's at, short, small.
-/
import Derived.Test.YtgihiaaodkkkbaaGreatDoorK34
namespace Go.Proofs.YtgihiaaodkkkbaaGreatDoor
open Go.RowKit

end Go.Proofs.YtgihiaaodkkkbaaGreatDoor
namespace Go.Proofs.YtgihiaaodkkkbaaGreatDoor
open Go.RowKit

end Go.Proofs.YtgihiaaodkkkbaaGreatDoor
namespace Go.Proofs.YtgihiaaodkkkbaaGreatDoor
open Go.RowKit

/-- Two rows of two. -/
def m2 (x0 y0 x1 y1 : Rat) (i j : Nat) : Rat := f2 (f2 x0 y0 j) (f2 x1 y1 j) i
end Go.Proofs.YtgihiaaodkkkbaaGreatDoor
namespace Go.Proofs.YtgihiaaodkkkbaaGreatDoor
open Go.RowKit

/-- The slice at a reads in w as n rows of numbers, as long as told. -/
def RdG (w : World) (a : Option Addr) (n : Nat) (len : Nat → Nat) (N : Nat → Nat → Bool) (S D : Nat → Nat → ByteArray) : Prop := ∀ i, i < n → ∃ b off ar c, a = some ⟨b, off, none⟩ ∧ w.cell? ⟨b, off + i, none⟩ = some (.slice ar (len i) c) ∧ len i ≤ c ∧ RdQ w ar (len i) (N i) (S i) (D i)
theorem RdG.below {w w' : World} {a : Option Addr} {n : Nat} {len : Nat → Nat} {N : Nat → Nat → Bool} {S D : Nat → Nat → ByteArray} (h : RdG w a n len N S D) (hb : Below w.heap.size w w') : RdG w' a n len N S D := by
 intro i hi
 obtain ⟨b, off, ar, c, rfl, h0, hc, h1⟩ := h i hi
 exact ⟨b, off, ar, c, rfl, cell_below h0 hb, hc, h1.below hb⟩
/-- As many rows as may be, and rows as long. -/
def sq (n : Nat) (len : Nat → Nat) : Prop := 1 ≤ n ∧ n ≤ 4 ∧ ∀ i, i < n → len i = n
end Go.Proofs.YtgihiaaodkkkbaaGreatDoor
namespace Go.Proofs.YtgihiaaodkkkbaaGreatDoor
open Go.RowKit

end Go.Proofs.YtgihiaaodkkkbaaGreatDoor
namespace Go.Proofs.YtgihiaaodkkkbaaGreatDoor
open Go.RowKit

end Go.Proofs.YtgihiaaodkkkbaaGreatDoor
namespace Go.Proofs.YtgihiaaodkkkbaaGreatDoor
open Go.RowKit

end Go.Proofs.YtgihiaaodkkkbaaGreatDoor
namespace Go.Proofs.YtgihiaaodkkkbaaGreatDoor
open Go.RowKit

end Go.Proofs.YtgihiaaodkkkbaaGreatDoor
namespace Go.Proofs.YtgihiaaodkkkbaaGreatDoor
open Go.RowKit

set_option maxRecDepth 100000 in
set_option maxHeartbeats 2000000 in
theorem roq_walk (x : Int) (xN : Bool) (xS : ByteArray) (w : World)
  (H : Hid (∀ w1, Calls Tryz.prog 72 #[.int .i64 x] w1 fun e w' => e = .returned (.agg #[.bool xN, .string xS]) ∧ Below w1.heap.size w1 w')) :
  Calls Tryz.prog 39 #[.int .i64 x] w fun e w' => e = .returned (.agg #[.bool xN, .string xS, .string ⟨#[1]⟩]) ∧ Below w.heap.size w w' := by
 go_enter Tryz.func39, Tryz.ntmps39
 go_wp2_with fail
 go_fit (H.out _)
 rintro e w1 ⟨rfl, b1⟩
 obtain ⟨kr, b1⟩ := al1 b1
 have d0 := cel3_0 kr
 have d1 := cel3_1 kr
 have d2 := cel3_2 kr
 have f0 := Cel.frozen kr 0
 have f1 := Cel.frozen kr 1
 have f2 := Cel.frozen kr 2
 go_wp2
 exact post_q (p := 2) (by kernel_rfl) rfl rfl (((kr.set 0 _).set 1 _).set 2 _) ⟨rfl, bset (bset (bset b1 (Nat.le_refl _) 0 _) (Nat.le_refl _) 1 _) (Nat.le_refl _) 2 _⟩
theorem roq_any (x : Int) (h1 : -1000 ≤ x) (h2 : x ≤ 1000) (w : World) :
  Calls Tryz.prog 39 #[.int .i64 x] w fun e w' => e = .returned (.agg #[.bool (nfZ x), .string (sfZ x), .string ⟨#[1]⟩]) ∧ Below w.heap.size w w' :=
 roq_walk x _ _ w (fun w1 => rof_any x (by omega) (by omega) w1)
end Go.Proofs.YtgihiaaodkkkbaaGreatDoor
