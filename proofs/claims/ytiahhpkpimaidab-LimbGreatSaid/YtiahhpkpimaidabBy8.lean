/-
  limb.bytesOf.
-/
import Derived.Test.YtiahhpkpimaidabWr
namespace Go.Proofs.Ytiahhpkpimaidab
open Go.RowKit

set_option maxRecDepth 100000 in
set_option maxHeartbeats 2000000 in
theorem bytesOf_any (x : Nat) (w : World) : Calls Try.prog 24 #[.int .u64 (x : Nat)] w fun e w' => e = .returned (.agg (bcellsOf (be8 x))) ∧ Below w.heap.size w w' := by
  go_enter Try.func24, Try.ntmps24
  go_wp2
  have e : #[Value.int IntKind.u8 ((x : Int) / 72057594037927936 % 256), Value.int IntKind.u8 ((x : Int) / 281474976710656 % 256),
          Value.int IntKind.u8 ((x : Int) / 1099511627776 % 256), Value.int IntKind.u8 ((x : Int) / 4294967296 % 256),
          Value.int IntKind.u8 ((x : Int) / 16777216 % 256), Value.int IntKind.u8 ((x : Int) / 65536 % 256),
          Value.int IntKind.u8 ((x : Int) / 256 % 256), Value.int IntKind.u8 ((x : Int) % 256)] = bcellsOf (be8 x) := by
    apply Array.toList_inj.1
    rfl
  rw [e]
  refine ⟨rfl, .agg (bcellsOf (be8 x)), ?_, rfl, (Below.refl _ _).alloc (Nat.le_refl _) _⟩
  exact results_cell_row (P := Try.prog) (fn := Try.f24) (p := 2) (ty := 55) (by kernel_rfl) _ _ w.heap.size 55 _ (0, 0) _ rfl (heap_alloc_new w _) Try.underlying55 rfl (by kernel_rfl)
end Go.Proofs.Ytiahhpkpimaidab
