/-
  math/bits.Div64 at the two places that 'live' asks for.
-/
import Derived.Test.YtiahhpkpimaidabRefs
import Derived.WalkSmall
namespace Go.Proofs.Ytiahhpkpimaidab
open Go.RowKit

set_option maxRecDepth 100000 in
set_option maxHeartbeats 1000000 in
theorem len64_3 (w : World) : Calls Try.prog 34 #[.int .u64 3] w fun e w' => e = .returned (.int .i64 2) ∧ w' = w := by
  go_enter Try.func34, Try.ntmps34
  go_wp2
  go_ret
  exact ⟨by kernel_rfl, rfl⟩

theorem lz64_3 (w : World) : Calls Try.prog 22 #[.int .u64 3] w fun e w' => e = .returned (.int .i64 62) ∧ w' = w := by
  go_enter Try.func22, Try.ntmps22
  go_wp2_with (go_at_call 34; refine (len64_3 _).mono ?_; rintro e w' ⟨rfl, rfl⟩)
  go_ret
  exact ⟨rfl, rfl⟩

set_option maxRecDepth 100000 in
set_option maxHeartbeats 1000000 in
theorem div64_013 (w : World) : Calls Try.prog 40 #[.int .u64 0, .int .u64 1, .int .u64 3] w fun e w' => e = .returned (.tuple #[.int .u64 0, .int .u64 1]) ∧ Below w.heap.size w w' := by
  go_enter Try.func40, Try.ntmps40
  go_wp2
  go_quiet (fail)
  go_wp2
  go_ret2
  exact ⟨rfl, below_drewN (Below.refl _ _) _⟩

set_option maxRecDepth 100000 in
set_option maxHeartbeats 1000000 in
theorem div64_103 (w : World) : Calls Try.prog 40 #[.int .u64 1, .int .u64 0, .int .u64 3] w fun e w' => e = .returned (.tuple #[.int .u64 6148914691236517205, .int .u64 1]) ∧ Below w.heap.size w w' := by
  have e1 : bits .and .u64 13835058055282163712 4294967295 = 0 := by kernel_rfl
  have e2 : bits .or .u64 4611686018427387904 0 = 4611686018427387904 := by kernel_rfl
  have e3 : bits .and .u64 0 4294967295 = 0 := by kernel_rfl
  have e4 : IntKind.u64.wrap 19807040628566084398385987584 = 0 := by kernel_rfl
  have e5 : IntKind.u64.wrap 19807040623954398379958599680 = 13835058055282163712 := by kernel_rfl
  have e6 : IntKind.u64.wrap (0 - 13835058055282163712) = 4611686018427387904 := by kernel_rfl
  have e7 : IntKind.u64.wrap (-13835058055282163712) = 4611686018427387904 := by kernel_rfl
  go_enter Try.func40, Try.ntmps40
  go_wp2_with (go_at_call 22; refine (lz64_3 _).mono ?_; rintro e w' ⟨rfl, rfl⟩)
  go_rounds 2
  go_rounds 2
  go_ret2
  exact ⟨rfl, Below.refl _ _⟩

set_option maxHeartbeats 1000000 in
/-- (0, 1) by 3. -/
theorem divideShort_live (va : Value) (w : World) (ha : Rd w va [0, 1]) :
    Calls Try.prog 32 #[va, .int .u64 3] w fun e w' => ∃ q r, e = .returned (.tuple #[q, r]) ∧ Rd w' q [6148914691236517205, 0] ∧ Rd w' r [1] ∧ Below w.heap.size w w' := by
  have ha0 := ha
  obtain ⟨a, ca, rfl, hca, hc⟩ := ha
  obtain ⟨b, off, rfl, c0⟩ := hc 0 (by simp)
  have c1 : w.cell? ⟨b, off + 1, none⟩ = some (.int .u64 1) := by
    obtain ⟨b', o', he, h⟩ := hc 1 (by simp)
    simp at he
    obtain ⟨rfl, rfl⟩ := he
    exact h
  have c0 : w.cell? ⟨b, off, none⟩ = some (.int .u64 0) := c0
  clear hc
  go_enter Try.func32, Try.ntmps32
  go_wp2_with (at_make; refine wpList_mk rfl _ _ rfl _ 2 rfl rfl rfl (by omega) ?_; intro w2 hblk hbel)
  have d1 := cell_below c1 hbel
  have d0 := cell_below c0 hbel
  refine wp_loop_rounds 3 ?_
  rw [rounds_succ]
  go_wp2_with fail
  refine (div64_013 _).mono ?_
  rintro e w3 ⟨rfl, hb3⟩
  have hblk3 := hblk.below hb3
  have f1 := cell_below d0 hb3
  have g1 := hblk3.cell (j := 1) (by simp)
  have g2 := hblk3.frozen 1
  have hblk4 : Blk (w3.setCell ⟨w.heap.size, 1, none⟩ (.int .u64 0)) w.heap.size [0, 0] := hblk3.set 1 0
  have hbw : b < w.heap.size := World.block_lt_of_cell? w _ c1
  have f2 : (w3.setCell ⟨w.heap.size, 1, none⟩ (.int .u64 0)).cell? ⟨b, off, none⟩ = some (.int .u64 0) := by
    rw [World.cell?_setCell_other _ _ _ _ (by intro e; simp at e)]; exact f1
  have hbel4 : Below w.heap.size w (w3.setCell ⟨w.heap.size, 1, none⟩ (.int .u64 0)) := (Below.after hbel hb3).setCell (Nat.le_refl _) _
  clear d1 d0 c1 c0
  go_wp2
  generalize w3.setCell ⟨w.heap.size, 1, none⟩ (.int .u64 0) = w4 at *
  clear g1 g2 f1 hblk3 hb3 hblk hbel ha0
  rw [rounds_succ]
  go_wp2_with fail
  refine (div64_103 _).mono ?_
  rintro e w5 ⟨rfl, hb5⟩
  have hblk5 := hblk4.below hb5
  have g1 := hblk5.cell (j := 0) (by simp)
  have g2 := hblk5.frozen 0
  have hblk6 : Blk (w5.setCell ⟨w.heap.size, 0, none⟩ (.int .u64 6148914691236517205)) w.heap.size [6148914691236517205, 0] := hblk5.set 0 6148914691236517205
  have hbel6 : Below w.heap.size w (w5.setCell ⟨w.heap.size, 0, none⟩ (.int .u64 6148914691236517205)) := (Below.after hbel4 hb5).setCell (Nat.le_refl _) _
  go_wp2
  generalize w5.setCell ⟨w.heap.size, 0, none⟩ (.int .u64 6148914691236517205) = w6 at *
  clear g1 g2 hblk5 hb5 hblk4 f2
  rw [rounds_succ]
  go_wp2
  go_ret2
  have hbz := hbel6.size
  refine ⟨_, _, rfl, (hblk6.alloc _).rd0 2 (by simp), ?_, hbel6.alloc hbz _⟩
  exact ⟨_, 1, rfl, by simp, fun j hj => ⟨_, 0, rfl, by
    have : j = 0 := by simpa using hj
    subst this
    simp [go_sem, lm]⟩⟩
end Go.Proofs.Ytiahhpkpimaidab
