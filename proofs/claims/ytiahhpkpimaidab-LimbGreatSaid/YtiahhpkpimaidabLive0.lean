/-
  What 'live' calls, at its own inputs.
-/
import Derived.Test.YtiahhpkpimaidabDiv0
import Derived.Test.YtiahhpkpimaidabRcmp
import Derived.Test.YtiahhpkpimaidabSubs
import Derived.Lib.ConvBytes
namespace Go.Proofs.Ytiahhpkpimaidab
open Go.RowKit

set_option maxRecDepth 100000 in
set_option maxHeartbeats 2000000 in
theorem limbOf_5 (w : World) : Calls Try.prog 27 #[.string ⟨#[0, 0, 0, 0, 0, 0, 0, 5]⟩] w fun e w' => e = .returned (.int .u64 5) ∧ Below w.heap.size w w' := by
  go_enter Try.func27, Try.ntmps27
  go_wp2
  go_quiet (fail)
  go_wp2
  go_ret
  exact ⟨by kernel_rfl, below_drewN (Below.refl _ _) _⟩

theorem Below.bytes (w : World) (e : TypeId) (s : ByteArray) : Below w.heap.size w (Lib.bytesWorld w e s) :=
  ⟨rfl, rfl, rfl, by rw [Lib.bytesWorld_size]; omega, fun k hk => Lib.bytesWorld_at_old w e s k hk⟩

set_option maxRecDepth 100000 in
set_option maxHeartbeats 2000000 in
theorem limbOf_1 (w : World) : Calls Try.prog 27 #[.string ⟨#[1]⟩] w fun e w' => e = .returned (.int .u64 1) ∧ Below w.heap.size w w' := by
  have hcv := Lib.run_convert_string_bytes (P := Try.prog) w 32 51 5 ⟨#[1]⟩ Try.underlying32 Try.underlying51 Try.underlying5
  have hcell : (Lib.bytesWorld w 5 ⟨#[1]⟩).cell? ⟨w.heap.size, 0, none⟩ = some (.int .u8 1) := Lib.bytesWorld_cell w 5 ⟨#[1]⟩ 0 (by decide)
  have hb := Below.bytes w 5 ⟨#[1]⟩
  generalize Lib.bytesWorld w 5 ⟨#[1]⟩ = w1 at *
  go_enter Try.func27, Try.ntmps27
  go_wp2
  go_rounds 2
  go_ret
  exact ⟨by kernel_rfl, hb⟩

set_option maxRecDepth 100000 in
set_option maxHeartbeats 2000000 in
theorem of_live (w : World) : Calls Try.prog 13 #[.string ⟨#[1, 0, 0, 0, 0, 0, 0, 0, 5]⟩] w fun e w' => ∃ v, e = .returned (.tuple #[v, .int .i64 0]) ∧ Rd w' v [5, 1] ∧ Below w.heap.size w w' := by
  go_enter Try.func13, Try.ntmps13
  go_wp2_with (at_make; refine wpList_mk rfl _ _ rfl _ 2 rfl rfl rfl (by omega) ?_; intro w2 hblk hbel)
  refine wp_loop_rounds 3 ?_
  rw [rounds_succ]
  go_wp2_with fail
  refine (limbOf_5 _).mono ?_
  rintro e w3 ⟨rfl, hb3⟩
  have hblk3 := hblk.below hb3
  have g1 := hblk3.cell (j := 0) (by simp)
  have g2 := hblk3.frozen 0
  have hblk4 : Blk (w3.setCell ⟨w.heap.size, 0, none⟩ (.int .u64 5)) w.heap.size [5, 0] := hblk3.set 0 5
  have hbel4 : Below w.heap.size w (w3.setCell ⟨w.heap.size, 0, none⟩ (.int .u64 5)) := (Below.after hbel hb3).setCell (Nat.le_refl _) _
  go_wp2
  generalize w3.setCell ⟨w.heap.size, 0, none⟩ (.int .u64 5) = w4 at *
  clear g1 g2 hblk3 hb3 hblk hbel
  rw [rounds_succ]
  go_wp2_with fail
  refine (limbOf_1 _).mono ?_
  rintro e w5 ⟨rfl, hb5⟩
  have hblk5 := hblk4.below hb5
  have g1 := hblk5.cell (j := 1) (by simp)
  have g2 := hblk5.frozen 1
  have hblk6 : Blk (w5.setCell ⟨w.heap.size, 1, none⟩ (.int .u64 1)) w.heap.size [5, 1] := hblk5.set 1 1
  have hbel6 : Below w.heap.size w (w5.setCell ⟨w.heap.size, 1, none⟩ (.int .u64 1)) := (Below.after hbel4 hb5).setCell (Nat.le_refl _) _
  go_wp2
  generalize w5.setCell ⟨w.heap.size, 1, none⟩ (.int .u64 1) = w6 at *
  clear g1 g2 hblk5 hb5 hblk4
  rw [rounds_succ]
  go_wp2
  go_ret2
  exact ⟨_, rfl, hblk6.rd0 2 (by simp), hbel6⟩

end Go.Proofs.Ytiahhpkpimaidab
