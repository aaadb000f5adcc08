/-
  What 'live' calls, at its own inputs.
  'live' answers true.
-/
import Derived.Test.YtimmgjlojplccaaGreatDoorG08
import Derived.Test.YtimmgjlojplccaaGreatDoorG05
import Derived.Lib.ConvBytes
namespace Go.Proofs.YtimmgjlojplccaaGreatDoor
open Go.RowKit

set_option maxRecDepth 100000 in
set_option maxHeartbeats 2000000 in
theorem limbOf_5 (w : World) : Calls Tryz.prog 75 #[.string ⟨#[0, 0, 0, 0, 0, 0, 0, 5]⟩] w fun e w' => e = .returned (.int .u64 5) ∧ Below w.heap.size w w' := by
  go_enter Tryz.func75, Tryz.ntmps75
  go_wp2
  go_quiet (fail)
  go_wp2
  go_ret
  exact ⟨by kernel_rfl, below_drewN (Below.refl _ _) _⟩

theorem Below.bytes (w : World) (e : TypeId) (s : ByteArray) : Below w.heap.size w (Lib.bytesWorld w e s) :=
  ⟨rfl, rfl, rfl, by rw [Lib.bytesWorld_size]; omega, fun k hk => Lib.bytesWorld_at_old w e s k hk⟩

set_option maxRecDepth 100000 in
set_option maxHeartbeats 2000000 in
theorem limbOf_1 (w : World) : Calls Tryz.prog 75 #[.string ⟨#[1]⟩] w fun e w' => e = .returned (.int .u64 1) ∧ Below w.heap.size w w' := by
  have hcv := Lib.run_convert_string_bytes (P := Tryz.prog) w 22 59 5 ⟨#[1]⟩ Tryz.underlying22 Tryz.underlying59 Tryz.underlying5
  have hcell : (Lib.bytesWorld w 5 ⟨#[1]⟩).cell? ⟨w.heap.size, 0, none⟩ = some (.int .u8 1) := Lib.bytesWorld_cell w 5 ⟨#[1]⟩ 0 (by decide)
  have hb := Below.bytes w 5 ⟨#[1]⟩
  generalize Lib.bytesWorld w 5 ⟨#[1]⟩ = w1 at *
  go_enter Tryz.func75, Tryz.ntmps75
  go_wp2
  go_rounds 2
  go_ret
  exact ⟨by kernel_rfl, hb⟩

set_option maxRecDepth 100000 in
set_option maxHeartbeats 2000000 in
theorem of_live (w : World) : Calls Tryz.prog 45 #[.string ⟨#[1, 0, 0, 0, 0, 0, 0, 0, 5]⟩] w fun e w' => ∃ v, e = .returned (.tuple #[v, .int .i64 0]) ∧ Rd w' v [5, 1] ∧ Below w.heap.size w w' := by
  go_enter Tryz.func45, Tryz.ntmps45
  go_wp2_with (at_make; refine wpList_mk rfl _ _ rfl _ 2 rfl rfl rfl (by omega) ?_; intro w2 hblk hbel)
  refine wp_loop_rounds 3 ?_
  rw [rounds_succ]
  go_wp2_with fail
  refine (limbOf_5 _).mono ?_
  rintro e w3 ⟨rfl, hb3⟩
  have hblk3 := hblk.below hb3
  have g1 := hblk3.cell (j := 0) (by simp)
  have g2 := hblk3.frozen 0
  have hblk4 : Blk (w3.setCell ⟨w.heap.size, 0, none⟩ (.int .u64 5)) w.heap.size [5, 0] := hblk3.set 0 5
  have hbel4 : Below w.heap.size w (w3.setCell ⟨w.heap.size, 0, none⟩ (.int .u64 5)) := (Below.after hbel hb3).setCell (Nat.le_refl _) _
  go_wp2
  generalize w3.setCell ⟨w.heap.size, 0, none⟩ (.int .u64 5) = w4 at *
  clear g1 g2 hblk3 hb3 hblk hbel
  rw [rounds_succ]
  go_wp2_with fail
  refine (limbOf_1 _).mono ?_
  rintro e w5 ⟨rfl, hb5⟩
  have hblk5 := hblk4.below hb5
  have g1 := hblk5.cell (j := 1) (by simp)
  have g2 := hblk5.frozen 1
  have hblk6 : Blk (w5.setCell ⟨w.heap.size, 1, none⟩ (.int .u64 1)) w.heap.size [5, 1] := hblk5.set 1 1
  have hbel6 : Below w.heap.size w (w5.setCell ⟨w.heap.size, 1, none⟩ (.int .u64 1)) := (Below.after hbel4 hb5).setCell (Nat.le_refl _) _
  go_wp2
  generalize w5.setCell ⟨w.heap.size, 1, none⟩ (.int .u64 1) = w6 at *
  clear g1 g2 hblk5 hb5 hblk4
  rw [rounds_succ]
  go_wp2
  go_ret2
  exact ⟨_, rfl, hblk6.rd0 2 (by simp), hbel6⟩

end Go.Proofs.YtimmgjlojplccaaGreatDoor
namespace Go.Proofs.YtimmgjlojplccaaGreatDoor
open Go.RowKit

theorem low_of_all {b : Nat} {xs : List Nat} (h : xs.all (fun x => decide (x < b)) = true) : M.Low b xs := by
  intro x hx; simpa using List.all_eq_true.1 h x hx

set_option maxHeartbeats 1000000 in
theorem divide_live (va vb : Value) (w : World) (ha : Rd w va [0, 1]) (hb : Rd w vb [3]) :
    Calls Tryz.prog 51 #[va, vb] w fun e w' => ∃ q r, e = .returned (.tuple #[q, r]) ∧ Rd w' q [6148914691236517205, 0] ∧ Rd w' r [1] ∧ Below w.heap.size w w' := by
  have ha0 := ha
  obtain ⟨a, ca, rfl, hca, -⟩ := ha
  obtain ⟨b, cb, rfl, hcb, hc⟩ := hb
  obtain ⟨b1, o1, rfl, c0⟩ := hc 0 (by simp)
  have c0 : w.cell? ⟨b1, o1, none⟩ = some (.int .u64 3) := c0
  clear hc
  go_enter Tryz.func51, Tryz.ntmps51
  go_wp2_with fail
  refine (divideShort_live _ _ ha0).mono ?_
  rintro e w1 ⟨q, r, rfl, hq, hr, hb1⟩
  go_wp2
  go_ret2
  exact ⟨_, _, rfl, hq, hr, hb1⟩

theorem digs_eq {b : Nat} (hb : 2 ≤ b) {xs ys : List Nat} (hl : M.Low b ys) (ht : M.Trim ys) (e : M.val b xs = M.val b ys) : M.digs b (M.val b xs) = ys := by
  rw [e]; exact (M.eq_digs hb hl ht).symm

theorem trim_last {xs : List Nat} (h : (match xs.getLast? with | some x => decide (x ≠ 0) | none => true) = true) : M.Trim xs := by
  intro n hn
  have e : xs.getLast? = some (xs.getD n 0) := by
    rw [List.getLast?_eq_getElem?, List.getD_eq_getElem?_getD, hn]
    simp
    rw [List.getElem?_eq_getElem (by omega)]; rfl
  rw [e] at h
  simpa using h

set_option maxHeartbeats 1000000 in
theorem divmod_live (va vb : Value) (w : World) (ha : Rd w va [0, 1]) (hb : Rd w vb [3]) :
    Calls Tryz.prog 28 #[va, vb] w fun e w' => ∃ q r, e = .returned (.tuple #[q, r, .int .i64 0]) ∧ Rd w' q [6148914691236517205] ∧ Rd w' r [1] ∧ Below w.heap.size w w' := by
  have ha0 := ha
  have hb0 := hb
  obtain ⟨a, ca, rfl, hca, -⟩ := ha
  obtain ⟨b, cb, rfl, hcb, -⟩ := hb
  go_enter Tryz.func28, Tryz.ntmps28
  go_wp2_with fail
  refine (tooLong2 a b 2 1 ca cb _ 0 2 _ (by simp [go_sem]) (by simp [go_sem]) (by omega) (by omega)).mono ?_
  rintro e w1 ⟨rfl, rfl⟩
  have hb1 : Below w.heap.size w (w.alloc (.cells #[.slice a 2 ca, .slice b 1 cb] 47)) := by go_grown
  have ha1 := ha0.below hb1
  have hbb1 := hb0.below hb1
  go_wp2_with fail
  refine (trimmed_any _ _ [0, 1] ha1 (low_of_all (by decide)) (by decide)).mono ?_
  rintro e w1 ⟨v1, rfl, hv1, rfl⟩
  rw [show M.digs B64 (M.val B64 [0, 1]) = [0, 1] from digs_eq B64_two (low_of_all (by decide)) (trim_last (by decide)) rfl] at hv1
  go_wp2_with fail
  refine (trimmed_any _ _ [3] hbb1 (low_of_all (by decide)) (by decide)).mono ?_
  rintro e w1 ⟨v2, rfl, hv2, rfl⟩
  rw [show M.digs B64 (M.val B64 [3]) = [3] from digs_eq B64_two (low_of_all (by decide)) (trim_last (by decide)) rfl] at hv2
  have hv1' := hv1
  have hv2' := hv2
  obtain ⟨a1, c1, rfl, -, -⟩ := hv1
  obtain ⟨a2, c2, rfl, -, -⟩ := hv2
  generalize w.alloc (.cells #[.slice a 2 ca, .slice b 1 cb] 47) = W at *
  go_wp2_with fail
  refine (divide_live _ _ _ hv1' hv2').mono ?_
  rintro e w2 ⟨q, r, rfl, hq, hr, hb2⟩
  have hq0 := hq
  have hr0 := hr
  obtain ⟨aq, cq, rfl, -, -⟩ := hq
  obtain ⟨ar, cr, rfl, -, -⟩ := hr
  go_wp2_with fail
  refine (trimmed_any _ _ _ hq0 (low_of_all (by decide)) (by decide)).mono ?_
  rintro e w3 ⟨q', rfl, hq', rfl⟩
  rw [show M.digs B64 (M.val B64 [6148914691236517205, 0]) = [6148914691236517205] from digs_eq B64_two (low_of_all (by decide)) (trim_last (by decide)) rfl] at hq'
  go_wp2_with fail
  refine (trimmed_any _ _ _ hr0 (low_of_all (by decide)) (by decide)).mono ?_
  rintro e w3 ⟨r', rfl, hr', rfl⟩
  rw [show M.digs B64 (M.val B64 [1]) = [1] from digs_eq B64_two (low_of_all (by decide)) (trim_last (by decide)) rfl] at hr'
  go_wp2
  go_ret3
  exact ⟨_, _, rfl, hq', hr', Below.after hb1 hb2⟩

theorem rd_lit {w : World} {g : Nat} (hg : g = w.heap.size) (xs : List Nat) : Rd (w.alloc (.cells (cellsOf xs) 56)) (.slice (some ⟨g, 0, none⟩) xs.length xs.length) xs := by
  subst hg; exact (blk_new w xs).rd0 _ (Nat.le_refl _)
theorem Rd.alloc {w : World} {v : Value} {xs : List Nat} (h : Rd w v xs) (o : Obj) : Rd (w.alloc o) v xs := h.below ((Below.refl _ _).alloc (Nat.le_refl _) o)
theorem rd1 (w : World) {g : Nat} (hg : g = w.heap.size) (x : Nat) : Rd (w.alloc (.cells #[.int .u64 (x : Nat)] 56)) (.slice (some ⟨g, 0, none⟩) 1 1) [x] := rd_lit hg [x]
theorem rd2 (w : World) {g : Nat} (hg : g = w.heap.size) (x y : Nat) : Rd (w.alloc (.cells #[.int .u64 (x : Nat), .int .u64 (y : Nat)] 56)) (.slice (some ⟨g, 0, none⟩) 2 2) [x, y] := rd_lit hg [x, y]

end Go.Proofs.YtimmgjlojplccaaGreatDoor
