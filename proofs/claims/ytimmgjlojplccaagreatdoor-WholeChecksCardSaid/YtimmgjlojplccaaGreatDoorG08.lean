/-
  math/bits.Div64 at the two places that 'live' asks for.
  Package gussetref01: Cmp, Same.
-/
import Derived.Test.YtimmgjlojplccaaGreatDoorG06
import Derived.WalkSmall
import Derived.Test.YtimmgjlojplccaaGreatDoorG05
import Derived.Test.YtimmgjlojplccaaGreatDoorG01
namespace Go.Proofs.YtimmgjlojplccaaGreatDoor
open Go.RowKit

set_option maxRecDepth 100000 in
set_option maxHeartbeats 1000000 in
theorem len64_3 (w : World) : Calls Tryz.prog 108 #[.int .u64 3] w fun e w' => e = .returned (.int .i64 2) ∧ w' = w := by
  go_enter Tryz.func108, Tryz.ntmps108
  go_wp2
  go_ret
  exact ⟨by kernel_rfl, rfl⟩

theorem lz64_3 (w : World) : Calls Tryz.prog 83 #[.int .u64 3] w fun e w' => e = .returned (.int .i64 62) ∧ w' = w := by
  go_enter Tryz.func83, Tryz.ntmps83
  go_wp2_with (go_at_call 108; refine (len64_3 _).mono ?_; rintro e w' ⟨rfl, rfl⟩)
  go_ret
  exact ⟨rfl, rfl⟩

set_option maxRecDepth 100000 in
set_option maxHeartbeats 1000000 in
theorem div64_013 (w : World) : Calls Tryz.prog 103 #[.int .u64 0, .int .u64 1, .int .u64 3] w fun e w' => e = .returned (.tuple #[.int .u64 0, .int .u64 1]) ∧ Below w.heap.size w w' := by
  go_enter Tryz.func103, Tryz.ntmps103
  go_wp2
  go_quiet (fail)
  go_wp2
  go_ret2
  exact ⟨rfl, below_drewN (Below.refl _ _) _⟩

set_option maxRecDepth 100000 in
set_option maxHeartbeats 1000000 in
theorem div64_103 (w : World) : Calls Tryz.prog 103 #[.int .u64 1, .int .u64 0, .int .u64 3] w fun e w' => e = .returned (.tuple #[.int .u64 6148914691236517205, .int .u64 1]) ∧ Below w.heap.size w w' := by
  have e1 : bits .and .u64 13835058055282163712 4294967295 = 0 := by kernel_rfl
  have e2 : bits .or .u64 4611686018427387904 0 = 4611686018427387904 := by kernel_rfl
  have e3 : bits .and .u64 0 4294967295 = 0 := by kernel_rfl
  have e4 : IntKind.u64.wrap 19807040628566084398385987584 = 0 := by kernel_rfl
  have e5 : IntKind.u64.wrap 19807040623954398379958599680 = 13835058055282163712 := by kernel_rfl
  have e6 : IntKind.u64.wrap (0 - 13835058055282163712) = 4611686018427387904 := by kernel_rfl
  have e7 : IntKind.u64.wrap (-13835058055282163712) = 4611686018427387904 := by kernel_rfl
  go_enter Tryz.func103, Tryz.ntmps103
  go_wp2_with (go_at_call 83; refine (lz64_3 _).mono ?_; rintro e w' ⟨rfl, rfl⟩)
  go_rounds 2
  go_rounds 2
  go_ret2
  exact ⟨rfl, Below.refl _ _⟩

set_option maxHeartbeats 1000000 in
/-- (0, 1) by 3. -/
theorem divideShort_live (va : Value) (w : World) (ha : Rd w va [0, 1]) :
    Calls Tryz.prog 80 #[va, .int .u64 3] w fun e w' => ∃ q r, e = .returned (.tuple #[q, r]) ∧ Rd w' q [6148914691236517205, 0] ∧ Rd w' r [1] ∧ Below w.heap.size w w' := by
  have ha0 := ha
  obtain ⟨a, ca, rfl, hca, hc⟩ := ha
  obtain ⟨b, off, rfl, c0⟩ := hc 0 (by simp)
  have c1 : w.cell? ⟨b, off + 1, none⟩ = some (.int .u64 1) := by
    obtain ⟨b', o', he, h⟩ := hc 1 (by simp)
    simp at he
    obtain ⟨rfl, rfl⟩ := he
    exact h
  have c0 : w.cell? ⟨b, off, none⟩ = some (.int .u64 0) := c0
  clear hc
  go_enter Tryz.func80, Tryz.ntmps80
  go_wp2_with (at_make; refine wpList_mk rfl _ _ rfl _ 2 rfl rfl rfl (by omega) ?_; intro w2 hblk hbel)
  have d1 := cell_below c1 hbel
  have d0 := cell_below c0 hbel
  refine wp_loop_rounds 3 ?_
  rw [rounds_succ]
  go_wp2_with fail
  refine (div64_013 _).mono ?_
  rintro e w3 ⟨rfl, hb3⟩
  have hblk3 := hblk.below hb3
  have f1 := cell_below d0 hb3
  have g1 := hblk3.cell (j := 1) (by simp)
  have g2 := hblk3.frozen 1
  have hblk4 : Blk (w3.setCell ⟨w.heap.size, 1, none⟩ (.int .u64 0)) w.heap.size [0, 0] := hblk3.set 1 0
  have hbw : b < w.heap.size := World.block_lt_of_cell? w _ c1
  have f2 : (w3.setCell ⟨w.heap.size, 1, none⟩ (.int .u64 0)).cell? ⟨b, off, none⟩ = some (.int .u64 0) := by
    rw [World.cell?_setCell_other _ _ _ _ (by intro e; simp at e)]; exact f1
  have hbel4 : Below w.heap.size w (w3.setCell ⟨w.heap.size, 1, none⟩ (.int .u64 0)) := (Below.after hbel hb3).setCell (Nat.le_refl _) _
  clear d1 d0 c1 c0
  go_wp2
  generalize w3.setCell ⟨w.heap.size, 1, none⟩ (.int .u64 0) = w4 at *
  clear g1 g2 f1 hblk3 hb3 hblk hbel ha0
  rw [rounds_succ]
  go_wp2_with fail
  refine (div64_103 _).mono ?_
  rintro e w5 ⟨rfl, hb5⟩
  have hblk5 := hblk4.below hb5
  have g1 := hblk5.cell (j := 0) (by simp)
  have g2 := hblk5.frozen 0
  have hblk6 : Blk (w5.setCell ⟨w.heap.size, 0, none⟩ (.int .u64 6148914691236517205)) w.heap.size [6148914691236517205, 0] := hblk5.set 0 6148914691236517205
  have hbel6 : Below w.heap.size w (w5.setCell ⟨w.heap.size, 0, none⟩ (.int .u64 6148914691236517205)) := (Below.after hbel4 hb5).setCell (Nat.le_refl _) _
  go_wp2
  generalize w5.setCell ⟨w.heap.size, 0, none⟩ (.int .u64 6148914691236517205) = w6 at *
  clear g1 g2 hblk5 hb5 hblk4 f2
  rw [rounds_succ]
  go_wp2
  go_ret2
  have hbz := hbel6.size
  refine ⟨_, _, rfl, (hblk6.alloc _).rd0 2 (by simp), ?_, hbel6.alloc hbz _⟩
  exact ⟨_, 1, rfl, by simp, fun j hj => ⟨_, 0, rfl, by
    have : j = 0 := by simpa using hj
    subst this
    simp [go_sem, lm]⟩⟩
end Go.Proofs.YtimmgjlojplccaaGreatDoor
namespace Go.Proofs.YtimmgjlojplccaaGreatDoor
open Go.RowKit

theorem Rd.at {w w' : World} {a : Option Addr} {n cap : Nat} {xs : List Nat} (h : Rd w (.slice a n cap) xs) (hb : Below w.heap.size w w') {j : Nat} (hj : j < xs.length) :
    ∃ b off, a = some ⟨b, off, none⟩ ∧ w'.cell? ⟨b, off + j, none⟩ = some (.int .u64 (lm xs j : Nat)) := by
  obtain ⟨a', c', e, _, h'⟩ := h.below hb
  simp only [Value.slice.injEq] at e
  obtain ⟨rfl, rfl, rfl⟩ := e
  exact h' j hj

set_option maxHeartbeats 1000000 in
theorem rcmp_any (bs : Nat) (hbs : 0 < bs) (va vb : Value) (xs ys : List Nat) (w : World) (ha : Rd w va xs) (hb : Rd w vb ys) (la : M.Low bs xs) (lb : M.Low bs ys) (ta : M.Trim xs) (tb : M.Trim ys) (hx : xs.length ≤ 100000) :
    Calls Tryz.prog 70 #[va, vb] w fun e w' => e = .returned (.int .i64 (cmpN (M.val bs xs) (M.val bs ys))) ∧ Below w.heap.size w w' := by
  have ha0 := ha
  have hb0 := hb
  obtain ⟨a, ca, rfl, hca, -⟩ := ha
  obtain ⟨b, cb, rfl, hcb, -⟩ := hb
  rcases Nat.lt_trichotomy xs.length ys.length with h | h | h
  · have HV : Hid (cmpN (M.val bs xs) (M.val bs ys) = -1) := cmpN_lt (M.lt_of_length hbs la tb h)
    go_enter Tryz.func70, Tryz.ntmps70
    go_wp2
    go_ret
    exact ⟨by rw [HV.out]; rfl, Below.refl _ _⟩
  · have HL : Hid (xs.length = ys.length) := h
    rw [← h] at hb0 hcb ⊢
    clear h
    go_enter Tryz.func70, Tryz.ntmps70
    go_wp2
    go_loopw [5] (fun i wr => ∃ k : Nat, k ≤ xs.length ∧ i = .int .i64 ((k : Int) - 1) ∧ (∀ j, k ≤ j → lm xs j = lm ys j) ∧ Below w.heap.size w wr) (fun i _ => (intOf i + 1).toNat)
    case atStart => exact ⟨xs.length, Nat.le_refl _, rfl, fun j hj => by rw [lm_ge hj, lm_ge (by have := HL.out; omega)], Below.refl _ _⟩
    case round =>
      obtain ⟨k, hk, rfl, heq, hbel⟩ := hrel
      have HE : Hid (∀ j, k ≤ j → lm xs j = lm ys j) := heq
      clear heq
      match k with
      | 0 =>
        have HV : Hid (cmpN (M.val bs xs) (M.val bs ys) = 0) := cmpN_eq (M.val_ext _ (fun j => HE.out j (by omega)))
        go_wp2
        go_ret
        exact ⟨by rw [HV.out]; rfl, hbel⟩
      | k + 1 =>
        have e1 : (((k + 1 : Nat) : Int) - 1) = (k : Int) := by omega
        rw [e1]
        obtain ⟨b1, o1, rfl, q1⟩ := ha0.at hbel (j := k) (by omega)
        obtain ⟨b2, o2, rfl, q2⟩ := hb0.at hbel (j := k) (by have := HL.out; omega)
        have hk' : (k : Int) < xs.length := by omega
        rcases Nat.lt_trichotomy (lm xs k) (lm ys k) with h | h | h
        · have HV : Hid (cmpN (M.val bs xs) (M.val bs ys) = -1) := cmpN_lt (M.lt_of_top hbs k la (fun j hj => HE.out j (by omega)) h)
          go_wp2
          go_quiet (fail)
          go_wp2
          go_ret
          exact ⟨by rw [HV.out]; rfl, below_drewN hbel _⟩
        · have HQ : Hid (lm xs k = lm ys k) := h
          have h1 : ¬ lm xs k < lm ys k := by omega
          have h2 : ¬ lm ys k < lm xs k := by omega
          clear h
          go_wp2
          go_quiet (fail)
          go_wp2
          go_quiet (fail)
          go_wp2
          refine ⟨⟨k, by omega, by go_num, fun j hj => ?_, below_drewN hbel _⟩, by simp [intOf]⟩
          by_cases e : j = k
          · subst e; exact HQ.out
          · exact HE.out j (by omega)
        · have HV : Hid (cmpN (M.val bs xs) (M.val bs ys) = 1) := cmpN_gt (M.lt_of_top hbs k lb (fun j hj => (HE.out j (by omega)).symm) h)
          have h1 : ¬ lm xs k < lm ys k := by omega
          go_wp2
          go_quiet (fail)
          go_wp2
          go_quiet (fail)
          go_wp2
          go_ret
          exact ⟨by rw [HV.out]; rfl, below_drewN (below_drewN hbel _) _⟩
  · have HV : Hid (cmpN (M.val bs xs) (M.val bs ys) = 1) := cmpN_gt (M.lt_of_length hbs lb ta h)
    have h1 : ¬ xs.length < ys.length := by omega
    go_enter Tryz.func70, Tryz.ntmps70
    go_wp2
    go_ret
    exact ⟨by rw [HV.out]; rfl, Below.refl _ _⟩

end Go.Proofs.YtimmgjlojplccaaGreatDoor
