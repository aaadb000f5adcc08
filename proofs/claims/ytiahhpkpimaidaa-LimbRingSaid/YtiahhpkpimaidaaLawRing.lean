/-
  The walk of the law LimbRing.
-/
import Derived.Test.YtiahhpkpimaidaaMul
import Derived.Test.YtiahhpkpimaidaaLive
import Derived.Test.YtiahhpkpimaidaaSums
namespace Go.Proofs.Ytiahhpkpimaidaa
open Go.RowKit

set_option maxHeartbeats 4000000 in
theorem ring_walk (va vb vc : Value) (xs ys zs : List Nat) (w : World) (ha : Rd w va xs) (hb : Rd w vb ys) (hc : Rd w vc zs) (la : M.Low B64 xs) (lb : M.Low B64 ys) (lc : M.Low B64 zs) (hx : xs.length ≤ 200) (hy : ys.length ≤ 200) (hz : zs.length ≤ 200) :
    Calls Try.prog 8 #[va, vb, vc] w fun e w' => e = .returned (.bool true) ∧ Below w.heap.size w w' := by
  obtain ⟨a, ca, rfl, -, -⟩ := id ha
  obtain ⟨b, cb, rfl, -, -⟩ := id hb
  obtain ⟨c, cc, rfl, -, -⟩ := id hc
  have pX := M.val_lt_pow B64_pos la hx
  have pY := M.val_lt_pow B64_pos lb hy
  have pZ := M.val_lt_pow B64_pos lc hz
  have n1 := M.digs_len_of_lt B64_two (M.add_lt_pow B64_two pX pY)
  have n2 := M.digs_len_of_lt B64_two (M.mul_lt_pow pX pY)
  have n3 := M.digs_len_of_lt B64_two (M.mul_lt_pow pX pZ)
  have n4 := M.digs_len_of_lt B64_two (M.mul_lt_pow pY pZ)
  have n5 := M.digs_len_of_lt B64_two (M.mul_lt_pow (M.add_lt_pow B64_two pX pY) pZ)
  clear pX pY pZ
  have d1 : decide (200 < (ys.length : Int)) = false := by simp; omega
  have d2 : decide (200 < (zs.length : Int)) = false := by simp; omega
  have d3 : decide (200 < (xs.length : Int)) = false := by simp; omega
  go_enter Try.func8, Try.ntmps8
  go_wp2_with fail
  refine (add_any _ _ xs ys _ ha hb la lb (by omega) (by omega)).mono ?_
  rintro e w1 ⟨v1, rfl, r1, bN⟩
  replace ha := ha.below bN
  replace hb := hb.below bN
  replace hc := hc.below bN
  have bb := bN
  clear bN
  go_wp2_with fail
  refine (add_any _ _ ys xs _ hb ha lb la (by omega) (by omega)).mono ?_
  rintro e w2 ⟨v2, rfl, r2, bN⟩
  replace ha := ha.below bN
  replace hb := hb.below bN
  replace hc := hc.below bN
  replace r1 := r1.below bN
  replace bb := Below.after bb bN
  clear bN
  go_wp2_with fail
  refine (mul_any _ _ xs ys _ ha hb la lb (by omega) (by omega)).mono ?_
  rintro e w3 ⟨v3, rfl, r3, bN⟩
  replace ha := ha.below bN
  replace hb := hb.below bN
  replace hc := hc.below bN
  replace r1 := r1.below bN
  replace r2 := r2.below bN
  replace bb := Below.after bb bN
  clear bN
  go_wp2_with fail
  refine (mul_any _ _ ys xs _ hb ha lb la (by omega) (by omega)).mono ?_
  rintro e w4 ⟨v4, rfl, r4, bN⟩
  replace ha := ha.below bN
  replace hb := hb.below bN
  replace hc := hc.below bN
  replace r1 := r1.below bN
  replace r2 := r2.below bN
  replace r3 := r3.below bN
  replace bb := Below.after bb bN
  clear bN
  go_wp2_with fail
  refine (mul_any _ _ (M.digs B64 (M.val B64 xs + M.val B64 ys)) zs _ r1 hc (M.Low.digs B64_two _) lc (by omega) (by omega)).mono ?_
  rintro e w5 ⟨v5, rfl, r5, bN⟩
  simp only [M.val_digs B64_two] at r5
  replace ha := ha.below bN
  replace hb := hb.below bN
  replace hc := hc.below bN
  replace r1 := r1.below bN
  replace r2 := r2.below bN
  replace r3 := r3.below bN
  replace r4 := r4.below bN
  replace bb := Below.after bb bN
  clear bN
  go_wp2_with fail
  refine (mul_any _ _ xs zs _ ha hc la lc (by omega) (by omega)).mono ?_
  rintro e w6 ⟨v6, rfl, r6, bN⟩
  replace ha := ha.below bN
  replace hb := hb.below bN
  replace hc := hc.below bN
  replace r1 := r1.below bN
  replace r2 := r2.below bN
  replace r3 := r3.below bN
  replace r4 := r4.below bN
  replace r5 := r5.below bN
  replace bb := Below.after bb bN
  clear bN
  go_wp2_with fail
  refine (mul_any _ _ ys zs _ hb hc lb lc (by omega) (by omega)).mono ?_
  rintro e w7 ⟨v7, rfl, r7, bN⟩
  replace ha := ha.below bN
  replace hb := hb.below bN
  replace hc := hc.below bN
  replace r1 := r1.below bN
  replace r2 := r2.below bN
  replace r3 := r3.below bN
  replace r4 := r4.below bN
  replace r5 := r5.below bN
  replace r6 := r6.below bN
  replace bb := Below.after bb bN
  clear bN
  go_wp2_with fail
  refine (add_any _ _ (M.digs B64 (M.val B64 xs * M.val B64 zs)) (M.digs B64 (M.val B64 ys * M.val B64 zs)) _ r6 r7 (M.Low.digs B64_two _) (M.Low.digs B64_two _) (by omega) (by omega)).mono ?_
  rintro e w8 ⟨v8, rfl, r8, bN⟩
  simp only [M.val_digs B64_two] at r8
  replace ha := ha.below bN
  replace hb := hb.below bN
  replace hc := hc.below bN
  replace r1 := r1.below bN
  replace r2 := r2.below bN
  replace r3 := r3.below bN
  replace r4 := r4.below bN
  replace r5 := r5.below bN
  replace r6 := r6.below bN
  replace r7 := r7.below bN
  replace bb := Below.after bb bN
  clear bN
  rw [Nat.add_comm] at r2
  rw [Nat.mul_comm] at r4
  rw [← Nat.add_mul] at r8
  clear ha hb hc r6 r7
  go_wp2_with fail
  refine (same_true _ _ _ _ r1 r2 (by omega)).mono ?_
  rintro e w9 ⟨rfl, bN⟩
  replace r1 := r1.below bN
  replace r2 := r2.below bN
  replace r3 := r3.below bN
  replace r4 := r4.below bN
  replace r5 := r5.below bN
  replace r8 := r8.below bN
  replace bb := Below.after bb bN
  clear bN
  clear r1 r2
  go_wp2_with fail
  refine (same_true _ _ _ _ r3 r4 (by omega)).mono ?_
  rintro e w10 ⟨rfl, bN⟩
  replace r3 := r3.below bN
  replace r4 := r4.below bN
  replace r5 := r5.below bN
  replace r8 := r8.below bN
  replace bb := Below.after bb bN
  clear bN
  clear r3 r4
  go_wp2_with fail
  refine (same_true _ _ _ _ r5 r8 (by omega)).mono ?_
  rintro e w11 ⟨rfl, bN⟩
  replace r5 := r5.below bN
  replace r8 := r8.below bN
  replace bb := Below.after bb bN
  clear bN
  clear r5 r8
  go_wp2_with fail
  refine (live_any _).mono ?_
  rintro e w12 ⟨rfl, bN⟩
  replace bb := Below.after bb bN
  clear bN
  go_wp2
  go_ret
  exact ⟨rfl, bb⟩

set_option maxHeartbeats 1000000 in
theorem ring_long (a b c : Option Addr) (m n k ca cb cc : Nat) (w : World) (h : ¬ (m ≤ 200 ∧ n ≤ 200 ∧ k ≤ 200)) :
    Calls Try.prog 8 #[.slice a m ca, .slice b n cb, .slice c k cc] w fun e w' => e = .returned (.bool true) ∧ Below w.heap.size w w' := by
  have key : (200 < m) ∨ (m ≤ 200 ∧ 200 < n) ∨ (m ≤ 200 ∧ n ≤ 200 ∧ 200 < k) := by omega
  clear h
  rcases key with h1 | ⟨h1, h2⟩ | ⟨h1, h2, h3⟩
  · have d1 : decide (200 < (m : Int)) = true := by simp; omega
    go_enter Try.func8, Try.ntmps8
    go_wp2_with fail
    refine (live_any _).mono ?_
    rintro e w2 ⟨rfl, b2⟩
    go_wp2
    go_ret
    exact ⟨rfl, b2⟩
  · have d1 : decide (200 < (m : Int)) = false := by simp; omega
    have d2 : decide (200 < (n : Int)) = true := by simp; omega
    go_enter Try.func8, Try.ntmps8
    go_wp2_with fail
    refine (live_any _).mono ?_
    rintro e w2 ⟨rfl, b2⟩
    go_wp2
    go_ret
    exact ⟨rfl, b2⟩
  · have d1 : decide (200 < (m : Int)) = false := by simp; omega
    have d2 : decide (200 < (n : Int)) = false := by simp; omega
    have d3 : decide (200 < (k : Int)) = true := by simp; omega
    go_enter Try.func8, Try.ntmps8
    go_wp2_with fail
    refine (live_any _).mono ?_
    rintro e w2 ⟨rfl, b2⟩
    go_wp2
    go_ret
    exact ⟨rfl, b2⟩
end Go.Proofs.Ytiahhpkpimaidaa
