/-
  The walk of the law LimbProducts.
-/
import Derived.Test.YtiahhpkpimaidaaMul
import Derived.Test.YtiahhpkpimaidaaRmul
import Derived.Test.YtiahhpkpimaidaaJoin
import Derived.Test.YtiahhpkpimaidaaCopied
import Derived.Test.YtiahhpkpimaidaaLive
namespace Go.Proofs.Ytiahhpkpimaidaa
open Go.RowKit

set_option maxHeartbeats 4000000 in
theorem products_walk (va vb : Value) (xs ys : List Nat) (w : World) (ha : Rd w va xs) (hb : Rd w vb ys) (la : M.Low B64 xs) (lb : M.Low B64 ys) (hx : xs.length ≤ 60) (hy : ys.length ≤ 60) :
    Calls Try.prog 5 #[va, vb] w fun e w' => e = .returned (.bool true) ∧ Below w.heap.size w w' := by
  obtain ⟨a, ca, rfl, -, -⟩ := id ha
  obtain ⟨b, cb, rfl, -, -⟩ := id hb
  have pX := M.val_lt_pow B64_pos la hx
  have pY := M.val_lt_pow B64_pos lb hy
  have pXd : M.val B64 xs < D32 ^ 120 := by rw [← spl_val]; exact M.val_lt_pow D32_pos (spl_low la) (by rw [spl_length]; omega)
  have pYd : M.val B64 ys < D32 ^ 120 := by rw [← spl_val]; exact M.val_lt_pow D32_pos (spl_low lb) (by rw [spl_length]; omega)
  have n1 := M.digs_len_of_lt B64_two (M.mul_lt_pow pX pY)
  have n2 := M.digs_len_of_lt D32_two pXd
  have n3 := M.digs_len_of_lt D32_two pYd
  have n4 := M.digs_len_of_lt D32_two (M.mul_lt_pow pXd pYd)
  clear pX pY pXd pYd
  go_enter Try.func5, Try.ntmps5
  go_wp2_with fail
  refine (small_yes _ _ _ _ _ _ _ hx hy).mono ?_
  rintro e w0 ⟨rfl, hw⟩
  have hw := hw.symm
  subst hw
  go_wp2_with fail
  refine (mul_any _ _ xs ys _ ha hb la lb (by omega) (by omega)).mono ?_
  rintro e w1 ⟨v1, rfl, r1, bN⟩
  replace ha := ha.below bN
  replace hb := hb.below bN
  have bb := bN
  clear bN
  go_wp2_with fail
  refine (split_any _ xs _ ha la (by omega)).mono ?_
  rintro e w2 ⟨v2, rfl, r2, bN⟩
  replace ha := ha.below bN
  replace hb := hb.below bN
  replace r1 := r1.below bN
  replace bb := Below.after bb bN
  clear bN
  go_wp2_with fail
  refine (split_any _ ys _ hb lb (by omega)).mono ?_
  rintro e w3 ⟨v3, rfl, r3, bN⟩
  replace ha := ha.below bN
  replace hb := hb.below bN
  replace r1 := r1.below bN
  replace r2 := r2.below bN
  replace bb := Below.after bb bN
  clear bN
  clear ha hb
  go_wp2_with fail
  refine (rmul_any _ _ _ _ _ r2 r3 (M.Low.digs D32_two _) (M.Low.digs D32_two _) (by omega) (by omega)).mono ?_
  rintro e w4 ⟨v4, rfl, r4, bN⟩
  simp only [M.val_digs D32_two] at r4
  replace r1 := r1.below bN
  replace r2 := r2.below bN
  replace r3 := r3.below bN
  replace bb := Below.after bb bN
  clear bN
  clear r2 r3
  go_wp2_with fail
  refine (join_any _ _ _ r4 (M.Low.digs D32_two _) (by omega)).mono ?_
  rintro e w5 ⟨v5, rfl, r5, bN⟩
  simp only [M.val_digs D32_two] at r5
  replace r1 := r1.below bN
  replace r4 := r4.below bN
  replace bb := Below.after bb bN
  clear bN
  clear r4
  go_wp2_with fail
  refine (same_true _ _ _ _ r1 r5 (by omega)).mono ?_
  rintro e w6 ⟨rfl, bN⟩
  replace r1 := r1.below bN
  replace r5 := r5.below bN
  replace bb := Below.after bb bN
  clear bN
  clear r1 r5
  go_wp2_with fail
  refine (live_any _).mono ?_
  rintro e w7 ⟨rfl, bN⟩
  replace bb := Below.after bb bN
  clear bN
  go_wp2
  go_ret
  exact ⟨rfl, bb⟩

set_option maxHeartbeats 1000000 in
theorem products_long (a b : Option Addr) (m n c d : Nat) (w : World) (h : ¬ (m ≤ 60 ∧ n ≤ 60)) :
    Calls Try.prog 5 #[.slice a m c, .slice b n d] w fun e w' => e = .returned (.bool true) ∧ Below w.heap.size w w' := by
  have H := shut (small_no a b m n c d w h)
  clear h
  go_enter Try.func5, Try.ntmps5
  go_wp2_with fail
  refine H.out.mono ?_
  rintro e w1 ⟨rfl, hw⟩
  have hw := hw.symm
  subst hw
  go_wp2_with fail
  refine (live_any _).mono ?_
  rintro e w2 ⟨rfl, b2⟩
  go_wp2
  go_ret
  exact ⟨rfl, b2⟩
end Go.Proofs.Ytiahhpkpimaidaa
