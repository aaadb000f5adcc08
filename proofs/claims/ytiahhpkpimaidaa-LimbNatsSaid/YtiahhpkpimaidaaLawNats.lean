/-
  The walk of the law LimbNats.
-/
import Derived.Test.YtiahhpkpimaidaaLNat
import Derived.Test.YtiahhpkpimaidaaJoin
import Derived.Test.YtiahhpkpimaidaaLive
namespace Go.Proofs.Ytiahhpkpimaidaa
open Go.RowKit

theorem natOf_lt64 (s : ByteArray) (k : Nat) (h : s.size ≤ 8 * k) : natOf s < B64 ^ k := Nat.lt_of_lt_of_le (natOf_lt s) (by rw [B64_pow]; exact Nat.pow_le_pow_right (by omega) h)
theorem natOf_lt32 (s : ByteArray) (k : Nat) (h : s.size ≤ 4 * k) : natOf s < D32 ^ k := Nat.lt_of_lt_of_le (natOf_lt s) (by rw [show D32 = 256 ^ 4 from rfl, ← Nat.pow_mul]; exact Nat.pow_le_pow_right (by omega) h)

set_option maxHeartbeats 4000000 in
theorem nats_walk (s : ByteArray) (va : Value) (xs : List Nat) (w : World) (ha : Rd w va xs) (la : M.Low B64 xs) (hm : s.size ≤ 500) (hx : xs.length ≤ 60) :
    Calls Try.prog 3 #[.string s, va] w fun e w' => e = .returned (.bool true) ∧ Below w.heap.size w w' := by
  obtain ⟨a, ca, rfl, -, -⟩ := id ha
  have p1 := natOf_lt64 s 63 (by omega)
  have p2 := natOf_lt32 s 125 (by omega)
  have p3 : M.val B64 xs < D32 ^ 120 := by rw [← spl_val]; exact M.val_lt_pow D32_pos (spl_low la) (by rw [spl_length]; omega)
  have n1 := M.digs_len_of_lt B64_two p1
  have n2 := M.digs_len_of_lt D32_two p2
  have n3 := M.digs_len_of_lt D32_two p3
  clear p1 p2 p3
  by_cases hno : 0 < s.size ∧ lm (byts s) 0 = 0
  · obtain ⟨hs, h0⟩ := hno
    go_enter Try.func3, Try.ntmps3
    go_wp2_with fail
    refine (of_arg s _ (by omega) hs h0).mono ?_
    rintro e w1 ⟨rfl, hw⟩
    have hw := hw.symm
    subst hw
    go_wp2_with fail
    refine (isNat_no s _ hs h0).mono ?_
    rintro e w1 ⟨rfl, hw⟩
    have hw := hw.symm
    subst hw
    go_wp2_with fail
    refine (live_any _).mono ?_
    rintro e w1 ⟨rfl, bN⟩
    replace ha := ha.below bN
    have bb := bN
    clear bN
    go_wp2
    go_ret
    exact ⟨rfl, bb⟩
  · have h0 : 0 < s.size → lm (byts s) 0 ≠ 0 := fun hs he => hno ⟨hs, he⟩
    have H0 := shut h0
    clear hno h0
    go_enter Try.func3, Try.ntmps3
    go_wp2_with fail
    refine (of_any s _ (by omega) H0.out).mono ?_
    rintro e w1 ⟨v1, rfl, r1, bN⟩
    replace ha := ha.below bN
    have bb := bN
    clear bN
    go_wp2_with fail
    refine (isNat_yes s _ H0.out).mono ?_
    rintro e w9 ⟨rfl, hw⟩
    have hw := hw.symm
    subst hw
    go_wp2_with fail
    refine (nat_any _ xs _ ha la (by omega)).mono ?_
    rintro e w2 ⟨rfl, bN⟩
    replace ha := ha.below bN
    replace r1 := r1.below bN
    replace bb := Below.after bb bN
    clear bN
    go_wp2_with fail
    refine (digits_any s _ (by omega)).mono ?_
    rintro e w3 ⟨v2, rfl, r2, bN⟩
    replace ha := ha.below bN
    replace r1 := r1.below bN
    replace bb := Below.after bb bN
    clear bN
    go_wp2_with fail
    refine (join_any _ _ _ r2 (M.Low.digs D32_two _) (by omega)).mono ?_
    rintro e w4 ⟨v3, rfl, r3, bN⟩
    simp only [M.val_digs D32_two] at r3
    replace ha := ha.below bN
    replace r1 := r1.below bN
    replace r2 := r2.below bN
    replace bb := Below.after bb bN
    clear bN
    clear r2
    go_wp2_with fail
    refine (same_true _ _ _ _ r1 r3 (by omega)).mono ?_
    rintro e w5 ⟨rfl, bN⟩
    replace ha := ha.below bN
    replace r1 := r1.below bN
    replace r3 := r3.below bN
    replace bb := Below.after bb bN
    clear bN
    clear r1 r3
    go_wp2_with fail
    refine (split_any _ xs _ ha la (by omega)).mono ?_
    rintro e w6 ⟨v4, rfl, r4, bN⟩
    replace ha := ha.below bN
    replace bb := Below.after bb bN
    clear bN
    clear ha
    go_wp2_with fail
    refine (rnat_any _ _ _ r4 (M.Low.digs D32_two _) (by omega)).mono ?_
    rintro e w7 ⟨rfl, bN⟩
    simp only [M.val_digs D32_two]
    replace r4 := r4.below bN
    replace bb := Below.after bb bN
    clear bN
    clear r4
    go_wp2_with fail
    refine (live_any _).mono ?_
    rintro e w8 ⟨rfl, bN⟩
    replace bb := Below.after bb bN
    clear bN
    go_wp2
    go_ret
    exact ⟨rfl, bb⟩

set_option maxHeartbeats 1000000 in
theorem nats_long (s : ByteArray) (a : Option Addr) (n c : Nat) (w : World) (h : 500 < s.size ∨ 60 < n) :
    Calls Try.prog 3 #[.string s, .slice a n c] w fun e w' => e = .returned (.bool true) ∧ Below w.heap.size w w' := by
  by_cases hs : 500 < s.size
  · go_enter Try.func3, Try.ntmps3
    go_wp2_with fail
    refine (live_any _).mono ?_
    rintro e w1 ⟨rfl, bb⟩
    go_wp2
    go_ret
    exact ⟨rfl, bb⟩
  · have hn : 60 < n := h.resolve_left hs
    clear h
    go_enter Try.func3, Try.ntmps3
    go_wp2_with fail
    refine (live_any _).mono ?_
    rintro e w1 ⟨rfl, bb⟩
    go_wp2
    go_ret
    exact ⟨rfl, bb⟩
end Go.Proofs.Ytiahhpkpimaidaa
