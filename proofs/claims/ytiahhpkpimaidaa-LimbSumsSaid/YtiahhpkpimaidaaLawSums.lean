/-
  The walk of the law LimbSums.
-/
import Derived.Test.YtiahhpkpimaidaaCopied
import Derived.Test.YtiahhpkpimaidaaLive
import Derived.Test.YtiahhpkpimaidaaRadd
import Derived.Test.YtiahhpkpimaidaaRsub
namespace Go.Proofs.Ytiahhpkpimaidaa
open Go.RowKit

theorem digs_len {b : Nat} (hb : 2 ≤ b) {xs : List Nat} (h : M.Low b xs) : (M.digs b (M.val b xs)).length ≤ xs.length := M.digs_length_le hb h

theorem hide {p : Prop} (h : p) : Hid p := h
theorem cmpN_ge {m n : Nat} (h : ¬ m < n) : 0 ≤ cmpN m n := by unfold cmpN; rw [if_neg h]; split <;> omega

set_option maxHeartbeats 4000000 in
theorem sums_walk (va vb : Value) (xs ys : List Nat) (w : World) (ha : Rd w va xs) (hb : Rd w vb ys) (la : M.Low B64 xs) (lb : M.Low B64 ys) (hx : xs.length ≤ 60) (hy : ys.length ≤ 60) :
    Calls Try.prog 4 #[va, vb] w fun e w' => e = .returned (.bool true) ∧ Below w.heap.size w w' := by
  obtain ⟨a, ca, rfl, -, -⟩ := id ha
  obtain ⟨b, cb, rfl, -, -⟩ := id hb
  go_enter Try.func4, Try.ntmps4
  go_wp2_with fail
  refine (small_yes _ _ _ _ _ _ _ hx hy).mono ?_
  rintro e w1 ⟨rfl, hw⟩
  have hw := hw.symm
  subst hw
  go_wp2_with fail
  refine (copied_any _ xs _ ha (by omega)).mono ?_
  rintro e w1 ⟨v1, rfl, r1, b1⟩
  obtain ⟨a1, c1, rfl, -, -⟩ := id r1
  go_wp2_with fail
  refine (copied_any _ ys _ (hb.below b1) (by omega)).mono ?_
  rintro e w2 ⟨v2, rfl, r2, b2⟩
  obtain ⟨a2, c2, rfl, -, -⟩ := id r2
  replace r1 := r1.below b2
  replace b1 := Below.after b1 b2
  clear b2
  go_wp2_with fail
  refine (split_any _ xs _ (ha.below b1) la (by omega)).mono ?_
  rintro e w3 ⟨v3, rfl, r3, b2⟩
  replace r1 := r1.below b2
  replace r2 := r2.below b2
  replace b1 := Below.after b1 b2
  clear b2
  go_wp2_with fail
  refine (split_any _ ys _ (hb.below b1) lb (by omega)).mono ?_
  rintro e w4 ⟨v4, rfl, r4, b2⟩
  replace r1 := r1.below b2
  replace r2 := r2.below b2
  replace r3 := r3.below b2
  replace b1 := Below.after b1 b2
  clear b2
  go_wp2_with fail
  refine (cmp_any _ _ xs ys _ r1 r2 la lb (by omega) (by omega)).mono ?_
  rintro e w5 ⟨rfl, b2⟩
  replace r1 := r1.below b2
  replace r2 := r2.below b2
  replace r3 := r3.below b2
  replace r4 := r4.below b2
  replace b1 := Below.after b1 b2
  clear b2
  go_wp2_with fail
  refine (add_any _ _ xs ys _ r1 r2 la lb (by omega) (by omega)).mono ?_
  rintro e w6 ⟨v6, rfl, r6, b2⟩
  replace r1 := r1.below b2
  replace r2 := r2.below b2
  replace r3 := r3.below b2
  replace r4 := r4.below b2
  replace b1 := Below.after b1 b2
  clear b2
  go_wp2_with fail
  refine (sub_any _ _ xs ys _ r1 r2 la lb (by omega) (by omega)).mono ?_
  rintro e w7 ⟨hge, hlt, b2⟩
  replace r1 := r1.below b2
  replace r2 := r2.below b2
  replace r3 := r3.below b2
  replace r4 := r4.below b2
  replace r6 := r6.below b2
  replace b1 := Below.after b1 b2
  clear b2
  -- the digits
  have hXd : M.val B64 xs < D32 ^ 120 := by rw [← spl_val]; exact M.val_lt_pow D32_pos (spl_low la) (by rw [spl_length]; omega)
  have hYd : M.val B64 ys < D32 ^ 120 := by rw [← spl_val]; exact M.val_lt_pow D32_pos (spl_low lb) (by rw [spl_length]; omega)
  have hXb : M.val B64 xs < B64 ^ 60 := M.val_lt_pow B64_pos la hx
  have hYb : M.val B64 ys < B64 ^ 60 := M.val_lt_pow B64_pos lb hy
  generalize M.val B64 xs = X at *
  generalize M.val B64 ys = Y at *
  have lx := M.digs_len_of_lt D32_two hXd
  have ly := M.digs_len_of_lt D32_two hYd
  have ls := M.digs_len_of_lt D32_two (M.add_lt_pow D32_two hXd hYd)
  have lb' := M.digs_len_of_lt B64_two (M.add_lt_pow B64_two hXb hYb)
  have wx := M.Low.digs D32_two X
  have wy := M.Low.digs D32_two Y
  have ex := M.val_digs D32_two X
  have ey := M.val_digs D32_two Y
  have tx := M.trim_digs D32_two X
  have ty := M.trim_digs D32_two Y
  have hc23 : ∀ W : World, Rd W v3 (M.digs D32 X) → Rd W v4 (M.digs D32 Y) → Calls Try.prog 23 #[v3, v4] W fun e w' => e = .returned (.int .i64 (cmpN X Y)) ∧ Below W.heap.size W w' := fun W h3 h4 => by
    have := rcmp_any D32 D32_pos v3 v4 _ _ W h3 h4 wx wy tx ty (by omega)
    rwa [ex, ey] at this
  have hc24 : ∀ W : World, Rd W v3 (M.digs D32 X) → Rd W v4 (M.digs D32 Y) → Calls Try.prog 24 #[v3, v4] W fun e w' => ∃ v, e = .returned v ∧ Rd w' v (M.digs D32 (X + Y)) ∧ Below W.heap.size W w' := fun W h3 h4 => by
    have := radd_any v3 v4 _ _ W h3 h4 wx wy (by omega) (by omega)
    rwa [ex, ey] at this
  have hc14 : ∀ (n k : Nat) (v : Value) (W : World), Rd W v (M.digs D32 n) → (M.digs D32 n).length ≤ k → k ≤ 100000 → Calls Try.prog 14 #[v] W fun e w' => ∃ v', e = .returned v' ∧ Rd w' v' (M.digs B64 n) ∧ Below W.heap.size W w' := fun n k v W h hk hk' => by
    have := join_any v _ W h (M.Low.digs D32_two n) (by omega)
    rwa [M.val_digs D32_two] at this
  have hc25 : Y ≤ X → ∀ W : World, Rd W v3 (M.digs D32 X) → Rd W v4 (M.digs D32 Y) → Calls Try.prog 25 #[v3, v4] W fun e w' => ∃ v, e = .returned v ∧ Rd w' v (M.digs D32 (X - Y)) ∧ Below W.heap.size W w' := fun hle W h3 h4 => by
    have hyl : (M.digs D32 Y).length ≤ (M.digs D32 X).length := by
      by_cases h : (M.digs D32 Y).length ≤ (M.digs D32 X).length
      · exact h
      · have := M.lt_of_length D32_pos wx ty (by omega)
        omega
    have := rsub_any v3 v4 _ _ W h3 h4 wx wy (by omega) hyl (by omega)
    rwa [ex, ey] at this
  have H23 := hide hc23
  have H24 := hide hc24
  have H14 := hide hc14
  have H25 := hide hc25
  clear hc23 hc24 hc14 hc25 ex ey tx ty wx wy
  by_cases hXY : X < Y
  · have hcm : cmpN X Y = -1 := cmpN_lt hXY
    have he := hlt hXY
    subst he
    clear hge hlt
    go_wp2_with fail
    refine (H23.out _ r3 r4).mono ?_
    rintro e w8 ⟨rfl, b2⟩
    replace r1 := r1.below b2
    replace r2 := r2.below b2
    replace r3 := r3.below b2
    replace r4 := r4.below b2
    replace r6 := r6.below b2
    replace b1 := Below.after b1 b2
    clear b2
    go_wp2_with fail
    refine (H24.out _ r3 r4).mono ?_
    rintro e w9 ⟨v9, rfl, r9, b2⟩
    replace r1 := r1.below b2
    replace r2 := r2.below b2
    replace r3 := r3.below b2
    replace r4 := r4.below b2
    replace r6 := r6.below b2
    replace b1 := Below.after b1 b2
    clear b2
    go_wp2_with fail
    refine (H14.out (X + Y) 121 _ _ r9 ls (by omega)).mono ?_
    rintro e w10 ⟨v10, rfl, r10, b2⟩
    replace r1 := r1.below b2
    replace r2 := r2.below b2
    replace r3 := r3.below b2
    replace r4 := r4.below b2
    replace r6 := r6.below b2
    replace b1 := Below.after b1 b2
    clear b2
    go_wp2_with fail
    refine (same_true _ _ _ _ r6 r10 (by omega)).mono ?_
    rintro e w11 ⟨rfl, b2⟩
    replace r1 := r1.below b2
    replace r2 := r2.below b2
    replace r3 := r3.below b2
    replace r4 := r4.below b2
    replace b1 := Below.after b1 b2
    clear b2
    clear r6 r9 r10
    go_wp2_with fail
    refine (same_true _ _ _ _ r1 (ha.below b1) (by omega)).mono ?_
    rintro e w12 ⟨rfl, b2⟩
    replace r1 := r1.below b2
    replace r2 := r2.below b2
    replace r3 := r3.below b2
    replace r4 := r4.below b2
    replace b1 := Below.after b1 b2
    clear b2
    go_wp2_with fail
    refine (same_true _ _ _ _ r2 (hb.below b1) (by omega)).mono ?_
    rintro e w13 ⟨rfl, b2⟩
    replace r3 := r3.below b2
    replace r4 := r4.below b2
    replace b1 := Below.after b1 b2
    clear b2
    clear r1 r2
    go_wp2_with fail
    refine (H23.out _ r3 r4).mono ?_
    rintro e w14 ⟨rfl, b2⟩
    replace r3 := r3.below b2
    replace r4 := r4.below b2
    replace b1 := Below.after b1 b2
    clear b2
    go_wp2_with fail
    refine (live_any _).mono ?_
    rintro e w15 ⟨rfl, b2⟩
    go_wp2
    go_ret
    exact ⟨rfl, Below.after b1 b2⟩
  · have hcm : 0 ≤ cmpN X Y := cmpN_ge hXY
    obtain ⟨v7, he, r7⟩ := hge (by omega)
    subst he
    have ld := M.digs_len_of_lt D32_two (show X - Y < D32 ^ 120 by omega)
    have le := M.digs_len_of_lt B64_two (show X - Y < B64 ^ 60 by omega)
    clear hge hlt
    go_wp2_with fail
    refine (H23.out _ r3 r4).mono ?_
    rintro e w8 ⟨rfl, b2⟩
    replace r1 := r1.below b2
    replace r2 := r2.below b2
    replace r3 := r3.below b2
    replace r4 := r4.below b2
    replace r6 := r6.below b2
    replace r7 := r7.below b2
    replace b1 := Below.after b1 b2
    clear b2
    go_wp2_with fail
    refine (H24.out _ r3 r4).mono ?_
    rintro e w9 ⟨v9, rfl, r9, b2⟩
    replace r1 := r1.below b2
    replace r2 := r2.below b2
    replace r3 := r3.below b2
    replace r4 := r4.below b2
    replace r6 := r6.below b2
    replace r7 := r7.below b2
    replace b1 := Below.after b1 b2
    clear b2
    go_wp2_with fail
    refine (H14.out (X + Y) 121 _ _ r9 ls (by omega)).mono ?_
    rintro e w10 ⟨v10, rfl, r10, b2⟩
    replace r1 := r1.below b2
    replace r2 := r2.below b2
    replace r3 := r3.below b2
    replace r4 := r4.below b2
    replace r6 := r6.below b2
    replace r7 := r7.below b2
    replace b1 := Below.after b1 b2
    clear b2
    go_wp2_with fail
    refine (same_true _ _ _ _ r6 r10 (by omega)).mono ?_
    rintro e w11 ⟨rfl, b2⟩
    replace r1 := r1.below b2
    replace r2 := r2.below b2
    replace r3 := r3.below b2
    replace r4 := r4.below b2
    replace r7 := r7.below b2
    replace b1 := Below.after b1 b2
    clear b2
    clear r6 r9 r10
    go_wp2_with fail
    refine (same_true _ _ _ _ r1 (ha.below b1) (by omega)).mono ?_
    rintro e w12 ⟨rfl, b2⟩
    replace r1 := r1.below b2
    replace r2 := r2.below b2
    replace r3 := r3.below b2
    replace r4 := r4.below b2
    replace r7 := r7.below b2
    replace b1 := Below.after b1 b2
    clear b2
    go_wp2_with fail
    refine (same_true _ _ _ _ r2 (hb.below b1) (by omega)).mono ?_
    rintro e w13 ⟨rfl, b2⟩
    replace r3 := r3.below b2
    replace r4 := r4.below b2
    replace r7 := r7.below b2
    replace b1 := Below.after b1 b2
    clear b2
    clear r1 r2
    go_wp2_with fail
    refine (H23.out _ r3 r4).mono ?_
    rintro e w14 ⟨rfl, b2⟩
    replace r3 := r3.below b2
    replace r4 := r4.below b2
    replace r7 := r7.below b2
    replace b1 := Below.after b1 b2
    clear b2
    go_wp2_with fail
    refine (H25.out (by omega) _ r3 r4).mono ?_
    rintro e w15 ⟨v15, rfl, r15, b2⟩
    replace r7 := r7.below b2
    replace b1 := Below.after b1 b2
    clear b2
    go_wp2_with fail
    refine (H14.out (X - Y) 120 _ _ r15 ld (by omega)).mono ?_
    rintro e w16 ⟨v16, rfl, r16, b2⟩
    replace r7 := r7.below b2
    replace b1 := Below.after b1 b2
    clear b2
    go_wp2_with fail
    refine (same_true _ _ _ _ r7 r16 (by omega)).mono ?_
    rintro e w17 ⟨rfl, b2⟩
    replace b1 := Below.after b1 b2
    clear b2
    go_wp2_with fail
    refine (live_any _).mono ?_
    rintro e w18 ⟨rfl, b2⟩
    go_wp2
    go_ret
    exact ⟨rfl, Below.after b1 b2⟩

set_option maxHeartbeats 1000000 in
/-- Rows that are too long for this law. -/
theorem sums_long (a b : Option Addr) (m n c d : Nat) (w : World) (h : ¬ (m ≤ 60 ∧ n ≤ 60)) :
    Calls Try.prog 4 #[.slice a m c, .slice b n d] w fun e w' => e = .returned (.bool true) ∧ Below w.heap.size w w' := by
  have H := hide (small_no a b m n c d w h)
  clear h
  go_enter Try.func4, Try.ntmps4
  go_wp2_with fail
  refine H.out.mono ?_
  rintro e w1 ⟨rfl, hw⟩
  have hw := hw.symm
  subst hw
  go_wp2_with fail
  refine (live_any _).mono ?_
  rintro e w2 ⟨rfl, b2⟩
  go_wp2
  go_ret
  exact ⟨rfl, b2⟩
end Go.Proofs.Ytiahhpkpimaidaa
