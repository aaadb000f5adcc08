/-
  The walk of the law LimbQuotients.
-/
import Derived.Test.YtiahhpkpimaidaaDivMod
import Derived.Test.YtiahhpkpimaidaaRdiv
import Derived.Test.YtiahhpkpimaidaaJoin
namespace Go.Proofs.Ytiahhpkpimaidaa
open Go.RowKit

set_option maxHeartbeats 4000000 in
theorem quot_walk (va vb : Value) (xs ys : List Nat) (w : World) (ha : Rd w va xs) (hb : Rd w vb ys) (la : M.Low B64 xs) (lb : M.Low B64 ys) (hx : xs.length ≤ 60) (hy : ys.length ≤ 60) :
    Calls Try.prog 6 #[va, vb] w fun e w' => e = .returned (.bool true) ∧ Below w.heap.size w w' := by
  obtain ⟨a, ca, rfl, -, -⟩ := id ha
  obtain ⟨b, cb, rfl, -, -⟩ := id hb
  have pX := M.val_lt_pow B64_pos la hx
  have pXd : M.val B64 xs < D32 ^ 120 := by rw [← spl_val]; exact M.val_lt_pow D32_pos (spl_low la) (by rw [spl_length]; omega)
  have pYd : M.val B64 ys < D32 ^ 120 := by rw [← spl_val]; exact M.val_lt_pow D32_pos (spl_low lb) (by rw [spl_length]; omega)
  have n1 := M.digs_len_of_lt B64_two (Nat.lt_of_le_of_lt (Nat.div_le_self (M.val B64 xs) (M.val B64 ys)) pX)
  have n2 := M.digs_len_of_lt B64_two (Nat.lt_of_le_of_lt (Nat.mod_le (M.val B64 xs) (M.val B64 ys)) pX)
  have n3 := M.digs_len_of_lt D32_two pXd
  have n4 := M.digs_len_of_lt D32_two pYd
  have n5 := M.digs_len_of_lt D32_two (Nat.lt_of_le_of_lt (Nat.div_le_self (M.val B64 xs) (M.val B64 ys)) pXd)
  have n6 := M.digs_len_of_lt D32_two (Nat.lt_of_le_of_lt (Nat.mod_le (M.val B64 xs) (M.val B64 ys)) pXd)
  have LP : Hid (0 < M.val B64 ys → 0 < (M.digs D32 (M.val B64 ys)).length) := fun h => by
    refine Nat.pos_of_ne_zero fun h0 => ?_
    have := M.val_digs D32_two (M.val B64 ys)
    rw [List.length_eq_zero_iff.1 h0, M.val_nil] at this
    omega
  clear pX pXd pYd
  go_enter Try.func6, Try.ntmps6
  go_wp2_with fail
  refine (small_yes _ _ _ _ _ _ _ hx hy).mono ?_
  rintro e w0 ⟨rfl, hw⟩
  have hw := hw.symm
  subst hw
  go_wp2_with fail
  refine (copied_any _ xs _ ha (by omega)).mono ?_
  rintro e w1 ⟨v1, rfl, ho, bN⟩
  replace ha := ha.below bN
  replace hb := hb.below bN
  have bb := bN
  clear bN
  go_wp2_with fail
  refine (copied_any _ ys _ hb (by omega)).mono ?_
  rintro e w2 ⟨v2, rfl, ht, bN⟩
  replace ha := ha.below bN
  replace hb := hb.below bN
  replace ho := ho.below bN
  replace bb := Below.after bb bN
  clear bN
  go_wp2_with fail
  refine (divmod_any _ _ xs ys _ ho ht la lb (by omega) (by omega)).mono ?_
  rintro e w3 ⟨hz, hp, bN⟩
  replace ha := ha.below bN
  replace hb := hb.below bN
  replace ho := ho.below bN
  replace ht := ht.below bN
  replace bb := Below.after bb bN
  clear bN
  by_cases hY : M.val B64 ys = 0
  · have he := hz hY
    subst he
    clear hz hp
    go_wp2_with fail
    refine (same_true _ _ xs _ ho ha (by omega)).mono ?_
    rintro e w4 ⟨rfl, bN⟩
    replace ha := ha.below bN
    replace hb := hb.below bN
    replace ho := ho.below bN
    replace ht := ht.below bN
    replace bb := Below.after bb bN
    clear bN
    go_wp2_with fail
    refine (same_true _ _ ys _ ht hb (by omega)).mono ?_
    rintro e w5 ⟨rfl, bN⟩
    replace ha := ha.below bN
    replace hb := hb.below bN
    replace ho := ho.below bN
    replace ht := ht.below bN
    replace bb := Below.after bb bN
    clear bN
    clear ho ht
    go_wp2_with fail
    refine (split_any _ xs _ ha la (by omega)).mono ?_
    rintro e w6 ⟨v5, rfl, r5, bN⟩
    replace ha := ha.below bN
    replace hb := hb.below bN
    replace bb := Below.after bb bN
    clear bN
    go_wp2_with fail
    refine (split_any _ ys _ hb lb (by omega)).mono ?_
    rintro e w7 ⟨v6, rfl, r6, bN⟩
    replace ha := ha.below bN
    replace hb := hb.below bN
    replace r5 := r5.below bN
    replace bb := Below.after bb bN
    clear bN
    rw [hY, M.digs_zero] at r6
    obtain ⟨a6, c6, rfl, -, -⟩ := id r6
    go_wp2_with fail
    refine (live_any _).mono ?_
    rintro e w8 ⟨rfl, bN⟩
    replace ha := ha.below bN
    replace hb := hb.below bN
    replace r5 := r5.below bN
    replace r6 := r6.below bN
    replace bb := Below.after bb bN
    clear bN
    go_wp2
    go_ret
    exact ⟨rfl, bb⟩
  · have hY : 0 < M.val B64 ys := Nat.pos_of_ne_zero hY
    have hlen := LP.out hY
    have hlen' : ¬ (M.digs D32 (M.val B64 ys)).length = 0 := by omega
    obtain ⟨q, r, rfl, rq, rr⟩ := hp hY
    clear hz hp
    go_wp2_with fail
    refine (same_true _ _ xs _ ho ha (by omega)).mono ?_
    rintro e w4 ⟨rfl, bN⟩
    replace ha := ha.below bN
    replace hb := hb.below bN
    replace ho := ho.below bN
    replace ht := ht.below bN
    replace rq := rq.below bN
    replace rr := rr.below bN
    replace bb := Below.after bb bN
    clear bN
    go_wp2_with fail
    refine (same_true _ _ ys _ ht hb (by omega)).mono ?_
    rintro e w5 ⟨rfl, bN⟩
    replace ha := ha.below bN
    replace hb := hb.below bN
    replace ho := ho.below bN
    replace ht := ht.below bN
    replace rq := rq.below bN
    replace rr := rr.below bN
    replace bb := Below.after bb bN
    clear bN
    clear ho ht
    go_wp2_with fail
    refine (split_any _ xs _ ha la (by omega)).mono ?_
    rintro e w6 ⟨v5, rfl, r5, bN⟩
    replace ha := ha.below bN
    replace hb := hb.below bN
    replace rq := rq.below bN
    replace rr := rr.below bN
    replace bb := Below.after bb bN
    clear bN
    go_wp2_with fail
    refine (split_any _ ys _ hb lb (by omega)).mono ?_
    rintro e w7 ⟨v6, rfl, r6, bN⟩
    replace ha := ha.below bN
    replace hb := hb.below bN
    replace rq := rq.below bN
    replace rr := rr.below bN
    replace r5 := r5.below bN
    replace bb := Below.after bb bN
    clear bN
    obtain ⟨a6, c6, rfl, -, -⟩ := id r6
    go_wp2_with fail
    refine (rdiv_any _ _ _ _ _ r5 r6 (M.Low.digs D32_two _) (M.Low.digs D32_two _) (M.trim_digs D32_two _) hlen (by omega) (by omega)).mono ?_
    rintro e w8 ⟨v7, v8, rfl, r7, r8, bN⟩
    simp only [M.val_digs D32_two] at r7 r8
    replace ha := ha.below bN
    replace hb := hb.below bN
    replace rq := rq.below bN
    replace rr := rr.below bN
    replace r5 := r5.below bN
    replace r6 := r6.below bN
    replace bb := Below.after bb bN
    clear bN
    clear ha hb r5 r6
    go_wp2_with fail
    refine (join_any _ _ _ r7 (M.Low.digs D32_two _) (by omega)).mono ?_
    rintro e w9 ⟨v9, rfl, r9, bN⟩
    simp only [M.val_digs D32_two] at r9
    replace rq := rq.below bN
    replace rr := rr.below bN
    replace r7 := r7.below bN
    replace r8 := r8.below bN
    replace bb := Below.after bb bN
    clear bN
    clear r7
    go_wp2_with fail
    refine (same_true _ _ _ _ rq r9 (by omega)).mono ?_
    rintro e w10 ⟨rfl, bN⟩
    replace rq := rq.below bN
    replace rr := rr.below bN
    replace r8 := r8.below bN
    replace r9 := r9.below bN
    replace bb := Below.after bb bN
    clear bN
    clear rq r9
    go_wp2_with fail
    refine (join_any _ _ _ r8 (M.Low.digs D32_two _) (by omega)).mono ?_
    rintro e w11 ⟨v10, rfl, r10, bN⟩
    simp only [M.val_digs D32_two] at r10
    replace rr := rr.below bN
    replace r8 := r8.below bN
    replace bb := Below.after bb bN
    clear bN
    clear r8
    go_wp2_with fail
    refine (same_true _ _ _ _ rr r10 (by omega)).mono ?_
    rintro e w12 ⟨rfl, bN⟩
    replace rr := rr.below bN
    replace r10 := r10.below bN
    replace bb := Below.after bb bN
    clear bN
    clear rr r10
    go_wp2_with fail
    refine (live_any _).mono ?_
    rintro e w13 ⟨rfl, bN⟩
    replace bb := Below.after bb bN
    clear bN
    go_wp2
    go_ret
    exact ⟨rfl, bb⟩

set_option maxHeartbeats 1000000 in
theorem quot_long (a b : Option Addr) (m n c d : Nat) (w : World) (h : ¬ (m ≤ 60 ∧ n ≤ 60)) :
    Calls Try.prog 6 #[.slice a m c, .slice b n d] w fun e w' => e = .returned (.bool true) ∧ Below w.heap.size w w' := by
  have H := shut (small_no a b m n c d w h)
  clear h
  go_enter Try.func6, Try.ntmps6
  go_wp2_with fail
  refine H.out.mono ?_
  rintro e w1 ⟨rfl, hw⟩
  have hw := hw.symm
  subst hw
  go_wp2_with fail
  refine (live_any _).mono ?_
  rintro e w2 ⟨rfl, b2⟩
  go_wp2
  go_ret
  exact ⟨rfl, b2⟩
end Go.Proofs.Ytiahhpkpimaidaa
