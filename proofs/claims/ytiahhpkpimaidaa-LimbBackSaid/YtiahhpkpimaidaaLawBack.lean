/-
  The walk of the law LimbBack.
-/
import Derived.Test.YtiahhpkpimaidaaDivMod
import Derived.Test.YtiahhpkpimaidaaMul
import Derived.Test.YtiahhpkpimaidaaSums
import Derived.Test.YtiahhpkpimaidaaSubs
namespace Go.Proofs.Ytiahhpkpimaidaa
open Go.RowKit

set_option maxHeartbeats 4000000 in
theorem back_walk (va vb : Value) (xs ys : List Nat) (w : World) (ha : Rd w va xs) (hb : Rd w vb ys) (la : M.Low B64 xs) (lb : M.Low B64 ys) (hx : xs.length ≤ 200) (hy : ys.length ≤ 200) :
    Calls Try.prog 7 #[va, vb] w fun e w' => e = .returned (.bool true) ∧ Below w.heap.size w w' := by
  obtain ⟨a, ca, rfl, -, -⟩ := id ha
  obtain ⟨b, cb, rfl, -, -⟩ := id hb
  have pX := M.val_lt_pow B64_pos la hx
  have pY := M.val_lt_pow B64_pos lb hy
  have n1 := M.digs_len_of_lt B64_two (M.add_lt_pow B64_two pX pY)
  have n2 := M.digs_len_of_lt B64_two pX
  have n3 := M.digs_len_of_lt B64_two (Nat.lt_of_le_of_lt (Nat.div_le_self (M.val B64 xs) (M.val B64 ys)) pX)
  have n4 := M.digs_len_of_lt B64_two (Nat.lt_of_le_of_lt (Nat.div_mul_le_self (M.val B64 xs) (M.val B64 ys)) pX)
  have n5 := M.digs_len_of_lt B64_two (Nat.lt_of_le_of_lt (Nat.mod_le (M.val B64 xs) (M.val B64 ys)) pX)
  clear pX pY
  have d1 : decide (200 < (ys.length : Int)) = false := by simp; omega
  have d3 : decide (200 < (xs.length : Int)) = false := by simp; omega
  go_enter Try.func7, Try.ntmps7
  go_wp2_with fail
  refine (add_any _ _ xs ys _ ha hb la lb (by omega) (by omega)).mono ?_
  rintro e w1 ⟨v1, rfl, r1, bN⟩
  replace ha := ha.below bN
  replace hb := hb.below bN
  have bb := bN
  clear bN
  go_wp2_with fail
  refine (sub_any _ _ (M.digs B64 (M.val B64 xs + M.val B64 ys)) ys _ r1 hb (M.Low.digs B64_two _) lb (by omega) (by omega)).mono ?_
  rintro e w2 ⟨h1, -, bN⟩
  rw [M.val_digs B64_two] at h1
  obtain ⟨v2, rfl, r2⟩ := h1 (Nat.le_add_left _ _)
  rw [Nat.add_sub_cancel] at r2
  replace ha := ha.below bN
  replace hb := hb.below bN
  replace r1 := r1.below bN
  replace bb := Below.after bb bN
  clear bN
  go_wp2_with fail
  refine (cmp_any _ _ (M.digs B64 (M.val B64 xs)) xs _ r2 ha (M.Low.digs B64_two _) la (by omega) (by omega)).mono ?_
  rintro e w3 ⟨rfl, bN⟩
  rw [M.val_digs B64_two, cmpN_eq rfl]
  replace ha := ha.below bN
  replace hb := hb.below bN
  replace r1 := r1.below bN
  replace r2 := r2.below bN
  replace bb := Below.after bb bN
  clear bN
  clear r1 r2
  go_wp2_with fail
  refine (divmod_any _ _ xs ys _ ha hb la lb (by omega) (by omega)).mono ?_
  rintro e w4 ⟨hz, hp, bN⟩
  replace ha := ha.below bN
  replace hb := hb.below bN
  replace bb := Below.after bb bN
  clear bN
  by_cases hY : M.val B64 ys = 0
  · have he := hz hY
    subst he
    clear hz hp
    go_wp2_with fail
    refine (cmp_any _ _ ys [] _ hb ⟨none, 0, rfl, by simp, fun j hj => by simp at hj⟩ lb (M.Low.nil _) (by omega) (by simp)).mono ?_
    rintro e w5 ⟨rfl, bN⟩
    rw [hY, M.val_nil, cmpN_eq rfl]
    replace ha := ha.below bN
    replace hb := hb.below bN
    replace bb := Below.after bb bN
    clear bN
    go_wp2_with fail
    refine (live_any _).mono ?_
    rintro e w6 ⟨rfl, bN⟩
    replace ha := ha.below bN
    replace hb := hb.below bN
    replace bb := Below.after bb bN
    clear bN
    go_wp2
    go_ret
    exact ⟨rfl, bb⟩
  · have hY : 0 < M.val B64 ys := Nat.pos_of_ne_zero hY
    obtain ⟨q, r, rfl, rq, rr⟩ := hp hY
    clear hz hp
    go_wp2_with fail
    refine (mul_any _ _ (M.digs B64 (M.val B64 xs / M.val B64 ys)) ys _ rq hb (M.Low.digs B64_two _) lb (by omega) (by omega)).mono ?_
    rintro e w5 ⟨v3, rfl, r3, bN⟩
    rw [M.val_digs B64_two] at r3
    replace ha := ha.below bN
    replace hb := hb.below bN
    replace rq := rq.below bN
    replace rr := rr.below bN
    replace bb := Below.after bb bN
    clear bN
    go_wp2_with fail
    refine (add_any _ _ (M.digs B64 (M.val B64 xs / M.val B64 ys * M.val B64 ys)) (M.digs B64 (M.val B64 xs % M.val B64 ys)) _ r3 rr (M.Low.digs B64_two _) (M.Low.digs B64_two _) (by omega) (by omega)).mono ?_
    rintro e w6 ⟨v4, rfl, r4, bN⟩
    rw [M.val_digs B64_two, M.val_digs B64_two, Nat.mul_comm, Nat.div_add_mod] at r4
    replace ha := ha.below bN
    replace hb := hb.below bN
    replace rq := rq.below bN
    replace rr := rr.below bN
    replace r3 := r3.below bN
    replace bb := Below.after bb bN
    clear bN
    go_wp2_with fail
    refine (cmp_any _ _ (M.digs B64 (M.val B64 xs)) xs _ r4 ha (M.Low.digs B64_two _) la (by omega) (by omega)).mono ?_
    rintro e w7 ⟨rfl, bN⟩
    rw [M.val_digs B64_two, cmpN_eq rfl]
    replace ha := ha.below bN
    replace hb := hb.below bN
    replace rq := rq.below bN
    replace rr := rr.below bN
    replace r3 := r3.below bN
    replace r4 := r4.below bN
    replace bb := Below.after bb bN
    clear bN
    go_wp2_with fail
    refine (cmp_any _ _ (M.digs B64 (M.val B64 xs % M.val B64 ys)) ys _ rr hb (M.Low.digs B64_two _) lb (by omega) (by omega)).mono ?_
    rintro e w8 ⟨rfl, bN⟩
    rw [M.val_digs B64_two, cmpN_lt (Nat.mod_lt _ hY)]
    replace ha := ha.below bN
    replace hb := hb.below bN
    replace rq := rq.below bN
    replace rr := rr.below bN
    replace r3 := r3.below bN
    replace r4 := r4.below bN
    replace bb := Below.after bb bN
    clear bN
    go_wp2_with fail
    refine (live_any _).mono ?_
    rintro e w9 ⟨rfl, bN⟩
    replace ha := ha.below bN
    replace hb := hb.below bN
    replace rq := rq.below bN
    replace rr := rr.below bN
    replace r3 := r3.below bN
    replace r4 := r4.below bN
    replace bb := Below.after bb bN
    clear bN
    go_wp2
    go_ret
    exact ⟨rfl, bb⟩

set_option maxHeartbeats 1000000 in
theorem back_long (a b : Option Addr) (m n ca cb : Nat) (w : World) (h : ¬ (m ≤ 200 ∧ n ≤ 200)) :
    Calls Try.prog 7 #[.slice a m ca, .slice b n cb] w fun e w' => e = .returned (.bool true) ∧ Below w.heap.size w w' := by
  have key : (200 < m) ∨ (m ≤ 200 ∧ 200 < n) := by omega
  clear h
  rcases key with h1 | ⟨h1, h2⟩
  · have d1 : decide (200 < (m : Int)) = true := by simp; omega
    go_enter Try.func7, Try.ntmps7
    go_wp2_with fail
    refine (live_any _).mono ?_
    rintro e w2 ⟨rfl, b2⟩
    go_wp2
    go_ret
    exact ⟨rfl, b2⟩
  · have d1 : decide (200 < (m : Int)) = false := by simp; omega
    have d2 : decide (200 < (n : Int)) = true := by simp; omega
    go_enter Try.func7, Try.ntmps7
    go_wp2_with fail
    refine (live_any _).mono ?_
    rintro e w2 ⟨rfl, b2⟩
    go_wp2
    go_ret
    exact ⟨rfl, b2⟩
end Go.Proofs.Ytiahhpkpimaidaa
