/-
  gussetref02: Check, Both, Negate; what gussetref01 tells of digits, by their values.
  gussetref02: Sum.
  gussetref02: Less, Times, Order.
  gussetref02: Times.
-/
import Derived.Test.YtimmgjlojplccaaGreatDoorG21
import Derived.Test.YtimmgjlojplccaaGreatDoorG28
import Derived.Test.YtimmgjlojplccaaGreatDoorG29
import Derived.Test.YtimmgjlojplccaaGreatDoorG30
import Derived.Test.YtimmgjlojplccaaGreatDoorG25
namespace Go.Proofs.YtimmgjlojplccaaGreatDoor
open Go.RowKit

set_option maxRecDepth 100000 in
set_option maxHeartbeats 1000000 in
theorem rcheck_any (n : Bool) (s : ByteArray) (w : World) :
    Calls Tryz.prog 17 #[.agg #[.bool n, .string s]] w fun e w' => e = .returned (.int .i64 (chk n s : Nat)) ∧ Below w.heap.size w w' := by
  by_cases h1 : 32000 < s.size
  · have HC : Hid (chk n s = 5) := by show _ = _; unfold chk; rw [if_pos h1]
    go_enter Tryz.func17, Tryz.ntmps17
    go_wp2
    go_ret
    exact ⟨by rw [HC.out]; rfl, by go_grown⟩
  · by_cases hs : 0 < s.size
    · have g4 := toList_ne hs
      have g5 : s.toList.isEmpty = false := by simpa using g4
      by_cases h0 : lm (byts s) 0 = 0
      · have HC : Hid (chk n s = 1) := by show _ = _; unfold chk; rw [if_neg h1, if_pos (Or.inr ⟨hs, h0⟩)]
        have HI := shut (fun w => isNat_no s w hs h0)
        clear h0
        go_enter Tryz.func17, Tryz.ntmps17
        go_wp2_with fail
        refine (HI.out _).mono ?_
        rintro e w1 ⟨rfl, hw⟩
        subst hw
        go_wp2
        go_ret
        exact ⟨by rw [HC.out]; rfl, by go_grown⟩
      · have HC : Hid (chk n s = 0) := by
          show _ = _
          unfold chk
          rw [if_neg h1, if_neg (by rintro (⟨a, _⟩ | ⟨_, b⟩); · omega
                                    · exact h0 b)]
        have HI := shut (fun w => isNat_yes s w (fun _ => h0))
        clear h0
        cases n <;>
        · go_enter Tryz.func17, Tryz.ntmps17
          go_wp2_with fail
          refine (HI.out _).mono ?_
          rintro e w1 ⟨rfl, hw⟩
          subst hw
          go_wp2
          go_ret
          exact ⟨by rw [HC.out]; rfl, by go_grown⟩
    · have g3 : s = ByteArray.empty := ByteArray.size_eq_zero_iff.1 (by omega)
      subst g3
      have HI := shut (fun w => isNat_yes ByteArray.empty w (fun h => absurd h hs))
      cases n with
      | true =>
        have HC : Hid (chk true ByteArray.empty = 1) := by show _ = _; rfl
        go_enter Tryz.func17, Tryz.ntmps17
        go_wp2_with fail
        refine (HI.out _).mono ?_
        rintro e w1 ⟨rfl, hw⟩
        subst hw
        go_wp2
        go_ret
        exact ⟨by rw [HC.out]; rfl, by go_grown⟩
      | false =>
        have HC : Hid (chk false ByteArray.empty = 0) := by show _ = _; rfl
        go_enter Tryz.func17, Tryz.ntmps17
        go_wp2_with fail
        refine (HI.out _).mono ?_
        rintro e w1 ⟨rfl, hw⟩
        subst hw
        go_wp2
        go_ret
        exact ⟨by rw [HC.out]; rfl, by go_grown⟩

theorem rb2 (w : World) (x0 x1 y0 y1 : Value) : ∃ w0, w0 = (w.alloc (.cells #[x0, x1] 24)).alloc (.cells #[y0, y1] 24) ∧
    Cel w0 w.heap.size [x0, x1] 24 ∧ Cel w0 (w.heap.size + 1) [y0, y1] 24 ∧ Below w.heap.size w w0 := by
  refine ⟨_, rfl, (Cel.new w [x0, x1] _).alloc _, ?_, by go_grown⟩
  have := Cel.new (w.alloc (.cells #[x0, x1] 24)) [y0, y1] 24
  simpa using this
/-- Two numbers in boxes, and a cell for the answer. -/
theorem rb3 (w : World) (x0 x1 y0 y1 : Value) : ∃ w0, w0 = ((w.alloc (.cells #[x0, x1] 24)).alloc (.cells #[y0, y1] 24)).alloc (.cells #[.bool false, .string { data := #[] }] 24) ∧
    Cel w0 w.heap.size [x0, x1] 24 ∧ Cel w0 (w.heap.size + 1) [y0, y1] 24 ∧ Cel w0 (w.heap.size + 1 + 1) [.bool false, .string { data := #[] }] 24 ∧ Below w.heap.size w w0 := by
  refine ⟨_, rfl, ((Cel.new w [x0, x1] _).alloc _).alloc _, ?_, ?_, by go_grown⟩
  · have := (Cel.new (w.alloc (.cells #[x0, x1] 24)) [y0, y1] 24).alloc (.cells #[.bool false, .string { data := #[] }] 24)
    simpa using this
  · have := Cel.new ((w.alloc (.cells #[x0, x1] 24)).alloc (.cells #[y0, y1] 24)) [.bool false, .string { data := #[] }] 24
    simpa using this

set_option maxRecDepth 100000 in
set_option maxHeartbeats 1000000 in
theorem rboth_any (n0 n1 : Bool) (s0 s1 : ByteArray) (w : World) :
    Calls Tryz.prog 8 #[.agg #[.bool n0, .string s0], .agg #[.bool n1, .string s1]] w fun e w' => e = .returned (.int .i64 (two n0 s0 n1 s1 : Nat)) ∧ Below w.heap.size w w' := by
  by_cases h : chk n0 s0 = 0
  · have HC : Hid (two n0 s0 n1 s1 = chk n1 s1) := by show _ = _; unfold two; rw [if_pos h]
    have Z := shut h
    clear h
    go_enter Tryz.func8, Tryz.ntmps8
    go_wp2_with fail
    obtain ⟨w0, hw0, k0, k1, hb0⟩ := rb2 w (.bool n0) (.string s0) (.bool n1) (.string s1)
    rw [← hw0]
    clear hw0
    refine (rcheck_any n0 s0 w0).mono ?_
    rintro e w1 ⟨rfl, b1⟩
    rw [Z.out]
    have c0 := cel2_0' (k1.below b1)
    have c1 := cel2_1' (k1.below b1)
    go_wp2_with fail
    refine (rcheck_any n1 s1 w1).mono ?_
    rintro e w2 ⟨rfl, b2⟩
    have bb := Below.after (Below.after hb0 b1) b2
    go_wp2
    go_ret
    exact ⟨by rw [HC.out]; rfl, bb⟩
  · have HC : Hid (two n0 s0 n1 s1 = chk n0 s0) := by show _ = _; unfold two; rw [if_neg h]
    have HK := shut (rcheck_any n0 s0)
    generalize chk n0 s0 = c at *
    have h' : ¬ (c : Int) = 0 := by omega
    go_enter Tryz.func8, Tryz.ntmps8
    go_wp2_with fail
    obtain ⟨w0, hw0, k0, k1, hb0⟩ := rb2 w (.bool n0) (.string s0) (.bool n1) (.string s1)
    rw [← hw0]
    clear hw0
    refine (HK.out w0).mono ?_
    rintro e w1 ⟨rfl, b1⟩
    have bb := Below.after hb0 b1
    go_wp2
    go_ret
    exact ⟨by rw [HC.out]; rfl, bb⟩

theorem D32_pow (k : Nat) : D32 ^ k = 256 ^ (4 * k) := by rw [Nat.pow_mul]; rfl
theorem natOf_lt4 {s : ByteArray} (k : Nat) (h : s.size ≤ 4 * k) : natOf s < D32 ^ k := Nat.lt_of_lt_of_le (natOf_lt s) (by rw [D32_pow]; exact Nat.pow_le_pow_right (by omega) h)
theorem dlen {V K : Nat} (h : V < D32 ^ K) : (M.digs D32 V).length ≤ K := M.digs_len_of_lt D32_two h
theorem digs_mono {b X Y : Nat} (hb : 2 ≤ b) (h : Y ≤ X) : (M.digs b Y).length ≤ (M.digs b X).length := by
  refine M.digs_len_of_lt hb (Nat.lt_of_le_of_lt h ?_)
  have := M.val_lt (by omega) (M.Low.digs hb X)
  rwa [M.val_digs hb] at this
theorem rsub_dig {X Y K : Nat} (hK : K ≤ 50000) (hx : X < D32 ^ K) (hle : Y ≤ X) (v0 v1 : Value) (w : World) (r0 : Rd w v0 (M.digs D32 X)) (r1 : Rd w v1 (M.digs D32 Y)) :
    Calls Tryz.prog 71 #[v0, v1] w fun e w' => ∃ v, e = .returned v ∧ Rd w' v (M.digs D32 (X - Y)) ∧ Below w.heap.size w w' := by
  have := rsub_any v0 v1 _ _ w r0 r1 (M.Low.digs D32_two _) (M.Low.digs D32_two _) (Nat.le_trans (dlen hx) (by omega)) (digs_mono D32_two hle) (by rw [M.val_digs D32_two, M.val_digs D32_two]; exact hle)
  rwa [M.val_digs D32_two, M.val_digs D32_two] at this
theorem rcmp_dig {X Y K : Nat} (hK : K ≤ 50000) (hx : X < D32 ^ K) (v0 v1 : Value) (w : World) (r0 : Rd w v0 (M.digs D32 X)) (r1 : Rd w v1 (M.digs D32 Y)) :
    Calls Tryz.prog 70 #[v0, v1] w fun e w' => e = .returned (.int .i64 (cmpN X Y)) ∧ Below w.heap.size w w' := by
  have := rcmp_any D32 D32_pos v0 v1 _ _ w r0 r1 (M.Low.digs D32_two _) (M.Low.digs D32_two _) (M.trim_digs D32_two _) (M.trim_digs D32_two _) (Nat.le_trans (dlen hx) (by omega))
  rwa [M.val_digs D32_two, M.val_digs D32_two] at this
theorem rdiv_dig {X Y K : Nat} (hK : K ≤ 50000) (hx : X < D32 ^ K) (hy : Y < D32 ^ K) (h0 : 0 < Y) (v0 v1 : Value) (w : World) (r0 : Rd w v0 (M.digs D32 X)) (r1 : Rd w v1 (M.digs D32 Y)) :
    Calls Tryz.prog 41 #[v0, v1] w fun e w' => ∃ q r, e = .returned (.tuple #[q, r]) ∧ Rd w' q (M.digs D32 (X / Y)) ∧ Rd w' r (M.digs D32 (X % Y)) ∧ Below w.heap.size w w' := by
  have := rdiv_any v0 v1 _ _ w r0 r1 (M.Low.digs D32_two _) (M.Low.digs D32_two _) (M.trim_digs D32_two _) (digs_pos D32_two (by omega)) (Nat.le_trans (dlen hx) (by omega)) (Nat.le_trans (dlen hy) (by omega))
  rwa [M.val_digs D32_two, M.val_digs D32_two] at this
theorem make0_val (neg : Bool) {V K : Nat} (hK : K ≤ 100000) (hV : V < D32 ^ K) (v : Value) (w : World) (h : Rd w v (M.digs D32 V)) :
    Calls Tryz.prog 37 #[.bool neg, v] w fun e w' => e = .returned (zI (sgn neg V)) ∧ Below w.heap.size w w' := by
  have := make0_any neg v _ w h (M.Low.digs D32_two _) (Nat.le_trans (dlen hV) hK)
  rwa [M.val_digs D32_two] at this
end Go.Proofs.YtimmgjlojplccaaGreatDoor
namespace Go.Proofs.YtimmgjlojplccaaGreatDoor
open Go.RowKit

theorem dig_any (s : ByteArray) (w : World) (hm : s.size ≤ 40000) :
    Calls Tryz.prog 39 #[.string s] w fun e w' => ∃ v, e = .returned v ∧ Rd w' v (M.digs D32 (natOf s)) ∧ Below w.heap.size w w' := digits_any s w (by omega)
theorem max_lt_pow {X Y b k : Nat} (hb : 2 ≤ b) (hx : X < b ^ k) (hy : Y < b ^ k) : X + Y < b ^ (k + 1) := by
  rw [Nat.pow_succ]
  have h1 : b ^ k * 2 ≤ b ^ k * b := Nat.mul_le_mul_left _ hb
  generalize b ^ k = p at *
  omega

end Go.Proofs.YtimmgjlojplccaaGreatDoor
namespace Go.Proofs.YtimmgjlojplccaaGreatDoor
open Go.RowKit

end Go.Proofs.YtimmgjlojplccaaGreatDoor
namespace Go.Proofs.YtimmgjlojplccaaGreatDoor
open Go.RowKit

theorem mul_lt_pow {X Y b j k : Nat} (hx : X < b ^ j) (hy : Y < b ^ k) : X * Y < b ^ (j + k) := by
  rw [Nat.pow_add]
  exact Nat.mul_lt_mul'' hx hy

end Go.Proofs.YtimmgjlojplccaaGreatDoor
