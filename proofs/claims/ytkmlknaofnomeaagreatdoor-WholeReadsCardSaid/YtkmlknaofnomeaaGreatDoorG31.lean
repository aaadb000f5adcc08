/-
  gussetref02: Check, Both, Negate; what gussetref01 tells of digits, by their values.
  gussetref02: Sum.
  gussetref02: Less, Times, Order.
  gussetref02: Times.
-/
import Derived.Test.YtkmlknaofnomeaaGreatDoorG21
import Derived.Test.YtkmlknaofnomeaaGreatDoorG28
import Derived.Test.YtkmlknaofnomeaaGreatDoorG29
import Derived.Test.YtkmlknaofnomeaaGreatDoorG30
import Derived.Test.YtkmlknaofnomeaaGreatDoorG25
namespace Go.Proofs.YtkmlknaofnomeaaGreatDoor
open Go.RowKit

set_option maxRecDepth 100000 in
set_option maxHeartbeats 1000000 in
theorem rcheck_any (n : Bool) (s : ByteArray) (w : World) :
    Calls Tryz.prog 26 #[.agg #[.bool n, .string s]] w fun e w' => e = .returned (.int .i64 (chk n s : Nat)) ∧ Below w.heap.size w w' := by
  by_cases h1 : 32000 < s.size
  · have HC : Hid (chk n s = 5) := by show _ = _; unfold chk; rw [if_pos h1]
    go_enter Tryz.func26, Tryz.ntmps26
    go_wp2
    go_ret
    exact ⟨by rw [HC.out]; rfl, by go_grown⟩
  · by_cases hs : 0 < s.size
    · have g4 := toList_ne hs
      have g5 : s.toList.isEmpty = false := by simpa using g4
      by_cases h0 : lm (byts s) 0 = 0
      · have HC : Hid (chk n s = 1) := by show _ = _; unfold chk; rw [if_neg h1, if_pos (Or.inr ⟨hs, h0⟩)]
        have HI := shut (fun w => isNat_no s w hs h0)
        clear h0
        go_enter Tryz.func26, Tryz.ntmps26
        go_wp2_with fail
        refine (HI.out _).mono ?_
        rintro e w1 ⟨rfl, hw⟩
        subst hw
        go_wp2
        go_ret
        exact ⟨by rw [HC.out]; rfl, by go_grown⟩
      · have HC : Hid (chk n s = 0) := by
          show _ = _
          unfold chk
          rw [if_neg h1, if_neg (by rintro (⟨a, _⟩ | ⟨_, b⟩); · omega
                                    · exact h0 b)]
        have HI := shut (fun w => isNat_yes s w (fun _ => h0))
        clear h0
        cases n <;>
        · go_enter Tryz.func26, Tryz.ntmps26
          go_wp2_with fail
          refine (HI.out _).mono ?_
          rintro e w1 ⟨rfl, hw⟩
          subst hw
          go_wp2
          go_ret
          exact ⟨by rw [HC.out]; rfl, by go_grown⟩
    · have g3 : s = ByteArray.empty := ByteArray.size_eq_zero_iff.1 (by omega)
      subst g3
      have HI := shut (fun w => isNat_yes ByteArray.empty w (fun h => absurd h hs))
      cases n with
      | true =>
        have HC : Hid (chk true ByteArray.empty = 1) := by show _ = _; rfl
        go_enter Tryz.func26, Tryz.ntmps26
        go_wp2_with fail
        refine (HI.out _).mono ?_
        rintro e w1 ⟨rfl, hw⟩
        subst hw
        go_wp2
        go_ret
        exact ⟨by rw [HC.out]; rfl, by go_grown⟩
      | false =>
        have HC : Hid (chk false ByteArray.empty = 0) := by show _ = _; rfl
        go_enter Tryz.func26, Tryz.ntmps26
        go_wp2_with fail
        refine (HI.out _).mono ?_
        rintro e w1 ⟨rfl, hw⟩
        subst hw
        go_wp2
        go_ret
        exact ⟨by rw [HC.out]; rfl, by go_grown⟩

theorem rb2 (w : World) (x0 x1 y0 y1 : Value) : ∃ w0, w0 = (w.alloc (.cells #[x0, x1] 24)).alloc (.cells #[y0, y1] 24) ∧
    Cel w0 w.heap.size [x0, x1] 24 ∧ Cel w0 (w.heap.size + 1) [y0, y1] 24 ∧ Below w.heap.size w w0 := by
  refine ⟨_, rfl, (Cel.new w [x0, x1] _).alloc _, ?_, by go_grown⟩
  have := Cel.new (w.alloc (.cells #[x0, x1] 24)) [y0, y1] 24
  simpa using this
/-- Two numbers in boxes, and a cell for the answer. -/
theorem rb3 (w : World) (x0 x1 y0 y1 : Value) : ∃ w0, w0 = ((w.alloc (.cells #[x0, x1] 24)).alloc (.cells #[y0, y1] 24)).alloc (.cells #[.bool false, .string { data := #[] }] 24) ∧
    Cel w0 w.heap.size [x0, x1] 24 ∧ Cel w0 (w.heap.size + 1) [y0, y1] 24 ∧ Cel w0 (w.heap.size + 1 + 1) [.bool false, .string { data := #[] }] 24 ∧ Below w.heap.size w w0 := by
  refine ⟨_, rfl, ((Cel.new w [x0, x1] _).alloc _).alloc _, ?_, ?_, by go_grown⟩
  · have := (Cel.new (w.alloc (.cells #[x0, x1] 24)) [y0, y1] 24).alloc (.cells #[.bool false, .string { data := #[] }] 24)
    simpa using this
  · have := Cel.new ((w.alloc (.cells #[x0, x1] 24)).alloc (.cells #[y0, y1] 24)) [.bool false, .string { data := #[] }] 24
    simpa using this

set_option maxRecDepth 100000 in
set_option maxHeartbeats 1000000 in
theorem rboth_any (n0 n1 : Bool) (s0 s1 : ByteArray) (w : World) :
    Calls Tryz.prog 10 #[.agg #[.bool n0, .string s0], .agg #[.bool n1, .string s1]] w fun e w' => e = .returned (.int .i64 (two n0 s0 n1 s1 : Nat)) ∧ Below w.heap.size w w' := by
  by_cases h : chk n0 s0 = 0
  · have HC : Hid (two n0 s0 n1 s1 = chk n1 s1) := by show _ = _; unfold two; rw [if_pos h]
    have Z := shut h
    clear h
    go_enter Tryz.func10, Tryz.ntmps10
    go_wp2_with fail
    obtain ⟨w0, hw0, k0, k1, hb0⟩ := rb2 w (.bool n0) (.string s0) (.bool n1) (.string s1)
    rw [← hw0]
    clear hw0
    refine (rcheck_any n0 s0 w0).mono ?_
    rintro e w1 ⟨rfl, b1⟩
    rw [Z.out]
    have c0 := cel2_0' (k1.below b1)
    have c1 := cel2_1' (k1.below b1)
    go_wp2_with fail
    refine (rcheck_any n1 s1 w1).mono ?_
    rintro e w2 ⟨rfl, b2⟩
    have bb := Below.after (Below.after hb0 b1) b2
    go_wp2
    go_ret
    exact ⟨by rw [HC.out]; rfl, bb⟩
  · have HC : Hid (two n0 s0 n1 s1 = chk n0 s0) := by show _ = _; unfold two; rw [if_neg h]
    have HK := shut (rcheck_any n0 s0)
    generalize chk n0 s0 = c at *
    have h' : ¬ (c : Int) = 0 := by omega
    go_enter Tryz.func10, Tryz.ntmps10
    go_wp2_with fail
    obtain ⟨w0, hw0, k0, k1, hb0⟩ := rb2 w (.bool n0) (.string s0) (.bool n1) (.string s1)
    rw [← hw0]
    clear hw0
    refine (HK.out w0).mono ?_
    rintro e w1 ⟨rfl, b1⟩
    have bb := Below.after hb0 b1
    go_wp2
    go_ret
    exact ⟨by rw [HC.out]; rfl, bb⟩

theorem rneg_any (n : Bool) (s : ByteArray) (w : World) :
    Calls Tryz.prog 40 #[.agg #[.bool n, .string s]] w fun e w' => ∃ n', e = .returned (.agg #[.bool n', .string s]) ∧ zOf n' s = -zOf n s ∧ Below w.heap.size w w' := by
  have hb2 : ∃ w0, w0 = (w.alloc (.cells #[.bool n, .string s] 24)).alloc (.cells #[.bool false, .string { data := #[] }] 24) ∧ Cel w0 (w.heap.size + 1) [.bool false, .string { data := #[] }] 24 ∧ Below w.heap.size w w0 := by
    refine ⟨_, rfl, ?_, by go_grown⟩
    have := Cel.new (w.alloc (.cells #[.bool n, .string s] 24)) [.bool false, .string { data := #[] }] 24
    simpa using this
  have hr : ∃ w0, w0 = (w.alloc (.cells #[.bool n, .string s] 24)).alloc (.cells #[.bool (!n && !s.toList.isEmpty), .string s] 24) ∧ Cel w0 (w.heap.size + 1) [.bool (!n && !s.toList.isEmpty), .string s] 24 ∧ Below w.heap.size w w0 := by
    refine ⟨_, rfl, ?_, by go_grown⟩
    have := Cel.new (w.alloc (.cells #[.bool n, .string s] 24)) [.bool (!n && !s.toList.isEmpty), .string s] 24
    simpa using this
  obtain ⟨w0, hw0, k0, bb⟩ := hr
  have hz : zOf (!n && !s.toList.isEmpty) s = -zOf n s := by
    by_cases hs : 0 < s.size
    · have g4 := toList_ne hs
      have g5 : s.toList.isEmpty = false := by simpa using g4
      rw [g5]
      cases n <;> simp [zOf]
    · have h0 := natOf_empty (s := s) (by omega)
      unfold zOf
      rw [h0]
      simp
  have HZ := shut hz
  have HW := shut hw0
  clear hz hb2 hw0
  cases n
  · go_enter Tryz.func40, Tryz.ntmps40
    go_wp2
    have hw := HW.out
    have hz := HZ.out
    simp only [Bool.not_false, Bool.true_and] at hw k0 hz
    rw [← hw]
    exact post_z (p := 2) (by kernel_rfl) rfl rfl k0 ⟨_, rfl, hz, bb⟩
  · go_enter Tryz.func40, Tryz.ntmps40
    go_wp2
    have hw := HW.out
    have hz := HZ.out
    simp only [Bool.not_true, Bool.false_and] at hw k0 hz
    rw [← hw]
    exact post_z (p := 2) (by kernel_rfl) rfl rfl k0 ⟨_, rfl, hz, bb⟩

theorem D32_pow (k : Nat) : D32 ^ k = 256 ^ (4 * k) := by rw [Nat.pow_mul]; rfl
theorem natOf_lt4 {s : ByteArray} (k : Nat) (h : s.size ≤ 4 * k) : natOf s < D32 ^ k := Nat.lt_of_lt_of_le (natOf_lt s) (by rw [D32_pow]; exact Nat.pow_le_pow_right (by omega) h)
theorem dlen {V K : Nat} (h : V < D32 ^ K) : (M.digs D32 V).length ≤ K := M.digs_len_of_lt D32_two h
theorem radd_dig {X Y K : Nat} (hK : K ≤ 50000) (hx : X < D32 ^ K) (hy : Y < D32 ^ K) (v0 v1 : Value) (w : World) (r0 : Rd w v0 (M.digs D32 X)) (r1 : Rd w v1 (M.digs D32 Y)) :
    Calls Tryz.prog 38 #[v0, v1] w fun e w' => ∃ v, e = .returned v ∧ Rd w' v (M.digs D32 (X + Y)) ∧ Below w.heap.size w w' := by
  have := radd_any v0 v1 _ _ w r0 r1 (M.Low.digs D32_two _) (M.Low.digs D32_two _) (Nat.le_trans (dlen hx) (by omega)) (Nat.le_trans (dlen hy) (by omega))
  rwa [M.val_digs D32_two, M.val_digs D32_two] at this
theorem digs_mono {b X Y : Nat} (hb : 2 ≤ b) (h : Y ≤ X) : (M.digs b Y).length ≤ (M.digs b X).length := by
  refine M.digs_len_of_lt hb (Nat.lt_of_le_of_lt h ?_)
  have := M.val_lt (by omega) (M.Low.digs hb X)
  rwa [M.val_digs hb] at this
theorem rsub_dig {X Y K : Nat} (hK : K ≤ 50000) (hx : X < D32 ^ K) (hle : Y ≤ X) (v0 v1 : Value) (w : World) (r0 : Rd w v0 (M.digs D32 X)) (r1 : Rd w v1 (M.digs D32 Y)) :
    Calls Tryz.prog 39 #[v0, v1] w fun e w' => ∃ v, e = .returned v ∧ Rd w' v (M.digs D32 (X - Y)) ∧ Below w.heap.size w w' := by
  have := rsub_any v0 v1 _ _ w r0 r1 (M.Low.digs D32_two _) (M.Low.digs D32_two _) (Nat.le_trans (dlen hx) (by omega)) (digs_mono D32_two hle) (by rw [M.val_digs D32_two, M.val_digs D32_two]; exact hle)
  rwa [M.val_digs D32_two, M.val_digs D32_two] at this
theorem rcmp_dig {X Y K : Nat} (hK : K ≤ 50000) (hx : X < D32 ^ K) (v0 v1 : Value) (w : World) (r0 : Rd w v0 (M.digs D32 X)) (r1 : Rd w v1 (M.digs D32 Y)) :
    Calls Tryz.prog 35 #[v0, v1] w fun e w' => e = .returned (.int .i64 (cmpN X Y)) ∧ Below w.heap.size w w' := by
  have := rcmp_any D32 D32_pos v0 v1 _ _ w r0 r1 (M.Low.digs D32_two _) (M.Low.digs D32_two _) (M.trim_digs D32_two _) (M.trim_digs D32_two _) (Nat.le_trans (dlen hx) (by omega))
  rwa [M.val_digs D32_two, M.val_digs D32_two] at this
theorem rmul_dig {X Y K : Nat} (hK : K ≤ 50000) (hx : X < D32 ^ K) (hy : Y < D32 ^ K) (v0 v1 : Value) (w : World) (r0 : Rd w v0 (M.digs D32 X)) (r1 : Rd w v1 (M.digs D32 Y)) :
    Calls Tryz.prog 41 #[v0, v1] w fun e w' => ∃ v, e = .returned v ∧ Rd w' v (M.digs D32 (X * Y)) ∧ Below w.heap.size w w' := by
  have := rmul_any v0 v1 _ _ w r0 r1 (M.Low.digs D32_two _) (M.Low.digs D32_two _) (Nat.le_trans (dlen hx) (by omega)) (Nat.le_trans (dlen hy) (by omega))
  rwa [M.val_digs D32_two, M.val_digs D32_two] at this
theorem rdiv_dig {X Y K : Nat} (hK : K ≤ 50000) (hx : X < D32 ^ K) (hy : Y < D32 ^ K) (h0 : 0 < Y) (v0 v1 : Value) (w : World) (r0 : Rd w v0 (M.digs D32 X)) (r1 : Rd w v1 (M.digs D32 Y)) :
    Calls Tryz.prog 45 #[v0, v1] w fun e w' => ∃ q r, e = .returned (.tuple #[q, r]) ∧ Rd w' q (M.digs D32 (X / Y)) ∧ Rd w' r (M.digs D32 (X % Y)) ∧ Below w.heap.size w w' := by
  have := rdiv_any v0 v1 _ _ w r0 r1 (M.Low.digs D32_two _) (M.Low.digs D32_two _) (M.trim_digs D32_two _) (digs_pos D32_two (by omega)) (Nat.le_trans (dlen hx) (by omega)) (Nat.le_trans (dlen hy) (by omega))
  rwa [M.val_digs D32_two, M.val_digs D32_two] at this
theorem make0_val (neg : Bool) {V K : Nat} (hK : K ≤ 100000) (hV : V < D32 ^ K) (v : Value) (w : World) (h : Rd w v (M.digs D32 V)) :
    Calls Tryz.prog 37 #[.bool neg, v] w fun e w' => e = .returned (zI (sgn neg V)) ∧ Below w.heap.size w w' := by
  have := make0_any neg v _ w h (M.Low.digs D32_two _) (Nat.le_trans (dlen hV) hK)
  rwa [M.val_digs D32_two] at this
end Go.Proofs.YtkmlknaofnomeaaGreatDoor
namespace Go.Proofs.YtkmlknaofnomeaaGreatDoor
open Go.RowKit

theorem dig_any (s : ByteArray) (w : World) (hm : s.size ≤ 40000) :
    Calls Tryz.prog 36 #[.string s] w fun e w' => ∃ v, e = .returned v ∧ Rd w' v (M.digs D32 (natOf s)) ∧ Below w.heap.size w w' := digits_any s w (by omega)
theorem max_lt_pow {X Y b k : Nat} (hb : 2 ≤ b) (hx : X < b ^ k) (hy : Y < b ^ k) : X + Y < b ^ (k + 1) := by
  rw [Nat.pow_succ]
  have h1 : b ^ k * 2 ≤ b ^ k * b := Nat.mul_le_mul_left _ hb
  generalize b ^ k = p at *
  omega

set_option maxRecDepth 100000 in
set_option maxHeartbeats 4000000 in
theorem rsum_like (n : Bool) (s0 s1 : ByteArray) (w : World) (z0 : s0.size ≤ 40000) (z1 : s1.size ≤ 40000) :
    Calls Tryz.prog 17 #[.agg #[.bool n, .string s0], .agg #[.bool n, .string s1]] w fun e w' => e = .returned (zI (sgn n (natOf s0 + natOf s1))) ∧ Below w.heap.size w w' := by
  have HA := shut (fun v0 v1 w r0 r1 => radd_dig (X := natOf s0) (Y := natOf s1) (K := 10000) (by omega) (natOf_lt4 10000 (by omega)) (natOf_lt4 10000 (by omega)) v0 v1 w r0 r1)
  have HM := shut (fun v w h => make0_val n (V := natOf s0 + natOf s1) (K := 10000 + 1) (by omega) (max_lt_pow D32_two (natOf_lt4 10000 (by omega)) (natOf_lt4 10000 (by omega))) v w h)
  generalize hR : zI (sgn n (natOf s0 + natOf s1)) = R at *
  obtain ⟨za, zb, rfl⟩ : ∃ a b, R = .agg #[.bool a, .string b] := ⟨_, _, hR.symm⟩
  clear hR
  go_enter Tryz.func17, Tryz.ntmps17
  go_wp2_with fail
  obtain ⟨w0, hw0, k0, k1, k2, bb⟩ := rb3 w (.bool n) (.string s0) (.bool n) (.string s1)
  rw [← hw0]
  clear hw0
  refine (dig_any s0 w0 z0).mono ?_
  rintro e w1 ⟨vx, rfl, rx, b1⟩
  obtain ⟨ax, cx, rfl, -, -⟩ := id rx
  have c1 := cel2_1' (k1.below b1)
  go_wp2_with fail
  refine (dig_any s1 w1 z1).mono ?_
  rintro e w2 ⟨vy, rfl, ry, b2⟩
  obtain ⟨ay, cy, rfl, -, -⟩ := id ry
  have b12 := Below.after b1 b2
  replace k0 := k0.below b12
  replace k1 := k1.below b12
  replace k2 := k2.below b12
  replace bb := Below.after bb b12
  replace rx := rx.below b2
  clear b1 b2 b12 c1
  have c0 := cel2_0' k0
  have c1 := cel2_0' k1
  have H38 := shut (HA.out _ _ w2.drew (show Rd w2 _ _ from rx) (show Rd w2 _ _ from ry))
  clear HA
  go_wp2
  go_region_with (first | (go_at_call 38; refine (H38.out).mono ?_; rintro e w3 ⟨v, rfl, rv, b3'⟩; have b3 : Below w2.heap.size w2 w3 := ⟨b3'.os, b3'.tape, b3'.output, b3'.size, b3'.block⟩; obtain ⟨av, cv, rfl, -, -⟩ := id rv; have d0 := cel2_0' (k0.below b3)) | (go_at_call 37; refine (HM.out _ w3 rv).mono ?_; rintro e w4 ⟨rfl, b4⟩; have q2 := (k2.below b3).below b4; have e0 := cel2_0' q2; have e1 := cel2_1' q2; have f0 := q2.frozen 0; have f1 := q2.frozen 1))
  all_goals try go_wp2
  all_goals exact post_z (p := 4) (by kernel_rfl) rfl rfl ((q2.set 0 _).set 1 _) ⟨rfl, ((Below.after bb (Below.after b3 b4)).setCell (by simp; omega) _).setCell (by simp; omega) _⟩

set_option maxRecDepth 100000 in
set_option maxHeartbeats 4000000 in
theorem rsum_unlike (n : Bool) (s0 s1 : ByteArray) (w : World) (z0 : s0.size ≤ 40000) (z1 : s1.size ≤ 40000) :
    Calls Tryz.prog 17 #[.agg #[.bool n, .string s0], .agg #[.bool (!n), .string s1]] w fun e w' => e = .returned (zI (if natOf s1 ≤ natOf s0 then sgn n (natOf s0 - natOf s1) else sgn (!n) (natOf s1 - natOf s0))) ∧ Below w.heap.size w w' := by
  have HC := shut (fun v0 v1 w r0 r1 => rcmp_dig (X := natOf s0) (Y := natOf s1) (K := 10000) (by omega) (natOf_lt4 10000 (by omega)) v0 v1 w r0 r1)
  by_cases hle : natOf s1 ≤ natOf s0
  · rw [if_pos hle]
    have HA := shut (fun v0 v1 w r0 r1 => rsub_dig (X := natOf s0) (Y := natOf s1) (K := 10000) (by omega) (natOf_lt4 10000 (by omega)) hle v0 v1 w r0 r1)
    have HM := shut (fun v w h => make0_val n (V := natOf s0 - natOf s1) (K := 10000) (by omega) (Nat.lt_of_le_of_lt (Nat.sub_le _ _) (natOf_lt4 10000 (by omega))) v w h)
    have hc : 0 ≤ cmpN (natOf s0) (natOf s1) := by unfold cmpN; split; · omega
                                                   · split <;> omega
    generalize hR : zI (sgn n (natOf s0 - natOf s1)) = R at *
    obtain ⟨za, zb, rfl⟩ : ∃ a b, R = .agg #[.bool a, .string b] := ⟨_, _, hR.symm⟩
    clear hR hle
    generalize cmpN (natOf s0) (natOf s1) = c at *
    have hne : (n == !n) = false := by cases n <;> rfl
    go_enter Tryz.func17, Tryz.ntmps17
    go_wp2_with fail
    obtain ⟨w0, hw0, k0, k1, k2, bb⟩ := rb3 w (.bool n) (.string s0) (.bool (!n)) (.string s1)
    rw [← hw0]
    clear hw0
    refine (dig_any s0 w0 z0).mono ?_
    rintro e w1 ⟨vx, rfl, rx, b1⟩
    obtain ⟨ax, cx, rfl, -, -⟩ := id rx
    have c1 := cel2_1' (k1.below b1)
    go_wp2_with fail
    refine (dig_any s1 w1 z1).mono ?_
    rintro e w2 ⟨vy, rfl, ry, b2⟩
    obtain ⟨ay, cy, rfl, -, -⟩ := id ry
    have b12 := Below.after b1 b2
    replace k0 := k0.below b12
    replace k1 := k1.below b12
    replace k2 := k2.below b12
    replace bb := Below.after bb b12
    replace rx := rx.below b2
    clear b1 b2 b12 c1
    have c0 := cel2_0' k0
    have c1 := cel2_0' k1
    go_wp2_with fail
    refine (HC.out _ _ w2 rx ry).mono ?_
    rintro e w3 ⟨rfl, b3⟩
    replace k0 := k0.below b3
    replace k2 := k2.below b3
    replace bb := Below.after bb b3
    replace rx := rx.below b3
    replace ry := ry.below b3
    clear c0 c1 b3
    have c0 := cel2_0' k0
    have H38 := shut (HA.out _ _ w3.drew (show Rd w3 _ _ from rx) (show Rd w3 _ _ from ry))
    clear HA HC
    go_wp2
    go_region_with (first | (go_at_call 39; refine (H38.out).mono ?_; rintro e w4 ⟨v, rfl, rv, b4'⟩; have b4 : Below w3.heap.size w3 w4 := ⟨b4'.os, b4'.tape, b4'.output, b4'.size, b4'.block⟩; obtain ⟨av, cv, rfl, -, -⟩ := id rv; have d0 := cel2_0' (k0.below b4)) | (go_at_call 37; refine (HM.out _ w4 rv).mono ?_; rintro e w5 ⟨rfl, b5⟩; have q2 := (k2.below b4).below b5; have e0 := cel2_0' q2; have e1 := cel2_1' q2; have f0 := q2.frozen 0; have f1 := q2.frozen 1))
    all_goals try go_wp2
    all_goals exact post_z (p := 4) (by kernel_rfl) rfl rfl ((q2.set 0 _).set 1 _) ⟨rfl, ((Below.after bb (Below.after b4 b5)).setCell (by simp; omega) _).setCell (by simp; omega) _⟩
  · rw [if_neg hle]
    have HA := shut (fun v0 v1 w r0 r1 => rsub_dig (X := natOf s1) (Y := natOf s0) (K := 10000) (by omega) (natOf_lt4 10000 (by omega)) (by omega) v0 v1 w r0 r1)
    have HM := shut (fun v w h => make0_val (!n) (V := natOf s1 - natOf s0) (K := 10000) (by omega) (Nat.lt_of_le_of_lt (Nat.sub_le _ _) (natOf_lt4 10000 (by omega))) v w h)
    have hc : ¬ 0 ≤ cmpN (natOf s0) (natOf s1) := by unfold cmpN; rw [if_pos (by omega)]; omega
    generalize hR : zI (sgn (!n) (natOf s1 - natOf s0)) = R at *
    obtain ⟨za, zb, rfl⟩ : ∃ a b, R = .agg #[.bool a, .string b] := ⟨_, _, hR.symm⟩
    clear hR hle
    generalize cmpN (natOf s0) (natOf s1) = c at *
    have hne : (n == !n) = false := by cases n <;> rfl
    go_enter Tryz.func17, Tryz.ntmps17
    go_wp2_with fail
    obtain ⟨w0, hw0, k0, k1, k2, bb⟩ := rb3 w (.bool n) (.string s0) (.bool (!n)) (.string s1)
    rw [← hw0]
    clear hw0
    refine (dig_any s0 w0 z0).mono ?_
    rintro e w1 ⟨vx, rfl, rx, b1⟩
    obtain ⟨ax, cx, rfl, -, -⟩ := id rx
    have c1 := cel2_1' (k1.below b1)
    go_wp2_with fail
    refine (dig_any s1 w1 z1).mono ?_
    rintro e w2 ⟨vy, rfl, ry, b2⟩
    obtain ⟨ay, cy, rfl, -, -⟩ := id ry
    have b12 := Below.after b1 b2
    replace k0 := k0.below b12
    replace k1 := k1.below b12
    replace k2 := k2.below b12
    replace bb := Below.after bb b12
    replace rx := rx.below b2
    clear b1 b2 b12 c1
    have c0 := cel2_0' k0
    have c1 := cel2_0' k1
    go_wp2_with fail
    refine (HC.out _ _ w2 rx ry).mono ?_
    rintro e w3 ⟨rfl, b3⟩
    replace k1 := k1.below b3
    replace k2 := k2.below b3
    replace bb := Below.after bb b3
    replace rx := rx.below b3
    replace ry := ry.below b3
    clear c0 c1 b3
    have c0 := cel2_0' k1
    have H38 := shut (HA.out _ _ w3.drew (show Rd w3 _ _ from ry) (show Rd w3 _ _ from rx))
    clear HA HC
    go_wp2
    go_region_with (first | (go_at_call 39; refine (H38.out).mono ?_; rintro e w4 ⟨v, rfl, rv, b4'⟩; have b4 : Below w3.heap.size w3 w4 := ⟨b4'.os, b4'.tape, b4'.output, b4'.size, b4'.block⟩; obtain ⟨av, cv, rfl, -, -⟩ := id rv; have d0 := cel2_0' (k1.below b4)) | (go_at_call 37; refine (HM.out _ w4 rv).mono ?_; rintro e w5 ⟨rfl, b5⟩; have q2 := (k2.below b4).below b5; have e0 := cel2_0' q2; have e1 := cel2_1' q2; have f0 := q2.frozen 0; have f1 := q2.frozen 1))
    all_goals try go_wp2
    all_goals exact post_z (p := 4) (by kernel_rfl) rfl rfl ((q2.set 0 _).set 1 _) ⟨rfl, ((Below.after bb (Below.after b4 b5)).setCell (by simp; omega) _).setCell (by simp; omega) _⟩

theorem rsum_any (n0 n1 : Bool) (s0 s1 : ByteArray) (w : World) (z0 : s0.size ≤ 40000) (z1 : s1.size ≤ 40000) :
    Calls Tryz.prog 17 #[.agg #[.bool n0, .string s0], .agg #[.bool n1, .string s1]] w fun e w' => e = .returned (zI (zOf n0 s0 + zOf n1 s1)) ∧ Below w.heap.size w w' := by
  by_cases h : n1 = n0
  · subst h
    have := rsum_like n1 s0 s1 w z0 z1
    have e : sgn n1 (natOf s0 + natOf s1) = zOf n1 s0 + zOf n1 s1 := by
      rw [← sgn_natOf, ← sgn_natOf]
      cases n1
      · simp [sgn]
      · simp [sgn]; omega
    rwa [e] at this
  · have e : n1 = !n0 := by cases n0 <;> cases n1 <;> simp_all
    subst e
    have := rsum_unlike n0 s0 s1 w z0 z1
    have e : (if natOf s1 ≤ natOf s0 then sgn n0 (natOf s0 - natOf s1) else sgn (!n0) (natOf s1 - natOf s0)) = zOf n0 s0 + zOf (!n0) s1 := by
      rw [← sgn_natOf, ← sgn_natOf]
      cases n0 <;> simp [sgn] <;> split <;> omega
    rwa [e] at this
end Go.Proofs.YtkmlknaofnomeaaGreatDoor
namespace Go.Proofs.YtkmlknaofnomeaaGreatDoor
open Go.RowKit

set_option maxRecDepth 100000 in
set_option maxHeartbeats 4000000 in
theorem rless_any (n0 n1 : Bool) (s0 s1 : ByteArray) (w : World) (z0 : s0.size ≤ 40000) (z1 : s1.size ≤ 40000) :
    Calls Tryz.prog 18 #[.agg #[.bool n0, .string s0], .agg #[.bool n1, .string s1]] w fun e w' => e = .returned (zI (zOf n0 s0 - zOf n1 s1)) ∧ Below w.heap.size w w' := by
  have HS := shut (fun (n' : Bool) (w : World) (h : zOf n' s1 = -zOf n1 s1) => show Calls Tryz.prog 17 #[.agg #[.bool n0, .string s0], .agg #[.bool n', .string s1]] w fun e w' => e = .returned (zI (zOf n0 s0 - zOf n1 s1)) ∧ Below w.heap.size w w' from by
    have := rsum_any n0 n' s0 s1 w z0 z1
    rwa [h, ← Int.sub_eq_add_neg] at this)
  generalize hR : zI (zOf n0 s0 - zOf n1 s1) = R at *
  obtain ⟨za, zb, rfl⟩ : ∃ a b, R = .agg #[.bool a, .string b] := ⟨_, _, hR.symm⟩
  clear hR
  go_enter Tryz.func18, Tryz.ntmps18
  go_wp2
  obtain ⟨w0, hw0, k0, k1, k2, bb⟩ := rb3 w (.bool n0) (.string s0) (.bool n1) (.string s1)
  rw [← hw0]
  clear hw0
  have a0 := cel2_0' k0
  have a1 := cel2_1' k0
  have a2 := cel2_0' k1
  have a3 := cel2_1' k1
  go_region_with (first | (go_at_call 40; refine (rneg_any n1 s1 _).mono ?_; rintro e w1 ⟨n', rfl, hn', b1'⟩; have b1 : Below w0.heap.size w0 w1 := ⟨b1'.os, b1'.tape, b1'.output, b1'.size, b1'.block⟩; have d0 := cel2_0' (k0.below b1); have d1 := cel2_1' (k0.below b1); have HN := shut hn'; clear hn') | (go_at_call 17; refine (HS.out n' w1 HN.out).mono ?_; rintro e w2 ⟨rfl, b2⟩; have q2 := (k2.below b1).below b2; have e0 := cel2_0' q2; have e1 := cel2_1' q2; have f0 := q2.frozen 0; have f1 := q2.frozen 1))
  all_goals try go_wp2
  all_goals exact post_z (p := 4) (by kernel_rfl) rfl rfl ((q2.set 0 _).set 1 _) ⟨rfl, ((Below.after bb (Below.after b1 b2)).setCell (by simp; omega) _).setCell (by simp; omega) _⟩

set_option maxRecDepth 100000 in
set_option maxHeartbeats 4000000 in
theorem rorder_like (n : Bool) (s0 s1 : ByteArray) (w : World) (z0 : s0.size ≤ 40000) (z1 : s1.size ≤ 40000) :
    Calls Tryz.prog 16 #[.agg #[.bool n, .string s0], .agg #[.bool n, .string s1]] w fun e w' => e = .returned (.int .i64 (cmpZ (zOf n s0) (zOf n s1))) ∧ Below w.heap.size w w' := by
  have HC := shut (fun v0 v1 w r0 r1 => rcmp_dig (X := natOf s0) (Y := natOf s1) (K := 10000) (by omega) (natOf_lt4 10000 (by omega)) v0 v1 w r0 r1)
  have hc : -1 ≤ cmpN (natOf s0) (natOf s1) ∧ cmpN (natOf s0) (natOf s1) ≤ 1 := by
    unfold cmpN; split
    · omega
    · split <;> omega
  have hz : cmpZ (zOf n s0) (zOf n s1) = if n then -cmpN (natOf s0) (natOf s1) else cmpN (natOf s0) (natOf s1) := by
    rw [← sgn_natOf, ← sgn_natOf]
    cases n
    · rw [cmpZ_pp]; rfl
    · rw [cmpZ_nn]
      unfold cmpN
      simp only [if_true]
      split
      · split <;> (try split) <;> omega
      · split <;> (try split) <;> omega
  have HZ := shut hz
  clear hz
  generalize hcc : cmpN (natOf s0) (natOf s1) = c at *
  have hw1 : IntKind.i64.wrap (-c) = -c := by simp only [IntKind.wrap_i64]; omega
  clear hcc hc
  go_enter Tryz.func16, Tryz.ntmps16
  go_wp2
  obtain ⟨w0, hw0, k0, k1, bb⟩ := rb2 w (.bool n) (.string s0) (.bool n) (.string s1)
  rw [← hw0]
  clear hw0
  go_region_held3 (fun w' => w'.cell? ⟨w.heap.size, 1, none⟩ = some (.string s0) ∧ w'.cell? ⟨w.heap.size + 1, 1, none⟩ = some (.string s1)) (exact ⟨cel2_1' k0, cel2_1' k1⟩) (first | (go_at_call 35; refine (HC.out _ _ _ rx ry).mono ?_; rintro e w3 ⟨rfl, b3⟩; replace k0 := k0.below b3; replace k1 := k1.below b3; replace bb := Below.after bb b3) | (go_at_call 36; have _x := rx; refine (dig_any _ _ z1).mono ?_; rintro e w2 ⟨vy, rfl, ry, b2⟩; obtain ⟨ay, cy, rfl, -, -⟩ := id ry; replace rx := rx.below b2; replace k0 := k0.below b2; replace k1 := k1.below b2; replace bb := Below.after bb b2) | (go_at_call 36; refine (dig_any _ _ z0).mono ?_; rintro e w1 ⟨vx, rfl, rx, b1⟩; obtain ⟨ax, cx, rfl, -, -⟩ := id rx; replace k0 := k0.below ⟨b1.os, b1.tape, b1.output, b1.size, b1.block⟩; replace k1 := k1.below ⟨b1.os, b1.tape, b1.output, b1.size, b1.block⟩; replace bb := Below.after bb ⟨b1.os, b1.tape, b1.output, b1.size, b1.block⟩))
  have c0 := cel2_0' k0
  cases n
  · go_wp2
    go_ret
    exact ⟨by rw [HZ.out]; rfl, bb⟩
  · go_wp2
    go_ret
    exact ⟨by rw [HZ.out]; rfl, bb⟩

set_option maxRecDepth 100000 in
set_option maxHeartbeats 4000000 in
theorem rorder_any (n0 n1 : Bool) (s0 s1 : ByteArray) (w : World) (o0 : OkZ n0 s0) (o1 : OkZ n1 s1) (z0 : s0.size ≤ 40000) (z1 : s1.size ≤ 40000) :
    Calls Tryz.prog 16 #[.agg #[.bool n0, .string s0], .agg #[.bool n1, .string s1]] w fun e w' => e = .returned (.int .i64 (cmpZ (zOf n0 s0) (zOf n1 s1))) ∧ Below w.heap.size w w' := by
  have P0 := natOf_pos o0.1
  have P1 := natOf_pos o1.1
  have O0 := o0.2
  have O1 := o1.2
  cases n0 <;> cases n1
  · exact rorder_like false s0 s1 w z0 z1
  · have e : cmpZ (zOf false s0) (zOf true s1) = 1 := by rw [← sgn_natOf, ← sgn_natOf]; exact cmpZ_pn (P1 (O1 rfl))
    rw [e]
    go_enter Tryz.func16, Tryz.ntmps16
    go_wp2
    go_ret
    exact ⟨rfl, by go_grown⟩
  · have e : cmpZ (zOf true s0) (zOf false s1) = -1 := by rw [← sgn_natOf, ← sgn_natOf]; exact cmpZ_np (P0 (O0 rfl))
    rw [e]
    go_enter Tryz.func16, Tryz.ntmps16
    go_wp2
    go_ret
    exact ⟨rfl, by go_grown⟩
  · exact rorder_like true s0 s1 w z0 z1
end Go.Proofs.YtkmlknaofnomeaaGreatDoor
namespace Go.Proofs.YtkmlknaofnomeaaGreatDoor
open Go.RowKit

theorem mul_lt_pow {X Y b j k : Nat} (hx : X < b ^ j) (hy : Y < b ^ k) : X * Y < b ^ (j + k) := by
  rw [Nat.pow_add]
  exact Nat.mul_lt_mul'' hx hy

set_option maxRecDepth 100000 in
set_option maxHeartbeats 800000 in
theorem rtimes_any (n0 n1 : Bool) (s0 s1 : ByteArray) (w : World) (z0 : s0.size ≤ 40000) (z1 : s1.size ≤ 40000) :
    Calls Tryz.prog 19 #[.agg #[.bool n0, .string s0], .agg #[.bool n1, .string s1]] w fun e w' => e = .returned (zI (zOf n0 s0 * zOf n1 s1)) ∧ Below w.heap.size w w' := by
  have HM := shut (fun v0 v1 w r0 r1 => rmul_dig (X := natOf s0) (Y := natOf s1) (K := 10000) (by omega) (natOf_lt4 10000 (by omega)) (natOf_lt4 10000 (by omega)) v0 v1 w r0 r1)
  have HK := shut (fun v w h => show Calls Tryz.prog 37 #[.bool (n0 != n1), v] w fun e w' => e = .returned (zI (zOf n0 s0 * zOf n1 s1)) ∧ Below w.heap.size w w' from by
    have := make0_val (n0 != n1) (V := natOf s0 * natOf s1) (K := 10000 + 10000) (by omega) (mul_lt_pow (natOf_lt4 10000 (by omega)) (natOf_lt4 10000 (by omega))) v w h
    rwa [sgn_mul, sgn_natOf, sgn_natOf] at this)
  generalize hR : zI (zOf n0 s0 * zOf n1 s1) = R at *
  obtain ⟨za, zb, rfl⟩ : ∃ a b, R = .agg #[.bool a, .string b] := ⟨_, _, hR.symm⟩
  clear hR
  go_enter Tryz.func19, Tryz.ntmps19
  go_wp2
  obtain ⟨w0, hw0, k0, k1, k2, bb⟩ := rb3 w (.bool n0) (.string s0) (.bool n1) (.string s1)
  rw [← hw0]
  clear hw0
  have a0 := cel2_0' k0
  have a1 := cel2_1' k0
  have a2 := cel2_0' k1
  have a3 := cel2_1' k1
  go_region_held3 (fun w' => w'.cell? ⟨w.heap.size, 0, none⟩ = some (.bool n0) ∧ w'.cell? ⟨w.heap.size, 1, none⟩ = some (.string s0) ∧ w'.cell? ⟨w.heap.size + 1, 0, none⟩ = some (.bool n1) ∧ w'.cell? ⟨w.heap.size + 1, 1, none⟩ = some (.string s1)) (first | exact ⟨cel2_0' k0, cel2_1' k0, cel2_0' k1, cel2_1' k1⟩ | exact ⟨cel2_0' ((k0.other (by omega) _ _).other (by omega) _ _), cel2_1' ((k0.other (by omega) _ _).other (by omega) _ _), cel2_0' ((k1.other (by omega) _ _).other (by omega) _ _), cel2_1' ((k1.other (by omega) _ _).other (by omega) _ _)⟩) (first | (go_at_call 37; refine (HK.out _ w3 rv).mono ?_; rintro e w4 ⟨rfl, b4⟩; replace k0 := k0.below b4; replace k1 := k1.below b4; have q2 := k2.below b4; have e0 := cel2_0' q2; have e1 := cel2_1' q2; have f0 := q2.frozen 0; have f1 := q2.frozen 1; replace bb := Below.after bb b4) | (go_at_call 41; refine (HM.out _ _ w2 rx ry).mono ?_; rintro e w3 ⟨v, rfl, rv, b3⟩; obtain ⟨av, cv, rfl, -, -⟩ := id rv; replace k0 := k0.below b3; replace k1 := k1.below b3; replace k2 := k2.below b3; replace bb := Below.after bb b3; have g0 := cel2_0' k0; have g2 := cel2_0' k1) | (go_at_call 36; have _x := rx; refine (dig_any _ _ z1).mono ?_; rintro e w2 ⟨vy, rfl, ry, b2⟩; obtain ⟨ay, cy, rfl, -, -⟩ := id ry; replace rx := rx.below b2; replace k0 := k0.below b2; replace k1 := k1.below b2; replace k2 := k2.below b2; replace bb := Below.after bb b2; have h0 := cel2_0' k0; have h2 := cel2_0' k1) | (go_at_call 36; refine (dig_any _ _ z0).mono ?_; rintro e w1 ⟨vx, rfl, rx, b1⟩; obtain ⟨ax, cx, rfl, -, -⟩ := id rx; replace k0 := k0.below ⟨b1.os, b1.tape, b1.output, b1.size, b1.block⟩; replace k1 := k1.below ⟨b1.os, b1.tape, b1.output, b1.size, b1.block⟩; replace k2 := k2.below ⟨b1.os, b1.tape, b1.output, b1.size, b1.block⟩; replace bb := Below.after bb ⟨b1.os, b1.tape, b1.output, b1.size, b1.block⟩; have i0 := cel2_0' k0; have i2 := cel2_0' k1; have i3 := cel2_1' k1))
  all_goals try go_wp2
  all_goals exact post_z (p := 4) (by kernel_rfl) rfl rfl ((q2.set 0 _).set 1 _) ⟨rfl, (bb.setCell (by simp; omega) _).setCell (by simp; omega) _⟩
end Go.Proofs.YtkmlknaofnomeaaGreatDoor
