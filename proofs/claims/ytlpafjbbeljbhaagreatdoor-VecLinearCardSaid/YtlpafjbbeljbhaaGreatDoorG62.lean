/-
  gussetlaw04: VecLinear, of any three points.
-/
import Derived.Test.YtlpafjbbeljbhaaGreatDoorG58
import Derived.Test.YtlpafjbbeljbhaaGreatDoorG59
import Derived.Test.YtlpafjbbeljbhaaGreatDoorG60
import Derived.Test.YtlpafjbbeljbhaaGreatDoorG61
namespace Go.Proofs.YtlpafjbbeljbhaaGreatDoor
open Go.RowKit Go.Shelf

theorem sqn (x : Rat) : 0 ≤ x * x := by
 rcases Rat.le_total (a := 0) (b := x) with h | h
 ·exact Rat.mul_nonneg h h
 ·have : 0 ≤ (-x) * (-x) := Rat.mul_nonneg (by grind) (by grind)
  grind
theorem sqp {x : Rat} (h : x ≠ 0) : 0 < x * x := by
 have h1 := sqn x
 have h2 : x * x ≠ 0 := by
  intro e
  exact h (by rcases Rat.mul_eq_zero.1 e with a | a <;> exact a)
 grind
theorem sum_pos {x y : Rat} (h : ¬ (x = 0 ∧ y = 0)) : 0 < x * x + y * y := by
 have a := sqn x
 have b := sqn y
 by_cases hx : x = 0
 ·have hy : y ≠ 0 := fun e => h ⟨hx, e⟩
  have := sqp hy
  grind
 ·have := sqp hx
  grind
theorem mm0 {x y : Rat} (h0 : x = 0) (h1 : y = 0) : x * x + y * y = 0 := by grind
theorem qOf_nz (x : Rat) : qOf (nfZ x.num) (sfZ x.num) (strOf x.den) = x := qOf_qI x
theorem rnegI (x : Rat) (w : World) : Calls Tryz.prog 33 #[.agg #[.bool (nfZ (x).num), .string (sfZ (x).num), .string (strOf (x).den)]] w fun e w' => e = .returned (.agg #[.bool (nfZ (-x).num), .string (sfZ (-x).num), .string (strOf (-x).den)]) ∧ Below w.heap.size w w' := by
 obtain ⟨m, o, e, h⟩ := rnegq_ok (nfZ x.num) (sfZ x.num) (strOf x.den) (okQ_qI x)
 have := h w
 rw [okq_eq o, e, qOf_nz] at this
 exact this
theorem okS_nil2 {s : ByteArray} (hs : OkS s) (h : natOf s = 0) : s.size = 0 := by
 refine Nat.eq_zero_of_not_pos fun hp => ?_
 have := natOf_pos hs hp
 omega
theorem rsign_nil {n : Bool} {s d : ByteArray} (o : OkQ n s d) (h : qOf n s d = 0) (w : World) : Calls Tryz.prog 34 #[.agg #[.bool n, .string s, .string d]] w fun e w' => e = .returned (.int .i64 0) ∧ Below w.heap.size w w' := by
 have h0 : natOf s = 0 := by
  have h1 := o.low.1
  rw [h] at h1
  rw [← natAbs_zOf n s, ← h1]
  rfl
 obtain ⟨rfl, rfl, -⟩ := okq_none o (okS_nil2 o.1.1 h0)
 exact rsign_zero d w
theorem ne_list {s : ByteArray} (h : 0 < s.size) : s.toList.isEmpty = false := by
 rw [ByteArray.toList_eq]
 obtain ⟨⟨l⟩⟩ := s
 cases l with
 | nil => exact absurd h (by decide)
 | cons _ _ => rfl
theorem size_pos {n : Bool} {s d : ByteArray} (o : OkQ n s d) (h : ¬ qOf n s d = 0) : 0 < s.size := by
 refine Nat.pos_of_ne_zero fun e => h (okq_none o e).2.2
theorem rsign_some {n : Bool} {s d : ByteArray} (o : OkQ n s d) (h : ¬ qOf n s d = 0) : ∃ S : Int, ¬ S = 0 ∧ ∀ w, Calls Tryz.prog 34 #[.agg #[.bool n, .string s, .string d]] w fun e w' => e = .returned (.int .i64 S) ∧ Below w.heap.size w w' := by
 cases n with
 | true => exact ⟨-1, by omega, fun w => rsign_neg s d w⟩
 | false => exact ⟨1, by omega, fun w => rsign_pos s d (ne_list (size_pos o h)) w⟩
theorem rsign_above (x : Rat) (h : 0 < x) (w : World) : Calls Tryz.prog 34 #[.agg #[.bool (nfZ (x).num), .string (sfZ (x).num), .string (strOf (x).den)]] w fun e w' => e = .returned (.int .i64 1) ∧ Below w.heap.size w w' := by
 have h1 := (Q.gt0 x).1 h
 have e : nfZ x.num = false := decide_eq_false (by omega)
 rw [e]
 exact rsign_pos _ _ (ne_list (strOf_pos (by omega))) w
theorem chk_can (x : Rat) {K : Nat} (hK : K ≤ 8000) (b : Bq x K) : chkq (nfZ x.num) (sfZ x.num) (strOf x.den) = 0 :=
 chkq_ok (okQ_qI x) (Nat.le_trans b.1.size hK) (by have := b.2.size; simp at this; omega)
theorem linear_law (n0 n1 n2 n3 n4 n5 : Bool) (s0 d0 s1 d1 s2 d2 s3 d3 s4 d4 s5 d5 : ByteArray) (w : World) (hT : Tab w) :
  Calls Tryz.prog 7 #[.agg #[.bool n0, .string s0, .string d0, .bool n1, .string s1, .string d1], .agg #[.bool n2, .string s2, .string d2, .bool n3, .string s3, .string d3], .agg #[.bool n4, .string s4, .string d4, .bool n5, .string s5, .string d5]] w fun e w' => e = .returned (.bool true) ∧ Below w.heap.size w w' := by
 have HL : Hid (∀ w1, Below w.heap.size w w1 → Calls Tryz.prog 10 #[] w1 fun e w' => e = .returned (.bool true) ∧ Below w1.heap.size w1 w') := fun w1 b => live4_any w1 (hT.below b)
 have S0 := shut (fun w1 => small_any n0 n1 s0 d0 s1 d1 w1)
 have S1 := shut (fun w1 => small_any n2 n3 s2 d2 s3 d3 w1)
 have S2 := shut (fun w1 => small_any n4 n5 s4 d4 s5 d5 w1)
 by_cases h0 : (sh s0 d0 && sh s1 d1) = true
 case neg =>
  rw [Bool.not_eq_true] at h0
  rw [h0] at S0
  exact linear_l1 n0 n1 n2 n3 n4 n5 s0 d0 s1 d1 s2 d2 s3 d3 s4 d4 s5 d5 w HL S0
 rw [h0] at S0
 rw [Bool.and_eq_true] at h0
 have z0 := sh_true h0.1
 have z1 := sh_true h0.2
 by_cases h2 : (sh s2 d2 && sh s3 d3) = true
 case neg =>
  rw [Bool.not_eq_true] at h2
  rw [h2] at S1
  exact linear_l2 n0 n1 n2 n3 n4 n5 s0 d0 s1 d1 s2 d2 s3 d3 s4 d4 s5 d5 w HL S0 S1
 rw [h2] at S1
 rw [Bool.and_eq_true] at h2
 have z2 := sh_true h2.1
 have z3 := sh_true h2.2
 by_cases h4 : (sh s4 d4 && sh s5 d5) = true
 case neg =>
  rw [Bool.not_eq_true] at h4
  rw [h4] at S2
  exact linear_l3 n0 n1 n2 n3 n4 n5 s0 d0 s1 d1 s2 d2 s3 d3 s4 d4 s5 d5 w HL S0 S1 S2
 rw [h4] at S2
 rw [Bool.and_eq_true] at h4
 have z4 := sh_true h4.1
 have z5 := sh_true h4.2
 have HP : Hid (∀ (B : Nat) (w1 : World), Cel w1 B [.bool n0, .string s0, .string d0, .bool n1, .string s1, .string d1, .bool n2, .string s2, .string d2, .bool n3, .string s3, .string d3, .bool n4, .string s4, .string d4, .bool n5, .string s5, .string d5] 28 → _) := fun B w1 k => rpoints3 B n0 n1 n2 n3 n4 n5 s0 d0 s1 d1 s2 d2 s3 d3 s4 d4 s5 d5 w1 k z0 z1 z2 z3 z4 z5
 by_cases hE : two (two (twoq n0 s0 d0 n1 s1 d1) (twoq n2 s2 d2 n3 s3 d3)) (twoq n4 s4 d4 n5 s5 d5) = 0
 case neg => exact linear_l4 n0 n1 n2 n3 n4 n5 s0 d0 s1 d1 s2 d2 s3 d3 s4 d4 s5 d5 _ (by omega) w HL S0 S1 S2 HP
 rw [hE] at HP
 obtain ⟨e01, e2⟩ := two_zero.1 hE
 obtain ⟨e0, e1⟩ := two_zero.1 e01
 have o0 := (chkq_zero (twoq_zero.1 e0).1).1
 have o1 := (chkq_zero (twoq_zero.1 e0).2).1
 have o2 := (chkq_zero (twoq_zero.1 e1).1).1
 have o3 := (chkq_zero (twoq_zero.1 e1).2).1
 have o4 := (chkq_zero (twoq_zero.1 e2).1).1
 have o5 := (chkq_zero (twoq_zero.1 e2).2).1
 have b0 := o0.bq z0.1 z0.2
 have b1 := o1.bq z1.1 z1.2
 have b2 := o2.bq z2.1 z2.2
 have b3 := o3.bq z3.1 z3.2
 have b4 := o4.bq z4.1 z4.2
 have b5 := o5.bq z5.1 z5.2
 have bu := vq_add b0 b2
 have bv := vq_add b1 b3
 have eu : twoq (nfZ (qOf n0 s0 d0 + qOf n2 s2 d2).num) (sfZ (qOf n0 s0 d0 + qOf n2 s2 d2).num) (strOf (qOf n0 s0 d0 + qOf n2 s2 d2).den) (nfZ (qOf n1 s1 d1 + qOf n3 s3 d3).num) (sfZ (qOf n1 s1 d1 + qOf n3 s3 d3).num) (strOf (qOf n1 s1 d1 + qOf n3 s3 d3).den) = 0 := twoq_zero.2 ⟨chk_can _ (by omega) bu, chk_can _ (by omega) bv⟩
 have zu : (sfZ (qOf n0 s0 d0 + qOf n2 s2 d2).num).size ≤ 170 ∧ (strOf (qOf n0 s0 d0 + qOf n2 s2 d2).den).size ≤ 170 := ⟨Nat.le_trans bu.1.size (by omega), by have := bu.2.size; simp at this; omega⟩
 have zv : (sfZ (qOf n1 s1 d1 + qOf n3 s3 d3).num).size ≤ 170 ∧ (strOf (qOf n1 s1 d1 + qOf n3 s3 d3).den).size ≤ 170 := ⟨Nat.le_trans bv.1.size (by omega), by have := bv.2.size; simp at this; omega⟩
 have H1 : Hid (∀ w1, Below w.heap.size w w1 → _) := fun w1 b => vplus_ok n0 n1 n2 n3 s0 d0 s1 d1 s2 d2 s3 d3 w1 (hT.below b) e01 (by omega) (by omega) (by omega) (by omega)
 have H2 : Hid (∀ w1, Below w.heap.size w w1 → _) := fun w1 b => vCross_ok (nfZ (qOf n0 s0 d0 + qOf n2 s2 d2).num) (nfZ (qOf n1 s1 d1 + qOf n3 s3 d3).num) n4 n5 (sfZ (qOf n0 s0 d0 + qOf n2 s2 d2).num) (strOf (qOf n0 s0 d0 + qOf n2 s2 d2).den) (sfZ (qOf n1 s1 d1 + qOf n3 s3 d3).num) (strOf (qOf n1 s1 d1 + qOf n3 s3 d3).den) s4 d4 s5 d5 w1 (hT.below b) (two_zero.2 ⟨eu, e2⟩) zu zv (by omega) (by omega)
 have H3 : Hid (∀ w1, Below w.heap.size w w1 → _) := fun w1 b => vCross_ok n0 n1 n4 n5 s0 d0 s1 d1 s4 d4 s5 d5 w1 (hT.below b) (two_zero.2 ⟨e0, e2⟩) (by omega) (by omega) (by omega) (by omega)
 have H4 : Hid (∀ w1, Below w.heap.size w w1 → _) := fun w1 b => vCross_ok n2 n3 n4 n5 s2 d2 s3 d3 s4 d4 s5 d5 w1 (hT.below b) (two_zero.2 ⟨e1, e2⟩) (by omega) (by omega) (by omega) (by omega)
 have H5 : Hid (∀ w1, Below w.heap.size w w1 → _) := fun w1 b => vCross_ok n4 n5 (nfZ (qOf n0 s0 d0 + qOf n2 s2 d2).num) (nfZ (qOf n1 s1 d1 + qOf n3 s3 d3).num) s4 d4 s5 d5 (sfZ (qOf n0 s0 d0 + qOf n2 s2 d2).num) (strOf (qOf n0 s0 d0 + qOf n2 s2 d2).den) (sfZ (qOf n1 s1 d1 + qOf n3 s3 d3).num) (strOf (qOf n1 s1 d1 + qOf n3 s3 d3).den) w1 (hT.below b) (two_zero.2 ⟨e2, eu⟩) (by omega) (by omega) zu zv
 have H6 : Hid (∀ w1, Below w.heap.size w w1 → _) := fun w1 b => vDot_ok (nfZ (qOf n0 s0 d0 + qOf n2 s2 d2).num) (nfZ (qOf n1 s1 d1 + qOf n3 s3 d3).num) n4 n5 (sfZ (qOf n0 s0 d0 + qOf n2 s2 d2).num) (strOf (qOf n0 s0 d0 + qOf n2 s2 d2).den) (sfZ (qOf n1 s1 d1 + qOf n3 s3 d3).num) (strOf (qOf n1 s1 d1 + qOf n3 s3 d3).den) s4 d4 s5 d5 w1 (hT.below b) (two_zero.2 ⟨eu, e2⟩) zu zv (by omega) (by omega)
 have H7 : Hid (∀ w1, Below w.heap.size w w1 → _) := fun w1 b => vDot_ok n0 n1 n4 n5 s0 d0 s1 d1 s4 d4 s5 d5 w1 (hT.below b) (two_zero.2 ⟨e0, e2⟩) (by omega) (by omega) (by omega) (by omega)
 have H8 : Hid (∀ w1, Below w.heap.size w w1 → _) := fun w1 b => vDot_ok n2 n3 n4 n5 s2 d2 s3 d3 s4 d4 s5 d5 w1 (hT.below b) (two_zero.2 ⟨e1, e2⟩) (by omega) (by omega) (by omega) (by omega)
 have H9 : Hid (∀ w1, Below w.heap.size w w1 → _) := fun w1 b => vNorm_ok n0 n1 s0 d0 s1 d1 w1 (hT.below b) e0 (by omega) (by omega)
 rw [qOf_nz, qOf_nz] at H2 H5 H6
 obtain ⟨K, hK⟩ : ∃ K, K = 2000 := ⟨_, rfl⟩
 have bf := (vq_sub (vq_mul b0 b5) (vq_mul b1 b4)).mono (show _ ≤ K by omega)
 have bg := (vq_sub (vq_mul b2 b5) (vq_mul b3 b4)).mono (show _ ≤ K by omega)
 have by' := (vq_add (vq_mul b0 b4) (vq_mul b1 b5)).mono (show _ ≤ K by omega)
 have bz := (vq_add (vq_mul b2 b4) (vq_mul b3 b5)).mono (show _ ≤ K by omega)
 have K2 : Hid (∀ w1, _) := fun w1 => rsumI (qOf n0 s0 d0 * qOf n5 s5 d5 - qOf n1 s1 d1 * qOf n4 s4 d4) (qOf n2 s2 d2 * qOf n5 s5 d5 - qOf n3 s3 d3 * qOf n4 s4 d4) (by omega) bf bg w1
 have K3 : Hid (∀ w1, _) := fun w1 => rnegI (qOf n4 s4 d4 * (qOf n1 s1 d1 + qOf n3 s3 d3) - qOf n5 s5 d5 * (qOf n0 s0 d0 + qOf n2 s2 d2)) w1
 have K4 : Hid (∀ w1, _) := fun w1 => rsumI (qOf n0 s0 d0 * qOf n4 s4 d4 + qOf n1 s1 d1 * qOf n5 s5 d5) (qOf n2 s2 d2 * qOf n4 s4 d4 + qOf n3 s3 d3 * qOf n5 s5 d5) (by omega) by' bz w1
 rw [show (qOf n0 s0 d0 * qOf n5 s5 d5 - qOf n1 s1 d1 * qOf n4 s4 d4) + (qOf n2 s2 d2 * qOf n5 s5 d5 - qOf n3 s3 d3 * qOf n4 s4 d4) = (qOf n0 s0 d0 + qOf n2 s2 d2) * qOf n5 s5 d5 - (qOf n1 s1 d1 + qOf n3 s3 d3) * qOf n4 s4 d4 by grind] at K2
 rw [show -(qOf n4 s4 d4 * (qOf n1 s1 d1 + qOf n3 s3 d3) - qOf n5 s5 d5 * (qOf n0 s0 d0 + qOf n2 s2 d2)) = (qOf n0 s0 d0 + qOf n2 s2 d2) * qOf n5 s5 d5 - (qOf n1 s1 d1 + qOf n3 s3 d3) * qOf n4 s4 d4 by grind] at K3
 rw [show (qOf n0 s0 d0 * qOf n4 s4 d4 + qOf n1 s1 d1 * qOf n5 s5 d5) + (qOf n2 s2 d2 * qOf n4 s4 d4 + qOf n3 s3 d3 * qOf n5 s5 d5) = (qOf n0 s0 d0 + qOf n2 s2 d2) * qOf n4 s4 d4 + (qOf n1 s1 d1 + qOf n3 s3 d3) * qOf n5 s5 d5 by grind] at K4
 by_cases q0 : qOf n0 s0 d0 = 0
 ·have G0 : Hid (∀ w1, _) := fun w1 => rsign_nil o0 q0 w1
  by_cases q1 : qOf n1 s1 d1 = 0
  ·have G1 : Hid (∀ w1, _) := fun w1 => rsign_nil o1 q1 w1
   have em : qOf n0 s0 d0 * qOf n0 s0 d0 + qOf n1 s1 d1 * qOf n1 s1 d1 = 0 := mm0 q0 q1
   have G2 : Hid (∀ w1, _) := fun w1 => rsign_nil (okQ_qI (qOf n0 s0 d0 * qOf n0 s0 d0 + qOf n1 s1 d1 * qOf n1 s1 d1)) (by rw [qOf_qI]; exact em) w1
   exact linear_ok2 n0 n1 n2 n3 n4 n5 _ _ _ _ _ _ _ _ _ _ s0 d0 s1 d1 s2 d2 s3 d3 s4 d4 s5 d5 _ _ _ _ _ _ _ _ _ _ _ _ _ _ _ _ _ _ _ _ w HL S0 S1 S2 HP H1 H2 H3 H4 H5 H6 H7 H8 H9 K2 K3 K4 G0 G1 G2
  ·obtain ⟨SY, hY, g1⟩ := rsign_some o1 q1
   have G2 : Hid (∀ w1, _) := fun w1 => rsign_above (qOf n0 s0 d0 * qOf n0 s0 d0 + qOf n1 s1 d1 * qOf n1 s1 d1) (sum_pos fun e => q1 e.2) w1
   exact linear_ok1 n0 n1 n2 n3 n4 n5 _ _ _ _ _ _ _ _ _ _ s0 d0 s1 d1 s2 d2 s3 d3 s4 d4 s5 d5 _ _ _ _ _ _ _ _ _ _ _ _ _ _ _ _ _ _ _ _ SY (beq_eq_false_iff_ne.2 hY) w HL S0 S1 S2 HP H1 H2 H3 H4 H5 H6 H7 H8 H9 K2 K3 K4 G0 g1 G2
 ·obtain ⟨SX, hX, g0⟩ := rsign_some o0 q0
  have G2 : Hid (∀ w1, _) := fun w1 => rsign_above (qOf n0 s0 d0 * qOf n0 s0 d0 + qOf n1 s1 d1 * qOf n1 s1 d1) (sum_pos fun e => q0 e.1) w1
  exact linear_ok0 n0 n1 n2 n3 n4 n5 _ _ _ _ _ _ _ _ _ _ s0 d0 s1 d1 s2 d2 s3 d3 s4 d4 s5 d5 _ _ _ _ _ _ _ _ _ _ _ _ _ _ _ _ _ _ _ _ SX hX w HL S0 S1 S2 HP H1 H2 H3 H4 H5 H6 H7 H8 H9 K2 K3 K4 g0 G2
end Go.Proofs.YtlpafjbbeljbhaaGreatDoor
