/-
  Package span: whether points may be asked.
  Package span: points that may be asked; how they turn, and where one lies.
  Package geom, walked.
-/
import Derived.Test.YtgihiaaodkkkbaaGreatDoorK53
namespace Go.Proofs.YtgihiaaodkkkbaaGreatDoor
open Go.RowKit

theorem cel4_0 {w : World} {g : Nat} {x y z u : Value} {t : TypeId} (h : Cel w g [x, y, z, u] t) : w.cell? ⟨g, 0, none⟩ = some x := h.cell 0
theorem cel4_1 {w : World} {g : Nat} {x y z u : Value} {t : TypeId} (h : Cel w g [x, y, z, u] t) : w.cell? ⟨g, 1, none⟩ = some y := h.cell 1
theorem cel4_2 {w : World} {g : Nat} {x y z u : Value} {t : TypeId} (h : Cel w g [x, y, z, u] t) : w.cell? ⟨g, 2, none⟩ = some z := h.cell 2
theorem cel4_3 {w : World} {g : Nat} {x y z u : Value} {t : TypeId} (h : Cel w g [x, y, z, u] t) : w.cell? ⟨g, 3, none⟩ = some u := h.cell 3
set_option maxRecDepth 100000 in
set_option maxHeartbeats 8000000 in
theorem toolong_no (B : Nat) (s0 s1 s2 s3 : ByteArray) (w : World) (h : Cel w B [.string s0, .string s1, .string s2, .string s3] 28) (z0 : s0.size ≤ 100) (z1 : s1.size ≤ 100) (z2 : s2.size ≤ 100) (z3 : s3.size ≤ 100) :
  Calls Tryz.prog 78 #[.slice (some ⟨B, 0, none⟩) 4 4] w fun e w' => e = .returned (.bool false) ∧ Below w.heap.size w w' := by
 have i0 : ¬ (100 : Int) < s0.size := by omega
 have i1 : ¬ (100 : Int) < s1.size := by omega
 have i2 : ¬ (100 : Int) < s2.size := by omega
 have i3 : ¬ (100 : Int) < s3.size := by omega
 go_enter Tryz.func78, Tryz.ntmps78
 go_wp2
 go_loopw [7] (fun i wr => Below w.heap.size w wr ∧ (i = .int .i64 0 ∨ i = .int .i64 1 ∨ i = .int .i64 2 ∨ i = .int .i64 3 ∨ i = .int .i64 4)) (fun i _ => 4 - (intOf i).toNat)
 case atStart => exact ⟨Below.refl _ _, Or.inl rfl⟩
 case round =>
  obtain ⟨bb, hi⟩ := hrel
  have k := h.below bb
  have c0 := cel4_0 k
  have c1 := cel4_1 k
  have c2 := cel4_2 k
  have c3 := cel4_3 k
  clear k
  rcases hi with rfl | rfl | rfl | rfl | rfl
  ·go_wp2
   exact ⟨⟨bb, Or.inr (Or.inl (by go_num))⟩, by simp [intOf]⟩
  ·go_wp2
   exact ⟨⟨bb, Or.inr (Or.inr (Or.inl (by go_num)))⟩, by simp [intOf]⟩
  ·go_wp2
   exact ⟨⟨bb, Or.inr (Or.inr (Or.inr (Or.inl (by go_num))))⟩, by simp [intOf]⟩
  ·go_wp2
   exact ⟨⟨bb, Or.inr (Or.inr (Or.inr (Or.inr (by go_num))))⟩, by simp [intOf]⟩
  ·go_wp2
   go_ret
   exact ⟨rfl, bb⟩
/-- Points in a row. -/
def RdPt (w : World) (a : Option Addr) (n : Nat) (N : Nat → Bool) (S D : Nat → ByteArray) (N' : Nat → Bool) (S' D' : Nat → ByteArray) : Prop :=
 ∀ j, j < n → ∃ b off, a = some ⟨b, off, none⟩ ∧ w.cell? ⟨b, off + j * 6, none⟩ = some (.bool (N j)) ∧ w.cell? ⟨b, off + j * 6 + 1, none⟩ = some (.string (S j)) ∧ w.cell? ⟨b, off + j * 6 + 2, none⟩ = some (.string (D j)) ∧ w.cell? ⟨b, off + j * 6 + 3, none⟩ = some (.bool (N' j)) ∧ w.cell? ⟨b, off + j * 6 + 4, none⟩ = some (.string (S' j)) ∧ w.cell? ⟨b, off + j * 6 + 5, none⟩ = some (.string (D' j))
theorem RdPt.below {w w' : World} {a : Option Addr} {n : Nat} {N N' : Nat → Bool} {S D S' D' : Nat → ByteArray} (h : RdPt w a n N S D N' S' D') (hb : Below w.heap.size w w') : RdPt w' a n N S D N' S' D' := by
 intro j hj
 obtain ⟨b, off, rfl, h0, h1, h2, h3, h4, h5⟩ := h j hj
 exact ⟨b, off, rfl, cell_below h0 hb, cell_below h1 hb, cell_below h2 hb, cell_below h3 hb, cell_below h4 hb, cell_below h5 hb⟩
set_option maxRecDepth 100000 in
set_option maxHeartbeats 8000000 in
theorem scheck_walk (a : Option Addr) (n cap : Nat) (N N' : Nat → Bool) (S D S' D' : Nat → ByteArray) (c : Nat → Nat) (w : World) (hn : n ≤ 1000000) (h : RdPt w a n N S D N' S' D')
  (HZ : Hid (∀ k, k < n → (S k).size ≤ 100 ∧ (D k).size ≤ 100 ∧ (S' k).size ≤ 100 ∧ (D' k).size ≤ 100))
  (HC : Hid (∀ (k : Nat) (w1 : World), k < n → Below w.heap.size w w1 → Calls Tryz.prog 40 #[.agg #[.bool (N k), .string (S k), .string (D k), .bool (N' k), .string (S' k), .string (D' k)]] w1 fun e w' => e = .returned (.int .i64 (c k : Nat)) ∧ Below w1.heap.size w1 w')) :
  Calls Tryz.prog 47 #[.slice a n cap] w fun e w' => e = .returned (.int .i64 (firstE c n : Nat)) ∧ Below w.heap.size w w' := by
 replace h := shut h
 go_enter Tryz.func47, Tryz.ntmps47
 go_wp2
 go_loopw [8] (fun i wr => Below w.heap.size w wr ∧ ∃ k : Nat, k ≤ n ∧ i = .int .i64 k ∧ firstE c k = 0) (fun i _ => n - (intOf i).toNat)
 case atStart => exact ⟨Below.refl _ _, 0, by omega, rfl, rfl⟩
 case round =>
  obtain ⟨bb, k, hk, rfl, hz⟩ := hrel
  by_cases hkn : k < n
  ·obtain ⟨b, off, rfl, h0, h1, h2, h3, h4, h5⟩ := h.out.below bb k hkn
   go_wp2_with fail
   obtain ⟨w1, hw, kp, kq, b1⟩ := mk2 wr [.bool (N k), .string (S k), .string (D k), .bool (N' k), .string (S' k), .string (D' k)] [.string (S k), .string (D k), .string (S' k), .string (D' k)] 39 28
   rw [← hw]
   clear hw
   replace bb := Below.after bb b1
   clear b1 h0 h1 h2 h3 h4 h5
   go_fit (toolong_no _ _ _ _ _ _ kq (HZ.out k hkn).1 (HZ.out k hkn).2.1 (HZ.out k hkn).2.2.1 (HZ.out k hkn).2.2.2)
   rintro e w2 ⟨rfl, b1⟩
   replace kp := kp.below b1
   replace bb := Below.after bb b1
   clear b1 kq
   have c0 := cel6_0 kp
   have c1 := cel6_1 kp
   have c2 := cel6_2 kp
   have c3 := cel6_3 kp
   have c4 := cel6_4 kp
   have c5 := cel6_5 kp
   go_wp2_with fail
   go_fit (HC.out k _ hkn bb)
   rintro e w3 ⟨rfl, b1⟩
   replace bb := Below.after bb b1
   clear b1 c0 c1 c2 c3 c4 c5 kp
   by_cases hc : c k = 0
   ·have hs : firstE c (k + 1) = 0 := by unfold firstE; rw [if_pos hz, hc]
    replace hs := shut hs
    replace hz := shut hz
    rw [hc]
    go_wp2
    exact ⟨⟨bb, k + 1, by omega, by go_num, hs.out⟩, by simp [intOf]; omega⟩
   ·have hs := firstE_stop hz hc n hkn
    replace hs := shut hs
    replace hz := shut hz
    go_wp2
    go_ret
    exact ⟨by rw [hs.out]; rfl, bb⟩
  ·obtain rfl : k = n := by omega
   replace hz := shut hz
   go_wp2
   go_ret
   exact ⟨by rw [hz.out]; rfl, bb⟩
end Go.Proofs.YtgihiaaodkkkbaaGreatDoor
namespace Go.Proofs.YtgihiaaodkkkbaaGreatDoor
open Go.RowKit

theorem rdpt_3 {w : World} {B : Nat} {t : TypeId} {n0 n1 n2 n3 n4 n5 : Bool} {s0 d0 s1 d1 s2 d2 s3 d3 s4 d4 s5 d5 : ByteArray} (h : Cel w B [.bool n0, .string s0, .string d0, .bool n1, .string s1, .string d1, .bool n2, .string s2, .string d2, .bool n3, .string s3, .string d3, .bool n4, .string s4, .string d4, .bool n5, .string s5, .string d5] t) : RdPt w (some ⟨B, 0, none⟩) 3 (f4 n0 n2 n4 n4) (f4 s0 s2 s4 s4) (f4 d0 d2 d4 d4) (f4 n1 n3 n5 n5) (f4 s1 s3 s5 s5) (f4 d1 d3 d5 d5) := by
 intro j hj
 refine ⟨B, 0, rfl, ?_⟩
 match j, hj with
 | 0, _ => exact ⟨h.cell 0, h.cell 1, h.cell 2, h.cell 3, h.cell 4, h.cell 5⟩
 | 1, _ => exact ⟨h.cell 6, h.cell 7, h.cell 8, h.cell 9, h.cell 10, h.cell 11⟩
 | 2, _ => exact ⟨h.cell 12, h.cell 13, h.cell 14, h.cell 15, h.cell 16, h.cell 17⟩
theorem rdpt_4 {w : World} {B : Nat} {t : TypeId} {n0 n1 n2 n3 n4 n5 n6 n7 : Bool} {s0 d0 s1 d1 s2 d2 s3 d3 s4 d4 s5 d5 s6 d6 s7 d7 : ByteArray} (h : Cel w B [.bool n0, .string s0, .string d0, .bool n1, .string s1, .string d1, .bool n2, .string s2, .string d2, .bool n3, .string s3, .string d3, .bool n4, .string s4, .string d4, .bool n5, .string s5, .string d5, .bool n6, .string s6, .string d6, .bool n7, .string s7, .string d7] t) : RdPt w (some ⟨B, 0, none⟩) 4 (f4 n0 n2 n4 n6) (f4 s0 s2 s4 s6) (f4 d0 d2 d4 d6) (f4 n1 n3 n5 n7) (f4 s1 s3 s5 s7) (f4 d1 d3 d5 d7) := by
 intro j hj
 refine ⟨B, 0, rfl, ?_⟩
 match j, hj with
 | 0, _ => exact ⟨h.cell 0, h.cell 1, h.cell 2, h.cell 3, h.cell 4, h.cell 5⟩
 | 1, _ => exact ⟨h.cell 6, h.cell 7, h.cell 8, h.cell 9, h.cell 10, h.cell 11⟩
 | 2, _ => exact ⟨h.cell 12, h.cell 13, h.cell 14, h.cell 15, h.cell 16, h.cell 17⟩
 | 3, _ => exact ⟨h.cell 18, h.cell 19, h.cell 20, h.cell 21, h.cell 22, h.cell 23⟩
theorem scheck3 (B : Nat) (n0 n1 n2 n3 n4 n5 : Bool) (s0 d0 s1 d1 s2 d2 s3 d3 s4 d4 s5 d5 : ByteArray) (w : World) (hT : Tab w) (h : Cel w B [.bool n0, .string s0, .string d0, .bool n1, .string s1, .string d1, .bool n2, .string s2, .string d2, .bool n3, .string s3, .string d3, .bool n4, .string s4, .string d4, .bool n5, .string s5, .string d5] 39) (z0 : s0.size ≤ 100 ∧ d0.size ≤ 100) (z1 : s1.size ≤ 100 ∧ d1.size ≤ 100) (z2 : s2.size ≤ 100 ∧ d2.size ≤ 100) (z3 : s3.size ≤ 100 ∧ d3.size ≤ 100) (z4 : s4.size ≤ 100 ∧ d4.size ≤ 100) (z5 : s5.size ≤ 100 ∧ d5.size ≤ 100) :
  Calls Tryz.prog 47 #[.slice (some ⟨B, 0, none⟩) 3 3] w fun e w' => e = .returned (.int .i64 (two (two (twoq n0 s0 d0 n1 s1 d1) (twoq n2 s2 d2 n3 s3 d3)) (twoq n4 s4 d4 n5 s5 d5) : Nat)) ∧ Below w.heap.size w w' := by
 refine scheck_walk (some ⟨B, 0, none⟩) 3 3 _ _ _ _ _ _ (f4 (twoq n0 s0 d0 n1 s1 d1) (twoq n2 s2 d2 n3 s3 d3) (twoq n4 s4 d4 n5 s5 d5) 0) w (by omega) (rdpt_3 h) (fun j hj => ?_) (fun j w1 hj b => ?_)
 ·match j, hj with
  | 0, _ => exact ⟨z0.1, z0.2, z1.1, z1.2⟩
  | 1, _ => exact ⟨z2.1, z2.2, z3.1, z3.2⟩
  | 2, _ => exact ⟨z4.1, z4.2, z5.1, z5.2⟩
 ·match j, hj with
  | 0, _ => exact vCheck_any n0 n1 s0 d0 s1 d1 w1 (hT.below b)
  | 1, _ => exact vCheck_any n2 n3 s2 d2 s3 d3 w1 (hT.below b)
  | 2, _ => exact vCheck_any n4 n5 s4 d4 s5 d5 w1 (hT.below b)
theorem scheck4 (B : Nat) (n0 n1 n2 n3 n4 n5 n6 n7 : Bool) (s0 d0 s1 d1 s2 d2 s3 d3 s4 d4 s5 d5 s6 d6 s7 d7 : ByteArray) (w : World) (hT : Tab w) (h : Cel w B [.bool n0, .string s0, .string d0, .bool n1, .string s1, .string d1, .bool n2, .string s2, .string d2, .bool n3, .string s3, .string d3, .bool n4, .string s4, .string d4, .bool n5, .string s5, .string d5, .bool n6, .string s6, .string d6, .bool n7, .string s7, .string d7] 39) (z0 : s0.size ≤ 100 ∧ d0.size ≤ 100) (z1 : s1.size ≤ 100 ∧ d1.size ≤ 100) (z2 : s2.size ≤ 100 ∧ d2.size ≤ 100) (z3 : s3.size ≤ 100 ∧ d3.size ≤ 100) (z4 : s4.size ≤ 100 ∧ d4.size ≤ 100) (z5 : s5.size ≤ 100 ∧ d5.size ≤ 100) (z6 : s6.size ≤ 100 ∧ d6.size ≤ 100) (z7 : s7.size ≤ 100 ∧ d7.size ≤ 100) :
  Calls Tryz.prog 47 #[.slice (some ⟨B, 0, none⟩) 4 4] w fun e w' => e = .returned (.int .i64 (two (two (two (twoq n0 s0 d0 n1 s1 d1) (twoq n2 s2 d2 n3 s3 d3)) (twoq n4 s4 d4 n5 s5 d5)) (twoq n6 s6 d6 n7 s7 d7) : Nat)) ∧ Below w.heap.size w w' := by
 refine scheck_walk (some ⟨B, 0, none⟩) 4 4 _ _ _ _ _ _ (f4 (twoq n0 s0 d0 n1 s1 d1) (twoq n2 s2 d2 n3 s3 d3) (twoq n4 s4 d4 n5 s5 d5) (twoq n6 s6 d6 n7 s7 d7)) w (by omega) (rdpt_4 h) (fun j hj => ?_) (fun j w1 hj b => ?_)
 ·match j, hj with
  | 0, _ => exact ⟨z0.1, z0.2, z1.1, z1.2⟩
  | 1, _ => exact ⟨z2.1, z2.2, z3.1, z3.2⟩
  | 2, _ => exact ⟨z4.1, z4.2, z5.1, z5.2⟩
  | 3, _ => exact ⟨z6.1, z6.2, z7.1, z7.2⟩
 ·match j, hj with
  | 0, _ => exact vCheck_any n0 n1 s0 d0 s1 d1 w1 (hT.below b)
  | 1, _ => exact vCheck_any n2 n3 s2 d2 s3 d3 w1 (hT.below b)
  | 2, _ => exact vCheck_any n4 n5 s4 d4 s5 d5 w1 (hT.below b)
  | 3, _ => exact vCheck_any n6 n7 s6 d6 s7 d7 w1 (hT.below b)
theorem sturn_any (n0 n1 n2 n3 n4 n5 : Bool) (s0 d0 s1 d1 s2 d2 s3 d3 s4 d4 s5 d5 : ByteArray) (w : World) (o0 : OkQ n0 s0 d0) (o1 : OkQ n1 s1 d1) (o2 : OkQ n2 s2 d2) (o3 : OkQ n3 s3 d3) (o4 : OkQ n4 s4 d4) (o5 : OkQ n5 s5 d5) (z0 : s0.size ≤ 100 ∧ d0.size ≤ 100) (z1 : s1.size ≤ 100 ∧ d1.size ≤ 100) (z2 : s2.size ≤ 100 ∧ d2.size ≤ 100) (z3 : s3.size ≤ 100 ∧ d3.size ≤ 100) (z4 : s4.size ≤ 100 ∧ d4.size ≤ 100) (z5 : s5.size ≤ 100 ∧ d5.size ≤ 100) :
  Calls Tryz.prog 48 #[.agg #[.bool n0, .string s0, .string d0, .bool n1, .string s1, .string d1], .agg #[.bool n2, .string s2, .string d2, .bool n3, .string s3, .string d3], .agg #[.bool n4, .string s4, .string d4, .bool n5, .string s5, .string d5]] w fun e w' => e = .returned (.int .i64 (Gm.sg (Gm.cr (qOf n0 s0 d0) (qOf n1 s1 d1) (qOf n2 s2 d2) (qOf n3 s3 d3) (qOf n4 s4 d4) (qOf n5 s5 d5)))) ∧ Below w.heap.size w w' :=
 turn_walk n0 n1 n2 n3 n4 n5 s0 d0 s1 d1 s2 d2 s3 d3 s4 d4 s5 d5 _ _ _ _ w (fun w1 => sof_any n0 n1 n2 n3 s0 d0 s1 d1 s2 d2 s3 d3 w1 o0 o1 o2 o3 z0 z1 z2 z3) (fun w1 => sof_any n0 n1 n4 n5 s0 d0 s1 d1 s4 d4 s5 d5 w1 o0 o1 o4 o5 z0 z1 z4 z5)
theorem scircle_any (n0 n1 n2 n3 n4 n5 n6 n7 : Bool) (s0 d0 s1 d1 s2 d2 s3 d3 s4 d4 s5 d5 s6 d6 s7 d7 : ByteArray) (w : World) (o0 : OkQ n0 s0 d0) (o1 : OkQ n1 s1 d1) (o2 : OkQ n2 s2 d2) (o3 : OkQ n3 s3 d3) (o4 : OkQ n4 s4 d4) (o5 : OkQ n5 s5 d5) (o6 : OkQ n6 s6 d6) (o7 : OkQ n7 s7 d7) (z0 : s0.size ≤ 100 ∧ d0.size ≤ 100) (z1 : s1.size ≤ 100 ∧ d1.size ≤ 100) (z2 : s2.size ≤ 100 ∧ d2.size ≤ 100) (z3 : s3.size ≤ 100 ∧ d3.size ≤ 100) (z4 : s4.size ≤ 100 ∧ d4.size ≤ 100) (z5 : s5.size ≤ 100 ∧ d5.size ≤ 100) (z6 : s6.size ≤ 100 ∧ d6.size ≤ 100) (z7 : s7.size ≤ 100 ∧ d7.size ≤ 100) :
  Calls Tryz.prog 50 #[.agg #[.bool n0, .string s0, .string d0, .bool n1, .string s1, .string d1], .agg #[.bool n2, .string s2, .string d2, .bool n3, .string s3, .string d3], .agg #[.bool n4, .string s4, .string d4, .bool n5, .string s5, .string d5], .agg #[.bool n6, .string s6, .string d6, .bool n7, .string s7, .string d7]] w fun e w' => e = .returned (.int .i64 (Gm.sg (Gm.ci (qOf n0 s0 d0) (qOf n1 s1 d1) (qOf n2 s2 d2) (qOf n3 s3 d3) (qOf n4 s4 d4) (qOf n5 s5 d5) (qOf n6 s6 d6) (qOf n7 s7 d7)))) ∧ Below w.heap.size w w' :=
 circle_walk n0 n1 n2 n3 n4 n5 n6 n7 s0 d0 s1 d1 s2 d2 s3 d3 s4 d4 s5 d5 s6 d6 s7 d7 _ _ _ _ _ _ w (fun w1 => sof_any n6 n7 n0 n1 s6 d6 s7 d7 s0 d0 s1 d1 w1 o6 o7 o0 o1 z6 z7 z0 z1) (fun w1 => sof_any n6 n7 n2 n3 s6 d6 s7 d7 s2 d2 s3 d3 w1 o6 o7 o2 o3 z6 z7 z2 z3) (fun w1 => sof_any n6 n7 n4 n5 s6 d6 s7 d7 s4 d4 s5 d5 w1 o6 o7 o4 o5 z6 z7 z4 z5)
theorem sg_small (r : Rat) : Gm.sg r = 0 ∨ Gm.sg r = 1 ∨ Gm.sg r = -1 := by
 rcases Gm.sg_cases r with h | h | h
 ·exact Or.inl h.2
 ·exact Or.inr (Or.inl h.2)
 ·exact Or.inr (Or.inr h.2)
set_option maxRecDepth 100000 in
set_option maxHeartbeats 8000000 in
theorem about_walk (n0 n1 n2 n3 n4 n5 : Bool) (s0 d0 s1 d1 s2 d2 s3 d3 s4 d4 s5 d5 : ByteArray) (x y x' y' : Rat) (w : World)
  (H1 : Hid (∀ w1, Calls Tryz.prog 79 #[.agg #[.bool n4, .string s4, .string d4, .bool n5, .string s5, .string d5], .agg #[.bool n0, .string s0, .string d0, .bool n1, .string s1, .string d1]] w1 fun e w' => ∃ m0 a0 l0 c0 m1 a1 l1 c1 a2 l2 c2 X Y U, e = .returned (.agg #[.bool m0, .slice a0 l0 c0, .bool m1, .slice a1 l1 c1, .bool false, .slice a2 l2 c2]) ∧ NV w' m0 (.slice a0 l0 c0) X 53 ∧ NV w' m1 (.slice a1 l1 c1) Y 53 ∧ NV w' false (.slice a2 l2 c2) U 52 ∧ Gm.Way X Y U x y ∧ Below w1.heap.size w1 w'))
  (H2 : Hid (∀ w1, Calls Tryz.prog 79 #[.agg #[.bool n4, .string s4, .string d4, .bool n5, .string s5, .string d5], .agg #[.bool n2, .string s2, .string d2, .bool n3, .string s3, .string d3]] w1 fun e w' => ∃ m0 a0 l0 c0 m1 a1 l1 c1 a2 l2 c2 X Y U, e = .returned (.agg #[.bool m0, .slice a0 l0 c0, .bool m1, .slice a1 l1 c1, .bool false, .slice a2 l2 c2]) ∧ NV w' m0 (.slice a0 l0 c0) X 53 ∧ NV w' m1 (.slice a1 l1 c1) Y 53 ∧ NV w' false (.slice a2 l2 c2) U 52 ∧ Gm.Way X Y U x' y' ∧ Below w1.heap.size w1 w')) :
  Calls Tryz.prog 49 #[.agg #[.bool n0, .string s0, .string d0, .bool n1, .string s1, .string d1], .agg #[.bool n2, .string s2, .string d2, .bool n3, .string s3, .string d3], .agg #[.bool n4, .string s4, .string d4, .bool n5, .string s5, .string d5]] w fun e w' => e = .returned (.int .i64 (-(Gm.sg (x * x' + y * y')))) ∧ Below w.heap.size w w' := by
 go_enter Tryz.func49, Tryz.ntmps49
 go_wp2_with fail
 obtain ⟨w0, hw, ka, kb, kc, bb⟩ := mk3 w [.bool n0, .string s0, .string d0, .bool n1, .string s1, .string d1] [.bool n2, .string s2, .string d2, .bool n3, .string s3, .string d3] [.bool n4, .string s4, .string d4, .bool n5, .string s5, .string d5] 39 39 39
 rw [← hw]
 clear hw
 have hs := sg_small (x * x' + y * y')
 have hwr : IntKind.i64.wrap (-(Gm.sg (x * x' + y * y'))) = -(Gm.sg (x * x' + y * y')) := by rw [IntKind.wrap_i64]; omega
 clear hs
 generalize hG : Gm.sg (x * x' + y * y') = G at *
 replace hG := shut hG
 have mkS : Hid (∀ w', Cel w' (w.heap.size) [.bool n0, .string s0, .string d0, .bool n1, .string s1, .string d1] 39 → Cel w' (w.heap.size + 1) [.bool n2, .string s2, .string d2, .bool n3, .string s3, .string d3] 39 → Cel w' (w.heap.size + 1 + 1) [.bool n4, .string s4, .string d4, .bool n5, .string s5, .string d5] 39 → (w'.cell? ⟨w.heap.size, 0, none⟩ = some (.bool n0) ∧ w'.cell? ⟨w.heap.size, 1, none⟩ = some (.string s0) ∧ w'.cell? ⟨w.heap.size, 2, none⟩ = some (.string d0) ∧ w'.cell? ⟨w.heap.size, 3, none⟩ = some (.bool n1) ∧ w'.cell? ⟨w.heap.size, 4, none⟩ = some (.string s1) ∧ w'.cell? ⟨w.heap.size, 5, none⟩ = some (.string d1) ∧ w'.cell? ⟨w.heap.size + 1, 0, none⟩ = some (.bool n2) ∧ w'.cell? ⟨w.heap.size + 1, 1, none⟩ = some (.string s2) ∧ w'.cell? ⟨w.heap.size + 1, 2, none⟩ = some (.string d2) ∧ w'.cell? ⟨w.heap.size + 1, 3, none⟩ = some (.bool n3) ∧ w'.cell? ⟨w.heap.size + 1, 4, none⟩ = some (.string s3) ∧ w'.cell? ⟨w.heap.size + 1, 5, none⟩ = some (.string d3) ∧ w'.cell? ⟨w.heap.size + 1 + 1, 0, none⟩ = some (.bool n4) ∧ w'.cell? ⟨w.heap.size + 1 + 1, 1, none⟩ = some (.string s4) ∧ w'.cell? ⟨w.heap.size + 1 + 1, 2, none⟩ = some (.string d4) ∧ w'.cell? ⟨w.heap.size + 1 + 1, 3, none⟩ = some (.bool n5) ∧ w'.cell? ⟨w.heap.size + 1 + 1, 4, none⟩ = some (.string s5) ∧ w'.cell? ⟨w.heap.size + 1 + 1, 5, none⟩ = some (.string d5))) := fun w' ha hb hc => ⟨cel6_0 ha, cel6_1 ha, cel6_2 ha, cel6_3 ha, cel6_4 ha, cel6_5 ha, cel6_0 hb, cel6_1 hb, cel6_2 hb, cel6_3 hb, cel6_4 hb, cel6_5 hb, cel6_0 hc, cel6_1 hc, cel6_2 hc, cel6_3 hc, cel6_4 hc, cel6_5 hc⟩
 go_region_held3 (fun w' => w'.cell? ⟨w.heap.size, 0, none⟩ = some (.bool n0) ∧ w'.cell? ⟨w.heap.size, 1, none⟩ = some (.string s0) ∧ w'.cell? ⟨w.heap.size, 2, none⟩ = some (.string d0) ∧ w'.cell? ⟨w.heap.size, 3, none⟩ = some (.bool n1) ∧ w'.cell? ⟨w.heap.size, 4, none⟩ = some (.string s1) ∧ w'.cell? ⟨w.heap.size, 5, none⟩ = some (.string d1) ∧ w'.cell? ⟨w.heap.size + 1, 0, none⟩ = some (.bool n2) ∧ w'.cell? ⟨w.heap.size + 1, 1, none⟩ = some (.string s2) ∧ w'.cell? ⟨w.heap.size + 1, 2, none⟩ = some (.string d2) ∧ w'.cell? ⟨w.heap.size + 1, 3, none⟩ = some (.bool n3) ∧ w'.cell? ⟨w.heap.size + 1, 4, none⟩ = some (.string s3) ∧ w'.cell? ⟨w.heap.size + 1, 5, none⟩ = some (.string d3) ∧ w'.cell? ⟨w.heap.size + 1 + 1, 0, none⟩ = some (.bool n4) ∧ w'.cell? ⟨w.heap.size + 1 + 1, 1, none⟩ = some (.string s4) ∧ w'.cell? ⟨w.heap.size + 1 + 1, 2, none⟩ = some (.string d4) ∧ w'.cell? ⟨w.heap.size + 1 + 1, 3, none⟩ = some (.bool n5) ∧ w'.cell? ⟨w.heap.size + 1 + 1, 4, none⟩ = some (.string s5) ∧ w'.cell? ⟨w.heap.size + 1 + 1, 5, none⟩ = some (.string d5)) (first | with_reducible exact mkS.out _ ka kb kc | exact mkS.out _ ka kb kc) (first | (go_at_call 79; go_fit (H1.out _); rintro e wn ⟨m0, a0, l0, c0, m1, a1, l1, c1, a2, l2, c2, X, Y, U, rfl, nv0, nv1, nv2, hw0, bn⟩; replace ka := ka.below ⟨bn.os, bn.tape, bn.output, bn.size, bn.block⟩; replace kb := kb.below ⟨bn.os, bn.tape, bn.output, bn.size, bn.block⟩; replace kc := kc.below ⟨bn.os, bn.tape, bn.output, bn.size, bn.block⟩; (try replace nv3 := nv3.below ⟨bn.os, bn.tape, bn.output, bn.size, bn.block⟩); (try replace nv4 := nv4.below ⟨bn.os, bn.tape, bn.output, bn.size, bn.block⟩); (try replace nv6 := nv6.below ⟨bn.os, bn.tape, bn.output, bn.size, bn.block⟩); replace bb := Below.after bb ⟨bn.os, bn.tape, bn.output, bn.size, bn.block⟩) | (go_at_call 79; go_fit (H2.out _); rintro e wn ⟨m3, a3, l3, c3, m4, a4, l4, c4, a5, l5, c5, X', Y', U', rfl, nv3, nv4, nv5, hw1, bn⟩; replace ka := ka.below ⟨bn.os, bn.tape, bn.output, bn.size, bn.block⟩; replace kb := kb.below ⟨bn.os, bn.tape, bn.output, bn.size, bn.block⟩; replace kc := kc.below ⟨bn.os, bn.tape, bn.output, bn.size, bn.block⟩; (try replace nv0 := nv0.below ⟨bn.os, bn.tape, bn.output, bn.size, bn.block⟩); (try replace nv1 := nv1.below ⟨bn.os, bn.tape, bn.output, bn.size, bn.block⟩); (try replace nv6 := nv6.below ⟨bn.os, bn.tape, bn.output, bn.size, bn.block⟩); replace bb := Below.after bb ⟨bn.os, bn.tape, bn.output, bn.size, bn.block⟩) | (go_at_call 82; go_fit (sdot_any _ _ _ _ _ _ _ _ _ _ _ _ _ _ _ _ _ _ _ _ _ _ _ _ X Y X' Y' 53 _ (by omega) ?_ ?_ ?_ ?_); (first | exact nv0 | exact nv0.drew); (first | exact nv1 | exact nv1.drew); (first | exact nv3 | exact nv3.drew); (first | exact nv4 | exact nv4.drew); rintro e wn ⟨m6, v6, rfl, nv6, bn⟩; obtain ⟨a6, l6, c6, rfl⟩ := nv6.slice; replace ka := ka.below ⟨bn.os, bn.tape, bn.output, bn.size, bn.block⟩; replace kb := kb.below ⟨bn.os, bn.tape, bn.output, bn.size, bn.block⟩; replace kc := kc.below ⟨bn.os, bn.tape, bn.output, bn.size, bn.block⟩; (try replace nv0 := nv0.below ⟨bn.os, bn.tape, bn.output, bn.size, bn.block⟩); (try replace nv1 := nv1.below ⟨bn.os, bn.tape, bn.output, bn.size, bn.block⟩); (try replace nv3 := nv3.below ⟨bn.os, bn.tape, bn.output, bn.size, bn.block⟩); (try replace nv4 := nv4.below ⟨bn.os, bn.tape, bn.output, bn.size, bn.block⟩); replace bb := Below.after bb ⟨bn.os, bn.tape, bn.output, bn.size, bn.block⟩) | (go_at_call 81; go_fit (nsign_any _ _ (X * X' + Y * Y') (53 + 53 + 1) _ ?_); (first | exact nv6 | exact nv6.drew); rintro e wn ⟨rfl, bn⟩; rw [Gm.dot_sign hw0 hw1, hG.out]; replace ka := ka.below ⟨bn.os, bn.tape, bn.output, bn.size, bn.block⟩; replace kb := kb.below ⟨bn.os, bn.tape, bn.output, bn.size, bn.block⟩; replace kc := kc.below ⟨bn.os, bn.tape, bn.output, bn.size, bn.block⟩; (try replace nv0 := nv0.below ⟨bn.os, bn.tape, bn.output, bn.size, bn.block⟩); (try replace nv1 := nv1.below ⟨bn.os, bn.tape, bn.output, bn.size, bn.block⟩); (try replace nv3 := nv3.below ⟨bn.os, bn.tape, bn.output, bn.size, bn.block⟩); (try replace nv4 := nv4.below ⟨bn.os, bn.tape, bn.output, bn.size, bn.block⟩); (try replace nv6 := nv6.below ⟨bn.os, bn.tape, bn.output, bn.size, bn.block⟩); replace bb := Below.after bb ⟨bn.os, bn.tape, bn.output, bn.size, bn.block⟩))
 go_wp2
 go_ret
 exact ⟨by rw [hG.out]; rfl, bb⟩
theorem about_any (n0 n1 n2 n3 n4 n5 : Bool) (s0 d0 s1 d1 s2 d2 s3 d3 s4 d4 s5 d5 : ByteArray) (w : World) (o0 : OkQ n0 s0 d0) (o1 : OkQ n1 s1 d1) (o2 : OkQ n2 s2 d2) (o3 : OkQ n3 s3 d3) (o4 : OkQ n4 s4 d4) (o5 : OkQ n5 s5 d5) (z0 : s0.size ≤ 100 ∧ d0.size ≤ 100) (z1 : s1.size ≤ 100 ∧ d1.size ≤ 100) (z2 : s2.size ≤ 100 ∧ d2.size ≤ 100) (z3 : s3.size ≤ 100 ∧ d3.size ≤ 100) (z4 : s4.size ≤ 100 ∧ d4.size ≤ 100) (z5 : s5.size ≤ 100 ∧ d5.size ≤ 100) :
  Calls Tryz.prog 49 #[.agg #[.bool n0, .string s0, .string d0, .bool n1, .string s1, .string d1], .agg #[.bool n2, .string s2, .string d2, .bool n3, .string s3, .string d3], .agg #[.bool n4, .string s4, .string d4, .bool n5, .string s5, .string d5]] w fun e w' => e = .returned (.int .i64 (-(Gm.sg (Gm.dt (qOf n0 s0 d0) (qOf n1 s1 d1) (qOf n2 s2 d2) (qOf n3 s3 d3) (qOf n4 s4 d4) (qOf n5 s5 d5))))) ∧ Below w.heap.size w w' :=
 about_walk n0 n1 n2 n3 n4 n5 s0 d0 s1 d1 s2 d2 s3 d3 s4 d4 s5 d5 _ _ _ _ w (fun w1 => sof_any n4 n5 n0 n1 s4 d4 s5 d5 s0 d0 s1 d1 w1 o4 o5 o0 o1 z4 z5 z0 z1) (fun w1 => sof_any n4 n5 n2 n3 s4 d4 s5 d5 s2 d2 s3 d3 w1 o4 o5 o2 o3 z4 z5 z2 z3)
end Go.Proofs.YtgihiaaodkkkbaaGreatDoor
namespace Go.Proofs.YtgihiaaodkkkbaaGreatDoor
open Go.RowKit

theorem mk5 (w : World) (c0 c1 c2 c3 c4 : List Value) (t0 t1 t2 t3 t4 : TypeId) : ∃ w', w' = ((((w.alloc (.cells c0.toArray t0)).alloc (.cells c1.toArray t1)).alloc (.cells c2.toArray t2)).alloc (.cells c3.toArray t3)).alloc (.cells c4.toArray t4) ∧ Cel w' w.heap.size c0 t0 ∧ Cel w' (w.heap.size + 1) c1 t1 ∧ Cel w' (w.heap.size + 1 + 1) c2 t2 ∧ Cel w' (w.heap.size + 1 + 1 + 1) c3 t3 ∧ Cel w' (w.heap.size + 1 + 1 + 1 + 1) c4 t4 ∧ Below w.heap.size w w' := by
 obtain ⟨v, hv, k0, k1, k2, k3, b⟩ := mk4 w c0 c1 c2 c3 t0 t1 t2 t3
 obtain ⟨u, hu, k4, b'⟩ := mk1 v c4 t4
 have hs : v.heap.size = w.heap.size + 1 + 1 + 1 + 1 := by rw [hv]; simp
 refine ⟨u, by rw [hu, hv], k0.below b', k1.below b', k2.below b', k3.below b', by rw [← hs]; exact k4, Below.after b b'⟩
set_option maxRecDepth 100000 in
set_option maxHeartbeats 8000000 in
theorem gOrient_bad (n0 n1 n2 n3 n4 n5 : Bool) (s0 d0 s1 d1 s2 d2 s3 d3 s4 d4 s5 d5 : ByteArray) (E : Int) (w : World) (hE : ¬ E = 0)
  (HC : Hid (∀ (w1 : World) (B : Nat), Below w.heap.size w w1 → Cel w1 B [.bool n0, .string s0, .string d0, .bool n1, .string s1, .string d1, .bool n2, .string s2, .string d2, .bool n3, .string s3, .string d3, .bool n4, .string s4, .string d4, .bool n5, .string s5, .string d5] 39 → Calls Tryz.prog 47 #[.slice (some ⟨B, 0, none⟩) 3 3] w1 fun e w' => e = .returned (.int .i64 E) ∧ Below w1.heap.size w1 w')) :
  Calls Tryz.prog 18 #[.agg #[.bool n0, .string s0, .string d0, .bool n1, .string s1, .string d1], .agg #[.bool n2, .string s2, .string d2, .bool n3, .string s3, .string d3], .agg #[.bool n4, .string s4, .string d4, .bool n5, .string s5, .string d5]] w fun e w' => e = .returned (.tuple #[.int .i64 0, .int .i64 E]) ∧ Below w.heap.size w w' := by
 go_enter Tryz.func18, Tryz.ntmps18
 go_wp2_with fail
 obtain ⟨w0, hw, ka, kb, kc, kl, bb⟩ := mk4 w [.bool n0, .string s0, .string d0, .bool n1, .string s1, .string d1] [.bool n2, .string s2, .string d2, .bool n3, .string s3, .string d3] [.bool n4, .string s4, .string d4, .bool n5, .string s5, .string d5] [.bool n0, .string s0, .string d0, .bool n1, .string s1, .string d1, .bool n2, .string s2, .string d2, .bool n3, .string s3, .string d3, .bool n4, .string s4, .string d4, .bool n5, .string s5, .string d5] 39 39 39 39
 rw [← hw]
 clear hw
 go_fit (HC.out _ _ bb kl)
 rintro e w1 ⟨rfl, b1⟩
 replace ka := ka.below b1
 replace kb := kb.below b1
 replace kc := kc.below b1
 replace bb := Below.after bb b1
 clear b1 kl
 go_wp2
 go_ret2
 exact ⟨rfl, bb⟩
set_option maxRecDepth 100000 in
set_option maxHeartbeats 8000000 in
theorem gOrient_ok (n0 n1 n2 n3 n4 n5 : Bool) (s0 d0 s1 d1 s2 d2 s3 d3 s4 d4 s5 d5 : ByteArray) (G : Int) (w : World)
  (HC : Hid (∀ (w1 : World) (B : Nat), Below w.heap.size w w1 → Cel w1 B [.bool n0, .string s0, .string d0, .bool n1, .string s1, .string d1, .bool n2, .string s2, .string d2, .bool n3, .string s3, .string d3, .bool n4, .string s4, .string d4, .bool n5, .string s5, .string d5] 39 → Calls Tryz.prog 47 #[.slice (some ⟨B, 0, none⟩) 3 3] w1 fun e w' => e = .returned (.int .i64 0) ∧ Below w1.heap.size w1 w'))
  (H1 : Hid (∀ w1, Calls Tryz.prog 48 #[.agg #[.bool n0, .string s0, .string d0, .bool n1, .string s1, .string d1], .agg #[.bool n2, .string s2, .string d2, .bool n3, .string s3, .string d3], .agg #[.bool n4, .string s4, .string d4, .bool n5, .string s5, .string d5]] w1 fun e w' => e = .returned (.int .i64 (G)) ∧ Below w1.heap.size w1 w')) :
  Calls Tryz.prog 18 #[.agg #[.bool n0, .string s0, .string d0, .bool n1, .string s1, .string d1], .agg #[.bool n2, .string s2, .string d2, .bool n3, .string s3, .string d3], .agg #[.bool n4, .string s4, .string d4, .bool n5, .string s5, .string d5]] w fun e w' => e = .returned (.tuple #[.int .i64 G, .int .i64 0]) ∧ Below w.heap.size w w' := by
 go_enter Tryz.func18, Tryz.ntmps18
 go_wp2_with fail
 obtain ⟨w0, hw, ka, kb, kc, kl, bb⟩ := mk4 w [.bool n0, .string s0, .string d0, .bool n1, .string s1, .string d1] [.bool n2, .string s2, .string d2, .bool n3, .string s3, .string d3] [.bool n4, .string s4, .string d4, .bool n5, .string s5, .string d5] [.bool n0, .string s0, .string d0, .bool n1, .string s1, .string d1, .bool n2, .string s2, .string d2, .bool n3, .string s3, .string d3, .bool n4, .string s4, .string d4, .bool n5, .string s5, .string d5] 39 39 39 39
 rw [← hw]
 clear hw
 go_fit (HC.out _ _ bb kl)
 rintro e w1 ⟨rfl, b1⟩
 replace ka := ka.below b1
 replace kb := kb.below b1
 replace kc := kc.below b1
 replace bb := Below.after bb b1
 clear b1 kl
 have ca0 := cel6_0 ka
 have ca1 := cel6_1 ka
 have ca2 := cel6_2 ka
 have ca3 := cel6_3 ka
 have ca4 := cel6_4 ka
 have ca5 := cel6_5 ka
 have cb0 := cel6_0 kb
 have cb1 := cel6_1 kb
 have cb2 := cel6_2 kb
 have cb3 := cel6_3 kb
 have cb4 := cel6_4 kb
 have cb5 := cel6_5 kb
 have cc0 := cel6_0 kc
 have cc1 := cel6_1 kc
 have cc2 := cel6_2 kc
 have cc3 := cel6_3 kc
 have cc4 := cel6_4 kc
 have cc5 := cel6_5 kc
 go_wp2_with fail
 go_fit (H1.out _)
 rintro e w2 ⟨rfl, b1⟩
 replace bb := Below.after bb b1
 clear ca0 ca1 ca2 ca3 ca4 ca5 cb0 cb1 cb2 cb3 cb4 cb5 cc0 cc1 cc2 cc3 cc4 cc5
 go_wp2
 go_ret2
 exact ⟨rfl, bb⟩
set_option maxRecDepth 100000 in
set_option maxHeartbeats 8000000 in
theorem gDisc_bad (n0 n1 n2 n3 n4 n5 : Bool) (s0 d0 s1 d1 s2 d2 s3 d3 s4 d4 s5 d5 : ByteArray) (E : Int) (w : World) (hE : ¬ E = 0)
  (HC : Hid (∀ (w1 : World) (B : Nat), Below w.heap.size w w1 → Cel w1 B [.bool n0, .string s0, .string d0, .bool n1, .string s1, .string d1, .bool n2, .string s2, .string d2, .bool n3, .string s3, .string d3, .bool n4, .string s4, .string d4, .bool n5, .string s5, .string d5] 39 → Calls Tryz.prog 47 #[.slice (some ⟨B, 0, none⟩) 3 3] w1 fun e w' => e = .returned (.int .i64 E) ∧ Below w1.heap.size w1 w')) :
  Calls Tryz.prog 19 #[.agg #[.bool n0, .string s0, .string d0, .bool n1, .string s1, .string d1], .agg #[.bool n2, .string s2, .string d2, .bool n3, .string s3, .string d3], .agg #[.bool n4, .string s4, .string d4, .bool n5, .string s5, .string d5]] w fun e w' => e = .returned (.tuple #[.int .i64 0, .int .i64 E]) ∧ Below w.heap.size w w' := by
 go_enter Tryz.func19, Tryz.ntmps19
 go_wp2_with fail
 obtain ⟨w0, hw, ka, kb, kc, kl, bb⟩ := mk4 w [.bool n0, .string s0, .string d0, .bool n1, .string s1, .string d1] [.bool n2, .string s2, .string d2, .bool n3, .string s3, .string d3] [.bool n4, .string s4, .string d4, .bool n5, .string s5, .string d5] [.bool n0, .string s0, .string d0, .bool n1, .string s1, .string d1, .bool n2, .string s2, .string d2, .bool n3, .string s3, .string d3, .bool n4, .string s4, .string d4, .bool n5, .string s5, .string d5] 39 39 39 39
 rw [← hw]
 clear hw
 go_fit (HC.out _ _ bb kl)
 rintro e w1 ⟨rfl, b1⟩
 replace ka := ka.below b1
 replace kb := kb.below b1
 replace kc := kc.below b1
 replace bb := Below.after bb b1
 clear b1 kl
 go_wp2
 go_ret2
 exact ⟨rfl, bb⟩
set_option maxRecDepth 100000 in
set_option maxHeartbeats 8000000 in
theorem gDisc_ok (n0 n1 n2 n3 n4 n5 : Bool) (s0 d0 s1 d1 s2 d2 s3 d3 s4 d4 s5 d5 : ByteArray) (G : Int) (w : World)
  (HC : Hid (∀ (w1 : World) (B : Nat), Below w.heap.size w w1 → Cel w1 B [.bool n0, .string s0, .string d0, .bool n1, .string s1, .string d1, .bool n2, .string s2, .string d2, .bool n3, .string s3, .string d3, .bool n4, .string s4, .string d4, .bool n5, .string s5, .string d5] 39 → Calls Tryz.prog 47 #[.slice (some ⟨B, 0, none⟩) 3 3] w1 fun e w' => e = .returned (.int .i64 0) ∧ Below w1.heap.size w1 w'))
  (H1 : Hid (∀ w1, Calls Tryz.prog 49 #[.agg #[.bool n0, .string s0, .string d0, .bool n1, .string s1, .string d1], .agg #[.bool n2, .string s2, .string d2, .bool n3, .string s3, .string d3], .agg #[.bool n4, .string s4, .string d4, .bool n5, .string s5, .string d5]] w1 fun e w' => e = .returned (.int .i64 (G)) ∧ Below w1.heap.size w1 w')) :
  Calls Tryz.prog 19 #[.agg #[.bool n0, .string s0, .string d0, .bool n1, .string s1, .string d1], .agg #[.bool n2, .string s2, .string d2, .bool n3, .string s3, .string d3], .agg #[.bool n4, .string s4, .string d4, .bool n5, .string s5, .string d5]] w fun e w' => e = .returned (.tuple #[.int .i64 G, .int .i64 0]) ∧ Below w.heap.size w w' := by
 go_enter Tryz.func19, Tryz.ntmps19
 go_wp2_with fail
 obtain ⟨w0, hw, ka, kb, kc, kl, bb⟩ := mk4 w [.bool n0, .string s0, .string d0, .bool n1, .string s1, .string d1] [.bool n2, .string s2, .string d2, .bool n3, .string s3, .string d3] [.bool n4, .string s4, .string d4, .bool n5, .string s5, .string d5] [.bool n0, .string s0, .string d0, .bool n1, .string s1, .string d1, .bool n2, .string s2, .string d2, .bool n3, .string s3, .string d3, .bool n4, .string s4, .string d4, .bool n5, .string s5, .string d5] 39 39 39 39
 rw [← hw]
 clear hw
 go_fit (HC.out _ _ bb kl)
 rintro e w1 ⟨rfl, b1⟩
 replace ka := ka.below b1
 replace kb := kb.below b1
 replace kc := kc.below b1
 replace bb := Below.after bb b1
 clear b1 kl
 have ca0 := cel6_0 ka
 have ca1 := cel6_1 ka
 have ca2 := cel6_2 ka
 have ca3 := cel6_3 ka
 have ca4 := cel6_4 ka
 have ca5 := cel6_5 ka
 have cb0 := cel6_0 kb
 have cb1 := cel6_1 kb
 have cb2 := cel6_2 kb
 have cb3 := cel6_3 kb
 have cb4 := cel6_4 kb
 have cb5 := cel6_5 kb
 have cc0 := cel6_0 kc
 have cc1 := cel6_1 kc
 have cc2 := cel6_2 kc
 have cc3 := cel6_3 kc
 have cc4 := cel6_4 kc
 have cc5 := cel6_5 kc
 go_wp2_with fail
 go_fit (H1.out _)
 rintro e w2 ⟨rfl, b1⟩
 replace bb := Below.after bb b1
 clear ca0 ca1 ca2 ca3 ca4 ca5 cb0 cb1 cb2 cb3 cb4 cb5 cc0 cc1 cc2 cc3 cc4 cc5
 go_wp2
 go_ret2
 exact ⟨rfl, bb⟩
set_option maxRecDepth 100000 in
set_option maxHeartbeats 8000000 in
theorem gCircle_bad (n0 n1 n2 n3 n4 n5 n6 n7 : Bool) (s0 d0 s1 d1 s2 d2 s3 d3 s4 d4 s5 d5 s6 d6 s7 d7 : ByteArray) (E : Int) (w : World) (hE : ¬ E = 0)
  (HC : Hid (∀ (w1 : World) (B : Nat), Below w.heap.size w w1 → Cel w1 B [.bool n0, .string s0, .string d0, .bool n1, .string s1, .string d1, .bool n2, .string s2, .string d2, .bool n3, .string s3, .string d3, .bool n4, .string s4, .string d4, .bool n5, .string s5, .string d5, .bool n6, .string s6, .string d6, .bool n7, .string s7, .string d7] 39 → Calls Tryz.prog 47 #[.slice (some ⟨B, 0, none⟩) 4 4] w1 fun e w' => e = .returned (.int .i64 E) ∧ Below w1.heap.size w1 w')) :
  Calls Tryz.prog 20 #[.agg #[.bool n0, .string s0, .string d0, .bool n1, .string s1, .string d1], .agg #[.bool n2, .string s2, .string d2, .bool n3, .string s3, .string d3], .agg #[.bool n4, .string s4, .string d4, .bool n5, .string s5, .string d5], .agg #[.bool n6, .string s6, .string d6, .bool n7, .string s7, .string d7]] w fun e w' => e = .returned (.tuple #[.int .i64 0, .int .i64 E]) ∧ Below w.heap.size w w' := by
 go_enter Tryz.func20, Tryz.ntmps20
 go_wp2_with fail
 obtain ⟨w0, hw, ka, kb, kc, kd, kl, bb⟩ := mk5 w [.bool n0, .string s0, .string d0, .bool n1, .string s1, .string d1] [.bool n2, .string s2, .string d2, .bool n3, .string s3, .string d3] [.bool n4, .string s4, .string d4, .bool n5, .string s5, .string d5] [.bool n6, .string s6, .string d6, .bool n7, .string s7, .string d7] [.bool n0, .string s0, .string d0, .bool n1, .string s1, .string d1, .bool n2, .string s2, .string d2, .bool n3, .string s3, .string d3, .bool n4, .string s4, .string d4, .bool n5, .string s5, .string d5, .bool n6, .string s6, .string d6, .bool n7, .string s7, .string d7] 39 39 39 39 39
 rw [← hw]
 clear hw
 go_fit (HC.out _ _ bb kl)
 rintro e w1 ⟨rfl, b1⟩
 replace ka := ka.below b1
 replace kb := kb.below b1
 replace kc := kc.below b1
 replace kd := kd.below b1
 replace bb := Below.after bb b1
 clear b1 kl
 go_wp2
 go_ret2
 exact ⟨rfl, bb⟩
set_option maxRecDepth 100000 in
set_option maxHeartbeats 8000000 in
theorem gCircle_flat (n0 n1 n2 n3 n4 n5 n6 n7 : Bool) (s0 d0 s1 d1 s2 d2 s3 d3 s4 d4 s5 d5 s6 d6 s7 d7 : ByteArray) (w : World)
  (HC : Hid (∀ (w1 : World) (B : Nat), Below w.heap.size w w1 → Cel w1 B [.bool n0, .string s0, .string d0, .bool n1, .string s1, .string d1, .bool n2, .string s2, .string d2, .bool n3, .string s3, .string d3, .bool n4, .string s4, .string d4, .bool n5, .string s5, .string d5, .bool n6, .string s6, .string d6, .bool n7, .string s7, .string d7] 39 → Calls Tryz.prog 47 #[.slice (some ⟨B, 0, none⟩) 4 4] w1 fun e w' => e = .returned (.int .i64 0) ∧ Below w1.heap.size w1 w'))
  (H1 : Hid (∀ w1, Calls Tryz.prog 48 #[.agg #[.bool n0, .string s0, .string d0, .bool n1, .string s1, .string d1], .agg #[.bool n2, .string s2, .string d2, .bool n3, .string s3, .string d3], .agg #[.bool n4, .string s4, .string d4, .bool n5, .string s5, .string d5]] w1 fun e w' => e = .returned (.int .i64 (0)) ∧ Below w1.heap.size w1 w')) :
  Calls Tryz.prog 20 #[.agg #[.bool n0, .string s0, .string d0, .bool n1, .string s1, .string d1], .agg #[.bool n2, .string s2, .string d2, .bool n3, .string s3, .string d3], .agg #[.bool n4, .string s4, .string d4, .bool n5, .string s5, .string d5], .agg #[.bool n6, .string s6, .string d6, .bool n7, .string s7, .string d7]] w fun e w' => e = .returned (.tuple #[.int .i64 0, .int .i64 6]) ∧ Below w.heap.size w w' := by
 go_enter Tryz.func20, Tryz.ntmps20
 go_wp2_with fail
 obtain ⟨w0, hw, ka, kb, kc, kd, kl, bb⟩ := mk5 w [.bool n0, .string s0, .string d0, .bool n1, .string s1, .string d1] [.bool n2, .string s2, .string d2, .bool n3, .string s3, .string d3] [.bool n4, .string s4, .string d4, .bool n5, .string s5, .string d5] [.bool n6, .string s6, .string d6, .bool n7, .string s7, .string d7] [.bool n0, .string s0, .string d0, .bool n1, .string s1, .string d1, .bool n2, .string s2, .string d2, .bool n3, .string s3, .string d3, .bool n4, .string s4, .string d4, .bool n5, .string s5, .string d5, .bool n6, .string s6, .string d6, .bool n7, .string s7, .string d7] 39 39 39 39 39
 rw [← hw]
 clear hw
 go_fit (HC.out _ _ bb kl)
 rintro e w1 ⟨rfl, b1⟩
 replace ka := ka.below b1
 replace kb := kb.below b1
 replace kc := kc.below b1
 replace kd := kd.below b1
 replace bb := Below.after bb b1
 clear b1 kl
 have ca0 := cel6_0 ka
 have ca1 := cel6_1 ka
 have ca2 := cel6_2 ka
 have ca3 := cel6_3 ka
 have ca4 := cel6_4 ka
 have ca5 := cel6_5 ka
 have cb0 := cel6_0 kb
 have cb1 := cel6_1 kb
 have cb2 := cel6_2 kb
 have cb3 := cel6_3 kb
 have cb4 := cel6_4 kb
 have cb5 := cel6_5 kb
 have cc0 := cel6_0 kc
 have cc1 := cel6_1 kc
 have cc2 := cel6_2 kc
 have cc3 := cel6_3 kc
 have cc4 := cel6_4 kc
 have cc5 := cel6_5 kc
 go_wp2_with fail
 go_fit (H1.out _)
 rintro e w2 ⟨rfl, b1⟩
 replace bb := Below.after bb b1
 clear ca0 ca1 ca2 ca3 ca4 ca5 cb0 cb1 cb2 cb3 cb4 cb5 cc0 cc1 cc2 cc3 cc4 cc5
 go_wp2
 go_ret2
 exact ⟨rfl, bb⟩
set_option maxRecDepth 100000 in
set_option maxHeartbeats 8000000 in
theorem gCircle_ok (n0 n1 n2 n3 n4 n5 n6 n7 : Bool) (s0 d0 s1 d1 s2 d2 s3 d3 s4 d4 s5 d5 s6 d6 s7 d7 : ByteArray) (G T : Int) (w : World) (hG : ¬ G = 0) (hw2 : IntKind.i64.wrap (G * T) = G * T)
  (HC : Hid (∀ (w1 : World) (B : Nat), Below w.heap.size w w1 → Cel w1 B [.bool n0, .string s0, .string d0, .bool n1, .string s1, .string d1, .bool n2, .string s2, .string d2, .bool n3, .string s3, .string d3, .bool n4, .string s4, .string d4, .bool n5, .string s5, .string d5, .bool n6, .string s6, .string d6, .bool n7, .string s7, .string d7] 39 → Calls Tryz.prog 47 #[.slice (some ⟨B, 0, none⟩) 4 4] w1 fun e w' => e = .returned (.int .i64 0) ∧ Below w1.heap.size w1 w'))
  (H1 : Hid (∀ w1, Calls Tryz.prog 48 #[.agg #[.bool n0, .string s0, .string d0, .bool n1, .string s1, .string d1], .agg #[.bool n2, .string s2, .string d2, .bool n3, .string s3, .string d3], .agg #[.bool n4, .string s4, .string d4, .bool n5, .string s5, .string d5]] w1 fun e w' => e = .returned (.int .i64 (G)) ∧ Below w1.heap.size w1 w'))
  (H2 : Hid (∀ w1, Calls Tryz.prog 50 #[.agg #[.bool n0, .string s0, .string d0, .bool n1, .string s1, .string d1], .agg #[.bool n2, .string s2, .string d2, .bool n3, .string s3, .string d3], .agg #[.bool n4, .string s4, .string d4, .bool n5, .string s5, .string d5], .agg #[.bool n6, .string s6, .string d6, .bool n7, .string s7, .string d7]] w1 fun e w' => e = .returned (.int .i64 (T)) ∧ Below w1.heap.size w1 w')) :
  Calls Tryz.prog 20 #[.agg #[.bool n0, .string s0, .string d0, .bool n1, .string s1, .string d1], .agg #[.bool n2, .string s2, .string d2, .bool n3, .string s3, .string d3], .agg #[.bool n4, .string s4, .string d4, .bool n5, .string s5, .string d5], .agg #[.bool n6, .string s6, .string d6, .bool n7, .string s7, .string d7]] w fun e w' => e = .returned (.tuple #[.int .i64 (G * T), .int .i64 0]) ∧ Below w.heap.size w w' := by
 go_enter Tryz.func20, Tryz.ntmps20
 go_wp2_with fail
 obtain ⟨w0, hw, ka, kb, kc, kd, kl, bb⟩ := mk5 w [.bool n0, .string s0, .string d0, .bool n1, .string s1, .string d1] [.bool n2, .string s2, .string d2, .bool n3, .string s3, .string d3] [.bool n4, .string s4, .string d4, .bool n5, .string s5, .string d5] [.bool n6, .string s6, .string d6, .bool n7, .string s7, .string d7] [.bool n0, .string s0, .string d0, .bool n1, .string s1, .string d1, .bool n2, .string s2, .string d2, .bool n3, .string s3, .string d3, .bool n4, .string s4, .string d4, .bool n5, .string s5, .string d5, .bool n6, .string s6, .string d6, .bool n7, .string s7, .string d7] 39 39 39 39 39
 rw [← hw]
 clear hw
 go_fit (HC.out _ _ bb kl)
 rintro e w1 ⟨rfl, b1⟩
 replace ka := ka.below b1
 replace kb := kb.below b1
 replace kc := kc.below b1
 replace kd := kd.below b1
 replace bb := Below.after bb b1
 clear b1 kl
 have ca0 := cel6_0 ka
 have ca1 := cel6_1 ka
 have ca2 := cel6_2 ka
 have ca3 := cel6_3 ka
 have ca4 := cel6_4 ka
 have ca5 := cel6_5 ka
 have cb0 := cel6_0 kb
 have cb1 := cel6_1 kb
 have cb2 := cel6_2 kb
 have cb3 := cel6_3 kb
 have cb4 := cel6_4 kb
 have cb5 := cel6_5 kb
 have cc0 := cel6_0 kc
 have cc1 := cel6_1 kc
 have cc2 := cel6_2 kc
 have cc3 := cel6_3 kc
 have cc4 := cel6_4 kc
 have cc5 := cel6_5 kc
 go_wp2_with fail
 go_fit (H1.out _)
 rintro e w2 ⟨rfl, b1⟩
 replace ka := ka.below b1
 replace kb := kb.below b1
 replace kc := kc.below b1
 replace kd := kd.below b1
 replace bb := Below.after bb b1
 clear b1
 clear ca0 ca1 ca2 ca3 ca4 ca5 cb0 cb1 cb2 cb3 cb4 cb5 cc0 cc1 cc2 cc3 cc4 cc5
 have ca0 := cel6_0 ka
 have ca1 := cel6_1 ka
 have ca2 := cel6_2 ka
 have ca3 := cel6_3 ka
 have ca4 := cel6_4 ka
 have ca5 := cel6_5 ka
 have cb0 := cel6_0 kb
 have cb1 := cel6_1 kb
 have cb2 := cel6_2 kb
 have cb3 := cel6_3 kb
 have cb4 := cel6_4 kb
 have cb5 := cel6_5 kb
 have cc0 := cel6_0 kc
 have cc1 := cel6_1 kc
 have cc2 := cel6_2 kc
 have cc3 := cel6_3 kc
 have cc4 := cel6_4 kc
 have cc5 := cel6_5 kc
 have cd0 := cel6_0 kd
 have cd1 := cel6_1 kd
 have cd2 := cel6_2 kd
 have cd3 := cel6_3 kd
 have cd4 := cel6_4 kd
 have cd5 := cel6_5 kd
 go_wp2_with fail
 go_fit (H2.out _)
 rintro e w3 ⟨rfl, b1⟩
 replace bb := Below.after bb b1
 clear ca0 ca1 ca2 ca3 ca4 ca5 cb0 cb1 cb2 cb3 cb4 cb5 cc0 cc1 cc2 cc3 cc4 cc5 cd0 cd1 cd2 cd3 cd4 cd5
 go_wp2
 go_ret2
 exact ⟨rfl, bb⟩
end Go.Proofs.YtgihiaaodkkkbaaGreatDoor
