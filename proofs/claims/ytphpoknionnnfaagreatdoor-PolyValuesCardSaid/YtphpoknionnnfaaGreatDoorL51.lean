/-
  gussetlaw07: PolyValues, walked.
-/
import Derived.Test.YtphpoknionnnfaaGreatDoorL43
set_option maxRecDepth 100000
set_option maxHeartbeats 16000000
namespace Go.Proofs.YtphpoknionnnfaaGreatDoor
open Go.RowKit
theorem values_l (N : Nat → Bool) (S D : Nat → ByteArray) (p0 p1 : Bool) (q0 r0 q1 r1 : ByteArray) (w : World)
  (HF : Hid (∀ w1, Below w.heap.size w w1 → Calls Tryz.prog 8 #[.agg #[.bool (N 0), .string (S 0), .string (D 0), .bool (N 1), .string (S 1), .string (D 1), .bool (N 2), .string (S 2), .string (D 2), .bool (N 3), .string (S 3), .string (D 3), .bool (N 4), .string (S 4), .string (D 4), .bool (N 5), .string (S 5), .string (D 5)], .agg #[.bool p0, .string q0, .string r0, .bool p1, .string q1, .string r1, .bool p0, .string q0, .string r0, .bool p1, .string q1, .string r1, .bool p0, .string q0, .string r0, .bool p1, .string q1, .string r1]] w1 (Re w1 (.bool false))))
  (HL : Hid (∀ w1, Below w.heap.size w w1 → Calls Tryz.prog 9 #[] w1 (Re w1 (.bool true)))) :
  Calls Tryz.prog 3 #[.agg #[.bool (N 0), .string (S 0), .string (D 0), .bool (N 1), .string (S 1), .string (D 1), .bool (N 2), .string (S 2), .string (D 2), .bool (N 3), .string (S 3), .string (D 3), .bool (N 4), .string (S 4), .string (D 4), .bool (N 5), .string (S 5), .string (D 5)], .agg #[.bool p0, .string q0, .string r0, .bool p1, .string q1, .string r1]] w (Re w (.bool true)) := by
 go_enter Tryz.func3, Tryz.ntmps3
 go_upto_region 1 with fail
 obtain ⟨w0, hq, kf, kp, bb⟩ := mk2 w [.bool (N 0), .string (S 0), .string (D 0), .bool (N 1), .string (S 1), .string (D 1), .bool (N 2), .string (S 2), .string (D 2), .bool (N 3), .string (S 3), .string (D 3), .bool (N 4), .string (S 4), .string (D 4), .bool (N 5), .string (S 5), .string (D 5)] [.bool p0, .string q0, .string r0, .bool p1, .string q1, .string r1] 28 30
 rw [← hq]
 clear hq
 obtain ⟨x0, x1, x2, x3, x4, x5⟩ := xk6 kp
 go_wp2_with (refine wpList_load_row rfl 28 _ rfl _ rfl 28 _ (0, 0) _ kf Tryz.underlying28 rfl (by kernel_rfl) ?_)
 clear x0 x1 x2 x3 x4 x5
 go_fit (HF.out _ bb)
 rintro e w1 ⟨rfl, b1⟩
 replace kf := kf.below b1
 replace kp := kp.below b1
 replace bb := Below.after bb b1
 clear b1
 clear kf kp
 go_wp2_with fail
 go_fit (HL.out _ bb)
 rintro e w2 ⟨rfl, b1⟩
 replace bb := Below.after bb b1
 clear b1
 go_wp2
 go_ret
 exact ⟨rfl, bb⟩
theorem values_b1 (N : Nat → Bool) (S D : Nat → ByteArray) (p0 p1 : Bool) (q0 r0 q1 r1 : ByteArray) (E : Int) (hE : ¬ E = 0) (w : World)
  (HF : Hid (∀ w1, Below w.heap.size w w1 → Calls Tryz.prog 8 #[.agg #[.bool (N 0), .string (S 0), .string (D 0), .bool (N 1), .string (S 1), .string (D 1), .bool (N 2), .string (S 2), .string (D 2), .bool (N 3), .string (S 3), .string (D 3), .bool (N 4), .string (S 4), .string (D 4), .bool (N 5), .string (S 5), .string (D 5)], .agg #[.bool p0, .string q0, .string r0, .bool p1, .string q1, .string r1, .bool p0, .string q0, .string r0, .bool p1, .string q1, .string r1, .bool p0, .string q0, .string r0, .bool p1, .string q1, .string r1]] w1 (Re w1 (.bool true))))
  (HL : Hid (∀ w1, Below w.heap.size w w1 → Calls Tryz.prog 9 #[] w1 (Re w1 (.bool true))))
  (HE : Hid (∀ w1, Below w.heap.size w w1 → Calls Tryz.prog 10 #[.agg #[.bool (N 0), .string (S 0), .string (D 0), .bool (N 1), .string (S 1), .string (D 1), .bool (N 2), .string (S 2), .string (D 2), .bool (N 3), .string (S 3), .string (D 3), .bool (N 4), .string (S 4), .string (D 4), .bool (N 5), .string (S 5), .string (D 5)], .agg #[.bool p0, .string q0, .string r0, .bool p1, .string q1, .string r1]] w1 (Re w1 (.tuple #[.agg #[.bool false, .string { data := #[] }, .string { data := #[] }], .int .i64 E]))))
  (HR : Hid (∀ w1, Below w.heap.size w w1 → Calls Tryz.prog 11 #[.agg #[.bool (N 0), .string (S 0), .string (D 0), .bool (N 1), .string (S 1), .string (D 1), .bool (N 2), .string (S 2), .string (D 2), .bool (N 3), .string (S 3), .string (D 3), .bool (N 4), .string (S 4), .string (D 4), .bool (N 5), .string (S 5), .string (D 5)]] w1 (Re w1 (.int .i64 E))))
  (HC : Hid (∀ w1, Below w.heap.size w w1 → Calls Tryz.prog 12 #[.agg #[.bool (N 0), .string (S 0), .string (D 0), .bool (N 1), .string (S 1), .string (D 1), .bool (N 2), .string (S 2), .string (D 2), .bool (N 3), .string (S 3), .string (D 3), .bool (N 4), .string (S 4), .string (D 4), .bool (N 5), .string (S 5), .string (D 5)]] w1 (Re w1 (.int .i64 E)))) :
  Calls Tryz.prog 3 #[.agg #[.bool (N 0), .string (S 0), .string (D 0), .bool (N 1), .string (S 1), .string (D 1), .bool (N 2), .string (S 2), .string (D 2), .bool (N 3), .string (S 3), .string (D 3), .bool (N 4), .string (S 4), .string (D 4), .bool (N 5), .string (S 5), .string (D 5)], .agg #[.bool p0, .string q0, .string r0, .bool p1, .string q1, .string r1]] w (Re w (.bool true)) := by
 go_enter Tryz.func3, Tryz.ntmps3
 go_upto_region 1 with fail
 obtain ⟨w0, hq, kf, kp, bb⟩ := mk2 w [.bool (N 0), .string (S 0), .string (D 0), .bool (N 1), .string (S 1), .string (D 1), .bool (N 2), .string (S 2), .string (D 2), .bool (N 3), .string (S 3), .string (D 3), .bool (N 4), .string (S 4), .string (D 4), .bool (N 5), .string (S 5), .string (D 5)] [.bool p0, .string q0, .string r0, .bool p1, .string q1, .string r1] 28 30
 rw [← hq]
 clear hq
 obtain ⟨x0, x1, x2, x3, x4, x5⟩ := xk6 kp
 go_wp2_with (refine wpList_load_row rfl 28 _ rfl _ rfl 28 _ (0, 0) _ kf Tryz.underlying28 rfl (by kernel_rfl) ?_)
 clear x0 x1 x2 x3 x4 x5
 go_fit (HF.out _ bb)
 rintro e w1 ⟨rfl, b1⟩
 replace kf := kf.below b1
 replace kp := kp.below b1
 replace bb := Below.after bb b1
 clear b1
 obtain ⟨x0, x1, x2, x3, x4, x5⟩ := xk6 kp
 go_wp2_with (refine wpList_load_row rfl 28 _ rfl _ rfl 28 _ (0, 0) _ kf Tryz.underlying28 rfl (by kernel_rfl) ?_)
 clear x0 x1 x2 x3 x4 x5
 go_fit (HE.out _ bb)
 rintro e w2 ⟨rfl, b1⟩
 replace kf := kf.below b1
 replace kp := kp.below b1
 replace bb := Below.after bb b1
 clear b1
 go_upto_region 4 with fail
 obtain ⟨w3, hq, ka, b1⟩ := mk1 w2 [.bool false, .string { data := #[] }, .string { data := #[] }] 26
 rw [← hq]
 clear hq
 replace kf := kf.below b1
 replace kp := kp.below b1
 replace bb := Below.after bb b1
 clear b1
 go_wp2_with (refine wpList_load_row rfl 28 _ rfl _ rfl 28 _ (0, 0) _ kf Tryz.underlying28 rfl (by kernel_rfl) ?_)
 go_fit (HR.out _ bb)
 rintro e w4 ⟨rfl, b1⟩
 replace kf := kf.below b1
 replace kp := kp.below b1
 replace ka := ka.below b1
 replace bb := Below.after bb b1
 clear b1
 go_wp2_with (refine wpList_load_row rfl 28 _ rfl _ rfl 28 _ (0, 0) _ kf Tryz.underlying28 rfl (by kernel_rfl) ?_)
 go_fit (HC.out _ bb)
 rintro e w5 ⟨rfl, b1⟩
 replace kf := kf.below b1
 replace kp := kp.below b1
 replace ka := ka.below b1
 replace bb := Below.after bb b1
 clear b1
 clear kf kp
 obtain ⟨y0, y1, y2⟩ := xk3 ka
 go_wp2_with fail
 clear y0 y1 y2 ka
 go_fit (HL.out _ bb)
 rintro e w7 ⟨rfl, b1⟩
 replace bb := Below.after bb b1
 clear b1
 go_wp2
 go_ret
 exact ⟨rfl, bb⟩
theorem values_b2 (N : Nat → Bool) (S D : Nat → ByteArray) (p0 p1 : Bool) (q0 r0 q1 r1 : ByteArray) (E : Int) (hE : ¬ E = 0) (w : World)
  (HF : Hid (∀ w1, Below w.heap.size w w1 → Calls Tryz.prog 8 #[.agg #[.bool (N 0), .string (S 0), .string (D 0), .bool (N 1), .string (S 1), .string (D 1), .bool (N 2), .string (S 2), .string (D 2), .bool (N 3), .string (S 3), .string (D 3), .bool (N 4), .string (S 4), .string (D 4), .bool (N 5), .string (S 5), .string (D 5)], .agg #[.bool p0, .string q0, .string r0, .bool p1, .string q1, .string r1, .bool p0, .string q0, .string r0, .bool p1, .string q1, .string r1, .bool p0, .string q0, .string r0, .bool p1, .string q1, .string r1]] w1 (Re w1 (.bool true))))
  (HL : Hid (∀ w1, Below w.heap.size w w1 → Calls Tryz.prog 9 #[] w1 (Re w1 (.bool true))))
  (HE : Hid (∀ w1, Below w.heap.size w w1 → Calls Tryz.prog 10 #[.agg #[.bool (N 0), .string (S 0), .string (D 0), .bool (N 1), .string (S 1), .string (D 1), .bool (N 2), .string (S 2), .string (D 2), .bool (N 3), .string (S 3), .string (D 3), .bool (N 4), .string (S 4), .string (D 4), .bool (N 5), .string (S 5), .string (D 5)], .agg #[.bool p0, .string q0, .string r0, .bool p1, .string q1, .string r1]] w1 (Re w1 (.tuple #[.agg #[.bool false, .string { data := #[] }, .string { data := #[] }], .int .i64 E]))))
  (HR : Hid (∀ w1, Below w.heap.size w w1 → Calls Tryz.prog 11 #[.agg #[.bool (N 0), .string (S 0), .string (D 0), .bool (N 1), .string (S 1), .string (D 1), .bool (N 2), .string (S 2), .string (D 2), .bool (N 3), .string (S 3), .string (D 3), .bool (N 4), .string (S 4), .string (D 4), .bool (N 5), .string (S 5), .string (D 5)]] w1 (Re w1 (.int .i64 0))))
  (HC : Hid (∀ w1, Below w.heap.size w w1 → Calls Tryz.prog 12 #[.agg #[.bool (N 0), .string (S 0), .string (D 0), .bool (N 1), .string (S 1), .string (D 1), .bool (N 2), .string (S 2), .string (D 2), .bool (N 3), .string (S 3), .string (D 3), .bool (N 4), .string (S 4), .string (D 4), .bool (N 5), .string (S 5), .string (D 5)]] w1 (Re w1 (.int .i64 0))))
  (HA : Hid (∀ w1 B, Below w.heap.size w w1 → Cel w1 B [.bool p0, .string q0, .string r0, .bool p1, .string q1, .string r1] 30 → Calls Tryz.prog 13 #[.slice (some ⟨B, 0, none⟩) 1 1] w1 (Re w1 (.int .i64 E)))) :
  Calls Tryz.prog 3 #[.agg #[.bool (N 0), .string (S 0), .string (D 0), .bool (N 1), .string (S 1), .string (D 1), .bool (N 2), .string (S 2), .string (D 2), .bool (N 3), .string (S 3), .string (D 3), .bool (N 4), .string (S 4), .string (D 4), .bool (N 5), .string (S 5), .string (D 5)], .agg #[.bool p0, .string q0, .string r0, .bool p1, .string q1, .string r1]] w (Re w (.bool true)) := by
 go_enter Tryz.func3, Tryz.ntmps3
 go_upto_region 1 with fail
 obtain ⟨w0, hq, kf, kp, bb⟩ := mk2 w [.bool (N 0), .string (S 0), .string (D 0), .bool (N 1), .string (S 1), .string (D 1), .bool (N 2), .string (S 2), .string (D 2), .bool (N 3), .string (S 3), .string (D 3), .bool (N 4), .string (S 4), .string (D 4), .bool (N 5), .string (S 5), .string (D 5)] [.bool p0, .string q0, .string r0, .bool p1, .string q1, .string r1] 28 30
 rw [← hq]
 clear hq
 obtain ⟨x0, x1, x2, x3, x4, x5⟩ := xk6 kp
 go_wp2_with (refine wpList_load_row rfl 28 _ rfl _ rfl 28 _ (0, 0) _ kf Tryz.underlying28 rfl (by kernel_rfl) ?_)
 clear x0 x1 x2 x3 x4 x5
 go_fit (HF.out _ bb)
 rintro e w1 ⟨rfl, b1⟩
 replace kf := kf.below b1
 replace kp := kp.below b1
 replace bb := Below.after bb b1
 clear b1
 obtain ⟨x0, x1, x2, x3, x4, x5⟩ := xk6 kp
 go_wp2_with (refine wpList_load_row rfl 28 _ rfl _ rfl 28 _ (0, 0) _ kf Tryz.underlying28 rfl (by kernel_rfl) ?_)
 clear x0 x1 x2 x3 x4 x5
 go_fit (HE.out _ bb)
 rintro e w2 ⟨rfl, b1⟩
 replace kf := kf.below b1
 replace kp := kp.below b1
 replace bb := Below.after bb b1
 clear b1
 go_upto_region 4 with fail
 obtain ⟨w3, hq, ka, b1⟩ := mk1 w2 [.bool false, .string { data := #[] }, .string { data := #[] }] 26
 rw [← hq]
 clear hq
 replace kf := kf.below b1
 replace kp := kp.below b1
 replace bb := Below.after bb b1
 clear b1
 go_wp2_with (refine wpList_load_row rfl 28 _ rfl _ rfl 28 _ (0, 0) _ kf Tryz.underlying28 rfl (by kernel_rfl) ?_)
 go_fit (HR.out _ bb)
 rintro e w4 ⟨rfl, b1⟩
 replace kf := kf.below b1
 replace kp := kp.below b1
 replace ka := ka.below b1
 replace bb := Below.after bb b1
 clear b1
 go_wp2_with (refine wpList_load_row rfl 28 _ rfl _ rfl 28 _ (0, 0) _ kf Tryz.underlying28 rfl (by kernel_rfl) ?_)
 go_fit (HC.out _ bb)
 rintro e w5 ⟨rfl, b1⟩
 replace kf := kf.below b1
 replace kp := kp.below b1
 replace ka := ka.below b1
 replace bb := Below.after bb b1
 clear b1
 obtain ⟨x0, x1, x2, x3, x4, x5⟩ := xk6 kp
 go_wp2_with fail
 clear x0 x1 x2 x3 x4 x5
 obtain ⟨w5', hq, kl, b1⟩ := mk1 w5 [.bool p0, .string q0, .string r0, .bool p1, .string q1, .string r1] 30
 rw [← hq]
 clear hq
 replace kf := kf.below b1
 replace kp := kp.below b1
 replace ka := ka.below b1
 replace bb := Below.after bb b1
 clear b1
 go_fit (HA.out _ _ bb kl)
 rintro e w6 ⟨rfl, b1⟩
 clear kl
 replace kf := kf.below b1
 replace kp := kp.below b1
 replace ka := ka.below b1
 replace bb := Below.after bb b1
 clear b1
 clear kf kp
 obtain ⟨y0, y1, y2⟩ := xk3 ka
 go_wp2_with fail
 clear y0 y1 y2 ka
 go_fit (HL.out _ bb)
 rintro e w7 ⟨rfl, b1⟩
 replace bb := Below.after bb b1
 clear b1
 go_wp2
 go_ret
 exact ⟨rfl, bb⟩
theorem values_ok (N : Nat → Bool) (S D : Nat → ByteArray) (p0 p1 : Bool) (q0 r0 q1 r1 : ByteArray) (xN : Bool) (xS xD : ByteArray) (w : World)
  (HF : Hid (∀ w1, Below w.heap.size w w1 → Calls Tryz.prog 8 #[.agg #[.bool (N 0), .string (S 0), .string (D 0), .bool (N 1), .string (S 1), .string (D 1), .bool (N 2), .string (S 2), .string (D 2), .bool (N 3), .string (S 3), .string (D 3), .bool (N 4), .string (S 4), .string (D 4), .bool (N 5), .string (S 5), .string (D 5)], .agg #[.bool p0, .string q0, .string r0, .bool p1, .string q1, .string r1, .bool p0, .string q0, .string r0, .bool p1, .string q1, .string r1, .bool p0, .string q0, .string r0, .bool p1, .string q1, .string r1]] w1 (Re w1 (.bool true))))
  (HL : Hid (∀ w1, Below w.heap.size w w1 → Calls Tryz.prog 9 #[] w1 (Re w1 (.bool true))))
  (HE : Hid (∀ w1, Below w.heap.size w w1 → Calls Tryz.prog 10 #[.agg #[.bool (N 0), .string (S 0), .string (D 0), .bool (N 1), .string (S 1), .string (D 1), .bool (N 2), .string (S 2), .string (D 2), .bool (N 3), .string (S 3), .string (D 3), .bool (N 4), .string (S 4), .string (D 4), .bool (N 5), .string (S 5), .string (D 5)], .agg #[.bool p0, .string q0, .string r0, .bool p1, .string q1, .string r1]] w1 (Re w1 (.tuple #[.agg #[.bool xN, .string xS, .string xD], .int .i64 0]))))
  (HR : Hid (∀ w1, Below w.heap.size w w1 → Calls Tryz.prog 11 #[.agg #[.bool (N 0), .string (S 0), .string (D 0), .bool (N 1), .string (S 1), .string (D 1), .bool (N 2), .string (S 2), .string (D 2), .bool (N 3), .string (S 3), .string (D 3), .bool (N 4), .string (S 4), .string (D 4), .bool (N 5), .string (S 5), .string (D 5)]] w1 (Re w1 (.int .i64 0))))
  (HC : Hid (∀ w1, Below w.heap.size w w1 → Calls Tryz.prog 12 #[.agg #[.bool (N 0), .string (S 0), .string (D 0), .bool (N 1), .string (S 1), .string (D 1), .bool (N 2), .string (S 2), .string (D 2), .bool (N 3), .string (S 3), .string (D 3), .bool (N 4), .string (S 4), .string (D 4), .bool (N 5), .string (S 5), .string (D 5)]] w1 (Re w1 (.int .i64 0))))
  (HA : Hid (∀ w1 B, Below w.heap.size w w1 → Cel w1 B [.bool p0, .string q0, .string r0, .bool p1, .string q1, .string r1] 30 → Calls Tryz.prog 13 #[.slice (some ⟨B, 0, none⟩) 1 1] w1 (Re w1 (.int .i64 0))))
  (HV : Hid (∀ w1, Below w.heap.size w w1 → Calls Tryz.prog 14 #[.agg #[.bool (N 0), .string (S 0), .string (D 0), .bool (N 1), .string (S 1), .string (D 1), .bool (N 2), .string (S 2), .string (D 2), .bool (N 3), .string (S 3), .string (D 3), .bool (N 4), .string (S 4), .string (D 4), .bool (N 5), .string (S 5), .string (D 5)], .agg #[.bool p0, .string q0, .string r0, .bool p1, .string q1, .string r1]] w1 (Re w1 (.agg #[.bool xN, .string xS, .string xD])))) :
  Calls Tryz.prog 3 #[.agg #[.bool (N 0), .string (S 0), .string (D 0), .bool (N 1), .string (S 1), .string (D 1), .bool (N 2), .string (S 2), .string (D 2), .bool (N 3), .string (S 3), .string (D 3), .bool (N 4), .string (S 4), .string (D 4), .bool (N 5), .string (S 5), .string (D 5)], .agg #[.bool p0, .string q0, .string r0, .bool p1, .string q1, .string r1]] w (Re w (.bool true)) := by
 go_enter Tryz.func3, Tryz.ntmps3
 go_upto_region 1 with fail
 obtain ⟨w0, hq, kf, kp, bb⟩ := mk2 w [.bool (N 0), .string (S 0), .string (D 0), .bool (N 1), .string (S 1), .string (D 1), .bool (N 2), .string (S 2), .string (D 2), .bool (N 3), .string (S 3), .string (D 3), .bool (N 4), .string (S 4), .string (D 4), .bool (N 5), .string (S 5), .string (D 5)] [.bool p0, .string q0, .string r0, .bool p1, .string q1, .string r1] 28 30
 rw [← hq]
 clear hq
 obtain ⟨x0, x1, x2, x3, x4, x5⟩ := xk6 kp
 go_wp2_with (refine wpList_load_row rfl 28 _ rfl _ rfl 28 _ (0, 0) _ kf Tryz.underlying28 rfl (by kernel_rfl) ?_)
 clear x0 x1 x2 x3 x4 x5
 go_fit (HF.out _ bb)
 rintro e w1 ⟨rfl, b1⟩
 replace kf := kf.below b1
 replace kp := kp.below b1
 replace bb := Below.after bb b1
 clear b1
 obtain ⟨x0, x1, x2, x3, x4, x5⟩ := xk6 kp
 go_wp2_with (refine wpList_load_row rfl 28 _ rfl _ rfl 28 _ (0, 0) _ kf Tryz.underlying28 rfl (by kernel_rfl) ?_)
 clear x0 x1 x2 x3 x4 x5
 go_fit (HE.out _ bb)
 rintro e w2 ⟨rfl, b1⟩
 replace kf := kf.below b1
 replace kp := kp.below b1
 replace bb := Below.after bb b1
 clear b1
 go_upto_region 4 with fail
 obtain ⟨w3, hq, ka, b1⟩ := mk1 w2 [.bool xN, .string xS, .string xD] 26
 rw [← hq]
 clear hq
 replace kf := kf.below b1
 replace kp := kp.below b1
 replace bb := Below.after bb b1
 clear b1
 go_wp2_with (refine wpList_load_row rfl 28 _ rfl _ rfl 28 _ (0, 0) _ kf Tryz.underlying28 rfl (by kernel_rfl) ?_)
 go_fit (HR.out _ bb)
 rintro e w4 ⟨rfl, b1⟩
 replace kf := kf.below b1
 replace kp := kp.below b1
 replace ka := ka.below b1
 replace bb := Below.after bb b1
 clear b1
 go_wp2_with (refine wpList_load_row rfl 28 _ rfl _ rfl 28 _ (0, 0) _ kf Tryz.underlying28 rfl (by kernel_rfl) ?_)
 go_fit (HC.out _ bb)
 rintro e w5 ⟨rfl, b1⟩
 replace kf := kf.below b1
 replace kp := kp.below b1
 replace ka := ka.below b1
 replace bb := Below.after bb b1
 clear b1
 obtain ⟨x0, x1, x2, x3, x4, x5⟩ := xk6 kp
 go_wp2_with fail
 clear x0 x1 x2 x3 x4 x5
 obtain ⟨w5', hq, kl, b1⟩ := mk1 w5 [.bool p0, .string q0, .string r0, .bool p1, .string q1, .string r1] 30
 rw [← hq]
 clear hq
 replace kf := kf.below b1
 replace kp := kp.below b1
 replace ka := ka.below b1
 replace bb := Below.after bb b1
 clear b1
 go_fit (HA.out _ _ bb kl)
 rintro e w6 ⟨rfl, b1⟩
 clear kl
 replace kf := kf.below b1
 replace kp := kp.below b1
 replace ka := ka.below b1
 replace bb := Below.after bb b1
 clear b1
 go_upto_region 11 with fail
 have bd := bdrew w6
 replace kf := kf.below bd
 replace kp := kp.below bd
 replace ka := ka.below bd
 replace bb := Below.after bb bd
 clear bd
 refine wp_region_held_drew (S := fun w' => xc18 w' (w.heap.size) (.bool (N 0)) (.string (S 0)) (.string (D 0)) (.bool (N 1)) (.string (S 1)) (.string (D 1)) (.bool (N 2)) (.string (S 2)) (.string (D 2)) (.bool (N 3)) (.string (S 3)) (.string (D 3)) (.bool (N 4)) (.string (S 4)) (.string (D 4)) (.bool (N 5)) (.string (S 5)) (.string (D 5)) ∧ xc6 w' (w.heap.size + 1) (.bool p0) (.string q0) (.string r0) (.bool p1) (.string q1) (.string r1) ∧ xc3 w' (w2.heap.size) (.bool xN) (.string xS) (.string xD)) (by kernel_rfl) ⟨xk18 kf, xk6 kp, xk3 ka⟩ (fun hS => ?_)
 generalize w6.drew = wd at *
 refine WA.start (n := 13) (by kernel_rfl) ?_
 refine WA.tp 0 rfl ?_
 refine WA.tp 1 rfl ?_
 refine WA.tp 2 rfl ?_
 refine WA.tp 3 rfl ?_
 refine WA.tp 4 rfl ?_
 refine WA.tp 5 rfl ?_
 clear hS
 refine WA.cal 6 rfl (fun K hK => ?_)
 simp only [List.getElem_toArray, List.getElem_cons_succ, List.getElem_cons_zero]
 go_simp
 go_fit (HV.out _ bb)
 rintro e w8 ⟨rfl, b1⟩
 replace kf := kf.below b1
 replace kp := kp.below b1
 replace ka := ka.below b1
 replace bb := Below.after bb b1
 clear b1
 try go_wp2_with fail
 refine hK.out _ _ ⟨xk18 kf, xk6 kp, xk3 ka⟩ (fun hS => ?_)
 clear hK K
 refine WA.tp 7 rfl ?_
 refine WA.tp 8 rfl ?_
 refine WA.tp 9 rfl ?_
 clear hS
 refine WA.cal 10 rfl (fun K hK => ?_)
 simp only [List.getElem_toArray, List.getElem_cons_succ, List.getElem_cons_zero]
 go_simp
 go_fit (HL.out _ bb)
 rintro e w9 ⟨rfl, b1⟩
 replace kf := kf.below b1
 replace kp := kp.below b1
 replace ka := ka.below b1
 replace bb := Below.after bb b1
 clear b1
 try go_wp2_with fail
 refine hK.out _ _ ⟨xk18 kf, xk6 kp, xk3 ka⟩ (fun hS => ?_)
 clear hK K
 refine WA.tp 11 rfl ?_
 refine WA.tp 12 rfl ?_
 refine WA.done (by kernel_rfl) ?_
 clear hS kf kp ka
 go_wp2
 go_ret
 exact ⟨rfl, bb⟩
end Go.Proofs.YtphpoknionnnfaaGreatDoor
