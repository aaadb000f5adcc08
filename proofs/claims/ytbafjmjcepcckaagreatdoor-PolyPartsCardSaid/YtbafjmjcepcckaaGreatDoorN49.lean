/-
  Integrals over both halves of a triangle: the mathematics; parts of rows.
  gussetlaw07: PolyParts, walked.
  gussetlaw07: PolyParts, walked.
  gussetlaw07: PolyParts holds.
-/
import Derived.Deep.MidRow
import Derived.Test.YtbafjmjcepcckaaGreatDoorN48
set_option maxRecDepth 100000
set_option maxHeartbeats 16000000
namespace Go.Proofs.YtbafjmjcepcckaaGreatDoor
open Go.RowKit
theorem Cel.rg {w : World} {g : Nat} {L : List Value} {t : TypeId} (h : Cel w g L t) (o : Nat) (cs post : List Value) (e : L.drop o = cs ++ post) : w.rangeAt g o cs := fun j v hv => by
 rw [h.cell (o + j), ← List.getElem?_drop, e, List.getElem?_append_left (List.getElem?_eq_some_iff.1 hv).1]
 exact hv
def q6 (a b c d e f : Rat) : Rat := a * (6*a - b - c - 4*e) + b * (-a + 6*b - c - 4*f) + c * (-a - b + 6*c - 4*d) + d * (-4*c + 32*d+16*e+16*f) + e * (-4*a+16*d+32*e+16*f) + f * (-4*b+16*d+16*e+32*f)
def b6 (F0 F1 F2 F3 F4 F5 a b c : Rat) : Rat := a * (2 * a - 1) * F0 + b * (2 * b - 1) * F1 + c * (2 * c - 1) * F2 + 4 * (a * b) * F3 + 4 * (b * c) * F4 + 4 * (a * c) * F5
theorem parts_0 (n0 n1 n2 n3 n4 n5 p0 p1 p2 p3 p4 p5 : Bool) (s0 d0 s1 d1 s2 d2 s3 d3 s4 d4 s5 d5 q0 r0 q1 r1 q2 r2 q3 r3 q4 r4 q5 r5 : ByteArray) (aN xN yN zN tN uN : Bool) (aS aD xS xD yS yD zS zD tS tD uS uD : ByteArray) (w : World)
  (HF : Hid (∀ w1, Below w.heap.size w w1 → Calls Tryz.prog 8 #[.agg #[.bool n0, .string s0, .string d0, .bool n1, .string s1, .string d1, .bool n2, .string s2, .string d2, .bool n3, .string s3, .string d3, .bool n4, .string s4, .string d4, .bool n5, .string s5, .string d5], .agg #[.bool p0, .string q0, .string r0, .bool p1, .string q1, .string r1, .bool p2, .string q2, .string r2, .bool p3, .string q3, .string r3, .bool p4, .string q4, .string r4, .bool p5, .string q5, .string r5]] w1 (Re w1 (.bool true))))
  (HT : Hid (∀ w1, Below w.heap.size w w1 → Calls Tryz.prog 18 #[.agg #[.bool n0, .string s0, .string d0, .bool n1, .string s1, .string d1, .bool n2, .string s2, .string d2, .bool n3, .string s3, .string d3, .bool n4, .string s4, .string d4, .bool n5, .string s5, .string d5], .agg #[.bool p0, .string q0, .string r0, .bool p1, .string q1, .string r1, .bool p2, .string q2, .string r2, .bool p3, .string q3, .string r3, .bool p4, .string q4, .string r4, .bool p5, .string q5, .string r5]] w1 (Re w1 (.int .i64 0))))
  (HL : Hid (∀ w1, Below w.heap.size w w1 → Calls Tryz.prog 9 #[] w1 (Re w1 (.bool true))))
  (HI : Hid (∀ w1, Below w.heap.size w w1 → Calls Tryz.prog 15 #[.agg #[.bool n0, .string s0, .string d0, .bool n1, .string s1, .string d1, .bool n2, .string s2, .string d2, .bool n3, .string s3, .string d3, .bool n4, .string s4, .string d4, .bool n5, .string s5, .string d5], .agg #[.bool p0, .string q0, .string r0, .bool p1, .string q1, .string r1], .agg #[.bool p2, .string q2, .string r2, .bool p3, .string q3, .string r3], .agg #[.bool p4, .string q4, .string r4, .bool p5, .string q5, .string r5]] w1 (Re w1 (.tuple #[.agg #[.bool aN, .string aS, .string aD], .int .i64 0]))))
  (HX : Hid (∀ w1, Below w.heap.size w w1 → Calls Tryz.prog 16 #[.agg #[.bool n0, .string s0, .string d0, .bool n1, .string s1, .string d1, .bool n2, .string s2, .string d2, .bool n3, .string s3, .string d3, .bool n4, .string s4, .string d4, .bool n5, .string s5, .string d5], .agg #[.bool p0, .string q0, .string r0, .bool p1, .string q1, .string r1], .agg #[.bool p2, .string q2, .string r2, .bool p3, .string q3, .string r3], .agg #[.bool p4, .string q4, .string r4, .bool p5, .string q5, .string r5]] w1 (Re w1 (.tuple #[.agg #[.bool xN, .string xS, .string xD, .bool yN, .string yS, .string yD, .bool zN, .string zS, .string zD], .int .i64 0]))))
  (HY : Hid (∀ w1, Below w.heap.size w w1 → Calls Tryz.prog 16 #[.agg #[.bool n0, .string s0, .string d0, .bool n1, .string s1, .string d1, .bool n2, .string s2, .string d2, .bool n3, .string s3, .string d3, .bool n4, .string s4, .string d4, .bool n5, .string s5, .string d5], .agg #[.bool p2, .string q2, .string r2, .bool p3, .string q3, .string r3], .agg #[.bool p0, .string q0, .string r0, .bool p1, .string q1, .string r1], .agg #[.bool p4, .string q4, .string r4, .bool p5, .string q5, .string r5]] w1 (Re w1 (.tuple #[.agg #[.bool yN, .string yS, .string yD, .bool xN, .string xS, .string xD, .bool zN, .string zS, .string zD], .int .i64 0]))))
  (HS : Hid (∀ w1, Below w.heap.size w w1 → Calls Tryz.prog 17 #[.agg #[.bool n0, .string s0, .string d0, .bool n1, .string s1, .string d1, .bool n2, .string s2, .string d2, .bool n3, .string s3, .string d3, .bool n4, .string s4, .string d4, .bool n5, .string s5, .string d5], .agg #[.bool p0, .string q0, .string r0, .bool p1, .string q1, .string r1], .agg #[.bool p2, .string q2, .string r2, .bool p3, .string q3, .string r3], .agg #[.bool p4, .string q4, .string r4, .bool p5, .string q5, .string r5]] w1 (Re w1 (.tuple #[.agg #[.bool tN, .string tS, .string tD], .int .i64 0]))))
  (HU : Hid (∀ w1, Below w.heap.size w w1 → Calls Tryz.prog 17 #[.agg #[.bool n0, .string s0, .string d0, .bool n1, .string s1, .string d1, .bool n2, .string s2, .string d2, .bool n3, .string s3, .string d3, .bool n4, .string s4, .string d4, .bool n5, .string s5, .string d5], .agg #[.bool p4, .string q4, .string r4, .bool p5, .string q5, .string r5], .agg #[.bool p2, .string q2, .string r2, .bool p3, .string q3, .string r3], .agg #[.bool p0, .string q0, .string r0, .bool p1, .string q1, .string r1]] w1 (Re w1 (.tuple #[.agg #[.bool tN, .string tS, .string tD], .int .i64 0]))))
  (H1 : Hid (∀ w1, Calls Tryz.prog 24 #[.agg #[.bool yN, .string yS, .string yD], .agg #[.bool zN, .string zS, .string zD]] w1 (Re w1 (.agg #[.bool uN, .string uS, .string uD]))))
  (H2 : Hid (∀ w1, Calls Tryz.prog 24 #[.agg #[.bool xN, .string xS, .string xD], .agg #[.bool uN, .string uS, .string uD]] w1 (Re w1 (.agg #[.bool aN, .string aS, .string aD]))))
  (HG : Hid (∀ w1, Calls Tryz.prog 25 #[.agg #[.bool tN, .string tS, .string tD]] w1 (Re w1 (.int .i64 0))))
  (HZ : Hid (∀ w1, Calls Tryz.prog 26 #[.agg #[.bool n0, .string s0, .string d0, .bool n1, .string s1, .string d1, .bool n2, .string s2, .string d2, .bool n3, .string s3, .string d3, .bool n4, .string s4, .string d4, .bool n5, .string s5, .string d5]] w1 (Re w1 (.bool true)))) :
  Calls Tryz.prog 6 #[.agg #[.bool n0, .string s0, .string d0, .bool n1, .string s1, .string d1, .bool n2, .string s2, .string d2, .bool n3, .string s3, .string d3, .bool n4, .string s4, .string d4, .bool n5, .string s5, .string d5], .agg #[.bool p0, .string q0, .string r0, .bool p1, .string q1, .string r1, .bool p2, .string q2, .string r2, .bool p3, .string q3, .string r3, .bool p4, .string q4, .string r4, .bool p5, .string q5, .string r5]] w (Re w (.bool true)) := by
 go_enter Tryz.func6, Tryz.ntmps6
 go_upto_region 1 with fail
 obtain ⟨w0, hq, kf, kt, bb⟩ := mk2 w [.bool n0, .string s0, .string d0, .bool n1, .string s1, .string d1, .bool n2, .string s2, .string d2, .bool n3, .string s3, .string d3, .bool n4, .string s4, .string d4, .bool n5, .string s5, .string d5] [.bool p0, .string q0, .string r0, .bool p1, .string q1, .string r1, .bool p2, .string q2, .string r2, .bool p3, .string q3, .string r3, .bool p4, .string q4, .string r4, .bool p5, .string q5, .string r5] 28 32
 rw [← hq]
 clear hq
 go_wp2_with (first | (refine wpList_load_row rfl 28 _ rfl _ rfl 28 _ (0, 0) _ kf Tryz.underlying28 rfl (by kernel_rfl) ?_) | (refine wpList_load_row rfl 32 _ rfl _ rfl 32 _ (0, 0) _ kt Tryz.underlying32 rfl (by kernel_rfl) ?_))
 go_fit (HF.out _ bb)
 rintro e w1 ⟨rfl, b1⟩
 replace kf := kf.below b1
 replace kt := kt.below b1
 replace bb := Below.after bb b1
 clear b1
 go_wp2_with (first | (refine wpList_load_rowG (by rfl) 28 _ rfl _ rfl 28 _ (0, 0) _ kf Tryz.underlying28 rfl (by kernel_rfl) ?_) | (refine wpList_load_rowG (by rfl) 32 _ rfl _ rfl 32 _ (0, 0) _ kt Tryz.underlying32 rfl (by kernel_rfl) ?_))
 go_fit (HT.out _ bb)
 rintro e w2 ⟨rfl, b1⟩
 replace kf := kf.below b1
 replace kt := kt.below b1
 replace bb := Below.after bb b1
 clear b1
 go_wp2_with (first | (refine wpList_load_row rfl 28 _ rfl _ rfl 28 _ (0, 0) _ kf Tryz.underlying28 rfl (by kernel_rfl) ?_) | (refine wpList_load_mid rfl 30 _ rfl (w.heap.size + 1) 0 rfl [.bool p0, .string q0, .string r0, .bool p1, .string q1, .string r1] _ (kt.rg 0 [.bool p0, .string q0, .string r0, .bool p1, .string q1, .string r1] [.bool p2, .string q2, .string r2, .bool p3, .string q3, .string r3, .bool p4, .string q4, .string r4, .bool p5, .string q5, .string r5] rfl) Tryz.underlying30 rfl (by kernel_rfl) ?_) | (refine wpList_load_mid rfl 30 _ rfl (w.heap.size + 1) 6 rfl [.bool p2, .string q2, .string r2, .bool p3, .string q3, .string r3] _ (kt.rg 6 [.bool p2, .string q2, .string r2, .bool p3, .string q3, .string r3] [.bool p4, .string q4, .string r4, .bool p5, .string q5, .string r5] rfl) Tryz.underlying30 rfl (by kernel_rfl) ?_) | (refine wpList_load_mid rfl 30 _ rfl (w.heap.size + 1) 12 rfl [.bool p4, .string q4, .string r4, .bool p5, .string q5, .string r5] _ (kt.rg 12 [.bool p4, .string q4, .string r4, .bool p5, .string q5, .string r5] [] rfl) Tryz.underlying30 rfl (by kernel_rfl) ?_))
 go_fit (HI.out _ bb)
 rintro e w3 ⟨rfl, b1⟩
 replace kf := kf.below b1
 replace kt := kt.below b1
 replace bb := Below.after bb b1
 clear b1
 go_upto_region 4 with fail
 obtain ⟨v3, hq, ka, b1⟩ := mk1 w3 [.bool aN, .string aS, .string aD] 26
 rw [← hq]
 clear hq
 replace kf := kf.below b1
 replace kt := kt.below b1
 replace bb := Below.after bb b1
 clear b1
 go_wp2_with (first | (refine wpList_load_row rfl 28 _ rfl _ rfl 28 _ (0, 0) _ kf Tryz.underlying28 rfl (by kernel_rfl) ?_) | (refine wpList_load_mid rfl 30 _ rfl (w.heap.size + 1) 0 rfl [.bool p0, .string q0, .string r0, .bool p1, .string q1, .string r1] _ (kt.rg 0 [.bool p0, .string q0, .string r0, .bool p1, .string q1, .string r1] [.bool p2, .string q2, .string r2, .bool p3, .string q3, .string r3, .bool p4, .string q4, .string r4, .bool p5, .string q5, .string r5] rfl) Tryz.underlying30 rfl (by kernel_rfl) ?_) | (refine wpList_load_mid rfl 30 _ rfl (w.heap.size + 1) 6 rfl [.bool p2, .string q2, .string r2, .bool p3, .string q3, .string r3] _ (kt.rg 6 [.bool p2, .string q2, .string r2, .bool p3, .string q3, .string r3] [.bool p4, .string q4, .string r4, .bool p5, .string q5, .string r5] rfl) Tryz.underlying30 rfl (by kernel_rfl) ?_) | (refine wpList_load_mid rfl 30 _ rfl (w.heap.size + 1) 12 rfl [.bool p4, .string q4, .string r4, .bool p5, .string q5, .string r5] _ (kt.rg 12 [.bool p4, .string q4, .string r4, .bool p5, .string q5, .string r5] [] rfl) Tryz.underlying30 rfl (by kernel_rfl) ?_))
 go_fit (HX.out _ bb)
 rintro e w4 ⟨rfl, b1⟩
 replace kf := kf.below b1
 replace kt := kt.below b1
 replace ka := ka.below b1
 replace bb := Below.after bb b1
 clear b1
 go_upto_region 5 with fail
 obtain ⟨v4, hq, kx, b1⟩ := mk1 w4 [.bool xN, .string xS, .string xD, .bool yN, .string yS, .string yD, .bool zN, .string zS, .string zD] 43
 rw [← hq]
 clear hq
 replace kf := kf.below b1
 replace kt := kt.below b1
 replace ka := ka.below b1
 replace bb := Below.after bb b1
 clear b1
 go_wp2_with (first | (refine wpList_load_row rfl 28 _ rfl _ rfl 28 _ (0, 0) _ kf Tryz.underlying28 rfl (by kernel_rfl) ?_) | (refine wpList_load_mid rfl 30 _ rfl (w.heap.size + 1) 0 rfl [.bool p0, .string q0, .string r0, .bool p1, .string q1, .string r1] _ (kt.rg 0 [.bool p0, .string q0, .string r0, .bool p1, .string q1, .string r1] [.bool p2, .string q2, .string r2, .bool p3, .string q3, .string r3, .bool p4, .string q4, .string r4, .bool p5, .string q5, .string r5] rfl) Tryz.underlying30 rfl (by kernel_rfl) ?_) | (refine wpList_load_mid rfl 30 _ rfl (w.heap.size + 1) 6 rfl [.bool p2, .string q2, .string r2, .bool p3, .string q3, .string r3] _ (kt.rg 6 [.bool p2, .string q2, .string r2, .bool p3, .string q3, .string r3] [.bool p4, .string q4, .string r4, .bool p5, .string q5, .string r5] rfl) Tryz.underlying30 rfl (by kernel_rfl) ?_) | (refine wpList_load_mid rfl 30 _ rfl (w.heap.size + 1) 12 rfl [.bool p4, .string q4, .string r4, .bool p5, .string q5, .string r5] _ (kt.rg 12 [.bool p4, .string q4, .string r4, .bool p5, .string q5, .string r5] [] rfl) Tryz.underlying30 rfl (by kernel_rfl) ?_))
 go_fit (HY.out _ bb)
 rintro e w5 ⟨rfl, b1⟩
 replace kf := kf.below b1
 replace kt := kt.below b1
 replace ka := ka.below b1
 replace kx := kx.below b1
 replace bb := Below.after bb b1
 clear b1
 go_upto_region 6 with fail
 obtain ⟨v5, hq, ky, b1⟩ := mk1 w5 [.bool yN, .string yS, .string yD, .bool xN, .string xS, .string xD, .bool zN, .string zS, .string zD] 43
 rw [← hq]
 clear hq
 replace kf := kf.below b1
 replace kt := kt.below b1
 replace ka := ka.below b1
 replace kx := kx.below b1
 replace bb := Below.after bb b1
 clear b1
 go_wp2_with (first | (refine wpList_load_row rfl 28 _ rfl _ rfl 28 _ (0, 0) _ kf Tryz.underlying28 rfl (by kernel_rfl) ?_) | (refine wpList_load_mid rfl 30 _ rfl (w.heap.size + 1) 0 rfl [.bool p0, .string q0, .string r0, .bool p1, .string q1, .string r1] _ (kt.rg 0 [.bool p0, .string q0, .string r0, .bool p1, .string q1, .string r1] [.bool p2, .string q2, .string r2, .bool p3, .string q3, .string r3, .bool p4, .string q4, .string r4, .bool p5, .string q5, .string r5] rfl) Tryz.underlying30 rfl (by kernel_rfl) ?_) | (refine wpList_load_mid rfl 30 _ rfl (w.heap.size + 1) 6 rfl [.bool p2, .string q2, .string r2, .bool p3, .string q3, .string r3] _ (kt.rg 6 [.bool p2, .string q2, .string r2, .bool p3, .string q3, .string r3] [.bool p4, .string q4, .string r4, .bool p5, .string q5, .string r5] rfl) Tryz.underlying30 rfl (by kernel_rfl) ?_) | (refine wpList_load_mid rfl 30 _ rfl (w.heap.size + 1) 12 rfl [.bool p4, .string q4, .string r4, .bool p5, .string q5, .string r5] _ (kt.rg 12 [.bool p4, .string q4, .string r4, .bool p5, .string q5, .string r5] [] rfl) Tryz.underlying30 rfl (by kernel_rfl) ?_))
 go_fit (HS.out _ bb)
 rintro e w6 ⟨rfl, b1⟩
 replace kf := kf.below b1
 replace kt := kt.below b1
 replace ka := ka.below b1
 replace kx := kx.below b1
 replace ky := ky.below b1
 replace bb := Below.after bb b1
 clear b1
 go_upto_region 7 with fail
 obtain ⟨v6, hq, ks, b1⟩ := mk1 w6 [.bool tN, .string tS, .string tD] 26
 rw [← hq]
 clear hq
 replace kf := kf.below b1
 replace kt := kt.below b1
 replace ka := ka.below b1
 replace kx := kx.below b1
 replace ky := ky.below b1
 replace bb := Below.after bb b1
 clear b1
 go_wp2_with (first | (refine wpList_load_row rfl 28 _ rfl _ rfl 28 _ (0, 0) _ kf Tryz.underlying28 rfl (by kernel_rfl) ?_) | (refine wpList_load_mid rfl 30 _ rfl (w.heap.size + 1) 0 rfl [.bool p0, .string q0, .string r0, .bool p1, .string q1, .string r1] _ (kt.rg 0 [.bool p0, .string q0, .string r0, .bool p1, .string q1, .string r1] [.bool p2, .string q2, .string r2, .bool p3, .string q3, .string r3, .bool p4, .string q4, .string r4, .bool p5, .string q5, .string r5] rfl) Tryz.underlying30 rfl (by kernel_rfl) ?_) | (refine wpList_load_mid rfl 30 _ rfl (w.heap.size + 1) 6 rfl [.bool p2, .string q2, .string r2, .bool p3, .string q3, .string r3] _ (kt.rg 6 [.bool p2, .string q2, .string r2, .bool p3, .string q3, .string r3] [.bool p4, .string q4, .string r4, .bool p5, .string q5, .string r5] rfl) Tryz.underlying30 rfl (by kernel_rfl) ?_) | (refine wpList_load_mid rfl 30 _ rfl (w.heap.size + 1) 12 rfl [.bool p4, .string q4, .string r4, .bool p5, .string q5, .string r5] _ (kt.rg 12 [.bool p4, .string q4, .string r4, .bool p5, .string q5, .string r5] [] rfl) Tryz.underlying30 rfl (by kernel_rfl) ?_))
 go_fit (HU.out _ bb)
 rintro e w7 ⟨rfl, b1⟩
 replace kf := kf.below b1
 replace kt := kt.below b1
 replace ka := ka.below b1
 replace kx := kx.below b1
 replace ky := ky.below b1
 replace ks := ks.below b1
 replace bb := Below.after bb b1
 clear b1
 go_upto_region 8 with fail
 obtain ⟨v7, hq, ku, b1⟩ := mk1 w7 [.bool tN, .string tS, .string tD] 26
 rw [← hq]
 clear hq
 replace kf := kf.below b1
 replace kt := kt.below b1
 replace ka := ka.below b1
 replace kx := kx.below b1
 replace ky := ky.below b1
 replace ks := ks.below b1
 replace bb := Below.after bb b1
 clear b1
 clear kt
 go_upto_region 10 with fail
 have mk : Hid (∀ w', SB v7 w' → w'.cell? ⟨w4.heap.size, 0, none⟩ = some (.bool xN) ∧ w'.cell? ⟨w4.heap.size, 1, none⟩ = some (.string xS) ∧ w'.cell? ⟨w4.heap.size, 2, none⟩ = some (.string xD) ∧ w'.cell? ⟨w4.heap.size, 3, none⟩ = some (.bool yN) ∧ w'.cell? ⟨w4.heap.size, 4, none⟩ = some (.string yS) ∧ w'.cell? ⟨w4.heap.size, 5, none⟩ = some (.string yD) ∧ w'.cell? ⟨w4.heap.size, 6, none⟩ = some (.bool zN) ∧ w'.cell? ⟨w4.heap.size, 7, none⟩ = some (.string zS) ∧ w'.cell? ⟨w4.heap.size, 8, none⟩ = some (.string zD)) := fun w' h => by
  have kx' := kx.below h
  exact ⟨kx'.cell 0, kx'.cell 1, kx'.cell 2, kx'.cell 3, kx'.cell 4, kx'.cell 5, kx'.cell 6, kx'.cell 7, kx'.cell 8⟩
 go_cut [15] from 100 to 107 (fun v wx => ∃ gc, v = .pointer (some ⟨gc, 0, none⟩) ∧ v7.heap.size ≤ gc ∧ Cel wx gc [.bool aN, .string aS, .string aD] 26 ∧ Below v7.heap.size v7 wx)
 case first =>
  refine wp_region_held_drew (S := SB v7) (by kernel_rfl) (bdrew _) (fun bc => ?_)
  refine WA.start (n := 10) (by kernel_rfl) ?_
  refine WA.tk 0 rfl ?_
  refine WA.tl 1 rfl ?_
  refine WA.tk 2 rfl ?_
  refine WA.tl 3 rfl ?_
  refine WA.tk 4 rfl ?_
  refine WA.tl 5 rfl ?_
  refine WA.genZ (i := 8) (s := 15) (Pt v7 [.bool false, .string { data := #[] }, .string { data := #[] }] 26) (fun b x hz => ?_)
  simp only [Act.put, List.setIfInBounds_toArray, List.set_cons_zero, List.set_cons_succ]
  revert b x
  refine WA.one 10 63 6 8 rfl rfl bc ?_
  clear bc
  intro b x w' hz bx bc K hK
  clear bx
  simp only [List.getElem_toArray, List.getElem_cons_succ, List.getElem_cons_zero]
  go_simp
  go_fit (H1.out _)
  rintro e wn ⟨rfl, bn⟩
  replace bc := Below.after bc bn
  try go_wp2_with fail
  refine hK.out _ _ bc (fun _ => ?_)
  replace hz := fun h => (hz h).below bn
  clear hK K bn
  revert b x
  refine WA.one 10 127 7 8 rfl rfl bc ?_
  clear bc
  intro b x w' hz bx bc K hK
  clear bx
  simp only [List.getElem_toArray, List.getElem_cons_succ, List.getElem_cons_zero]
  go_simp
  go_fit (H2.out _)
  rintro e wn ⟨rfl, bn⟩
  replace bc := Below.after bc bn
  try go_wp2_with fail
  refine hK.out _ _ bc (fun _ => ?_)
  replace hz := fun h => (hz h).below bn
  clear hK K bn
  revert b x
  refine WA.fin 8 rfl bc ?_
  clear bc
  intro x w' hz bx bc
  obtain ⟨g0, rfl, h0, k0⟩ := hz
  clear bx
  obtain ⟨e0, e1, e2⟩ := xk3 k0
  have f0 := Cel.frozen k0 0
  have f1 := Cel.frozen k0 1
  have f2 := Cel.frozen k0 2
  refine WA.call 9 rfl (fun K hK => ?_)
  simp only [List.getElem_toArray, List.getElem_cons_succ, List.getElem_cons_zero]
  go_simp
  try go_wp2_with fail
  clear e0 e1 e2 f0 f1 f2
  replace bc := bset (bset (bset bc h0 0 (.bool aN)) h0 1 (.string aS)) h0 2 (.string aD)
  refine hK.out _ _ bc (fun _ => ?_)
  clear hK K
  replace k0 := ((k0.set 0 (.bool aN)).set 1 (.string aS)).set 2 (.string aD)
  refine WA.done (by kernel_rfl) ?_
  go_wp2_with fail
  go_meet
  exact ⟨_, rfl, h0, k0, bc⟩
 case rest =>
  obtain ⟨gl, rfl, hgl, kl, b1⟩ := hcut
  clear mk
  replace kf := kf.below b1
  replace ka := ka.below b1
  replace kx := kx.below b1
  replace ky := ky.below b1
  replace ks := ks.below b1
  replace ku := ku.below b1
  replace bb := Below.after bb b1
  clear b1
  go_upto_region 11 with fail
  have bd := bdrew wc
  replace kf := kf.below bd
  replace ka := ka.below bd
  replace kx := kx.below bd
  replace ky := ky.below bd
  replace ks := ks.below bd
  replace ku := ku.below bd
  replace kl := kl.below bd
  replace bb := Below.after bb bd
  clear bd
  refine wp_region_held_drew (S := fun w' => w'.rangeAt (gl) 0 [.bool aN, .string aS, .string aD] ∧ w'.rangeAt (w3.heap.size) 0 [.bool aN, .string aS, .string aD] ∧ w'.rangeAt (w4.heap.size) 0 [.bool xN, .string xS, .string xD] ∧ w'.rangeAt (w4.heap.size) 3 [.bool yN, .string yS, .string yD] ∧ w'.rangeAt (w4.heap.size) 6 [.bool zN, .string zS, .string zD] ∧ w'.rangeAt (w5.heap.size) 0 [.bool yN, .string yS, .string yD] ∧ w'.rangeAt (w5.heap.size) 3 [.bool xN, .string xS, .string xD] ∧ w'.rangeAt (w5.heap.size) 6 [.bool zN, .string zS, .string zD] ∧ w'.rangeAt (w6.heap.size) 0 [.bool tN, .string tS, .string tD] ∧ w'.rangeAt (w7.heap.size) 0 [.bool tN, .string tS, .string tD] ∧ w'.rangeAt (w.heap.size) 0 [.bool n0, .string s0, .string d0, .bool n1, .string s1, .string d1, .bool n2, .string s2, .string d2, .bool n3, .string s3, .string d3, .bool n4, .string s4, .string d4, .bool n5, .string s5, .string d5]) (by kernel_rfl) ⟨kl.rg 0 [.bool aN, .string aS, .string aD] [] rfl, ka.rg 0 [.bool aN, .string aS, .string aD] [] rfl, kx.rg 0 [.bool xN, .string xS, .string xD] [.bool yN, .string yS, .string yD, .bool zN, .string zS, .string zD] rfl, kx.rg 3 [.bool yN, .string yS, .string yD] [.bool zN, .string zS, .string zD] rfl, kx.rg 6 [.bool zN, .string zS, .string zD] [] rfl, ky.rg 0 [.bool yN, .string yS, .string yD] [.bool xN, .string xS, .string xD, .bool zN, .string zS, .string zD] rfl, ky.rg 3 [.bool xN, .string xS, .string xD] [.bool zN, .string zS, .string zD] rfl, ky.rg 6 [.bool zN, .string zS, .string zD] [] rfl, ks.rg 0 [.bool tN, .string tS, .string tD] [] rfl, ku.rg 0 [.bool tN, .string tS, .string tD] [] rfl, kf.rg 0 [.bool n0, .string s0, .string d0, .bool n1, .string s1, .string d1, .bool n2, .string s2, .string d2, .bool n3, .string s3, .string d3, .bool n4, .string s4, .string d4, .bool n5, .string s5, .string d5] [] rfl⟩ (fun hS => ?_)
  generalize wc.drew = wd at *
  refine WA.start (n := 46) (by kernel_rfl) ?_
  refine WA.tp 0 rfl ?_ (hy := yieldsIf_load_mid (by rfl) 26 _ rfl (gl) 0 rfl [.bool aN, .string aS, .string aD] _ (fun w' h => h.1) Tryz.underlying26 rfl (by kernel_rfl))
  refine WA.tp 1 rfl ?_ (hy := yieldsIf_load_mid (by rfl) 26 _ rfl (w3.heap.size) 0 rfl [.bool aN, .string aS, .string aD] _ (fun w' h => h.2.1) Tryz.underlying26 rfl (by kernel_rfl))
  refine WA.tp 2 rfl ?_
  refine WA.tp 3 rfl ?_
  refine WA.tp 4 rfl ?_
  refine WA.tp 5 rfl ?_ (hy := yieldsIf_load_mid (by rfl) 26 _ rfl (w4.heap.size) 0 rfl [.bool xN, .string xS, .string xD] _ (fun w' h => h.2.2.1) Tryz.underlying26 rfl (by kernel_rfl))
  refine WA.tp 6 rfl ?_
  refine WA.tp 7 rfl ?_ (hy := yieldsIf_load_mid (by rfl) 26 _ rfl (w5.heap.size) 3 rfl [.bool xN, .string xS, .string xD] _ (fun w' h => h.2.2.2.2.2.2.1) Tryz.underlying26 rfl (by kernel_rfl))
  refine WA.tp 8 rfl ?_
  refine WA.tp 9 rfl ?_
  refine WA.tp 10 rfl ?_
  refine WA.tp 11 rfl ?_
  refine WA.tp 12 rfl ?_ (hy := yieldsIf_load_mid (by rfl) 26 _ rfl (w4.heap.size) 3 rfl [.bool yN, .string yS, .string yD] _ (fun w' h => h.2.2.2.1) Tryz.underlying26 rfl (by kernel_rfl))
  refine WA.tp 13 rfl ?_
  refine WA.tp 14 rfl ?_ (hy := yieldsIf_load_mid (by rfl) 26 _ rfl (w5.heap.size) 0 rfl [.bool yN, .string yS, .string yD] _ (fun w' h => h.2.2.2.2.2.1) Tryz.underlying26 rfl (by kernel_rfl))
  refine WA.tp 15 rfl ?_
  refine WA.tp 16 rfl ?_
  refine WA.tp 17 rfl ?_
  refine WA.tp 18 rfl ?_
  refine WA.tp 19 rfl ?_ (hy := yieldsIf_load_mid (by rfl) 26 _ rfl (w4.heap.size) 6 rfl [.bool zN, .string zS, .string zD] _ (fun w' h => h.2.2.2.2.1) Tryz.underlying26 rfl (by kernel_rfl))
  refine WA.tp 20 rfl ?_
  refine WA.tp 21 rfl ?_ (hy := yieldsIf_load_mid (by rfl) 26 _ rfl (w5.heap.size) 6 rfl [.bool zN, .string zS, .string zD] _ (fun w' h => h.2.2.2.2.2.2.2.1) Tryz.underlying26 rfl (by kernel_rfl))
  refine WA.tp 22 rfl ?_
  refine WA.tp 23 rfl ?_
  refine WA.tp 24 rfl ?_
  refine WA.tp 25 rfl ?_ (hy := yieldsIf_load_mid (by rfl) 26 _ rfl (w6.heap.size) 0 rfl [.bool tN, .string tS, .string tD] _ (fun w' h => h.2.2.2.2.2.2.2.2.1) Tryz.underlying26 rfl (by kernel_rfl))
  refine WA.tp 26 rfl ?_ (hy := yieldsIf_load_mid (by rfl) 26 _ rfl (w7.heap.size) 0 rfl [.bool tN, .string tS, .string tD] _ (fun w' h => h.2.2.2.2.2.2.2.2.2.1) Tryz.underlying26 rfl (by kernel_rfl))
  refine WA.tp 27 rfl ?_
  refine WA.tp 28 rfl ?_
  refine WA.tp 29 rfl ?_
  refine WA.tp 30 rfl ?_ (hy := yieldsIf_load_mid (by rfl) 26 _ rfl (w6.heap.size) 0 rfl [.bool tN, .string tS, .string tD] _ (fun w' h => h.2.2.2.2.2.2.2.2.1) Tryz.underlying26 rfl (by kernel_rfl))
  refine WA.tp 33 rfl ?_ (hy := yieldsIf_load_mid (by rfl) 28 _ rfl (w.heap.size) 0 rfl [.bool n0, .string s0, .string d0, .bool n1, .string s1, .string d1, .bool n2, .string s2, .string d2, .bool n3, .string s3, .string d3, .bool n4, .string s4, .string d4, .bool n5, .string s5, .string d5] _ (fun w' h => h.2.2.2.2.2.2.2.2.2.2) Tryz.underlying28 rfl (by kernel_rfl))
  clear hS
  refine WA.cal 31 rfl (fun K hK => ?_)
  simp only [List.getElem_toArray, List.getElem_cons_succ, List.getElem_cons_zero]
  go_simp
  go_fit (HG.out _)
  rintro e wm31 ⟨rfl, b1⟩
  replace kf := kf.below b1
  replace ka := ka.below b1
  replace kx := kx.below b1
  replace ky := ky.below b1
  replace ks := ks.below b1
  replace ku := ku.below b1
  replace kl := kl.below b1
  replace bb := Below.after bb b1
  clear b1
  try go_wp2_with fail
  refine hK.out _ _ ⟨kl.rg 0 [.bool aN, .string aS, .string aD] [] rfl, ka.rg 0 [.bool aN, .string aS, .string aD] [] rfl, kx.rg 0 [.bool xN, .string xS, .string xD] [.bool yN, .string yS, .string yD, .bool zN, .string zS, .string zD] rfl, kx.rg 3 [.bool yN, .string yS, .string yD] [.bool zN, .string zS, .string zD] rfl, kx.rg 6 [.bool zN, .string zS, .string zD] [] rfl, ky.rg 0 [.bool yN, .string yS, .string yD] [.bool xN, .string xS, .string xD, .bool zN, .string zS, .string zD] rfl, ky.rg 3 [.bool xN, .string xS, .string xD] [.bool zN, .string zS, .string zD] rfl, ky.rg 6 [.bool zN, .string zS, .string zD] [] rfl, ks.rg 0 [.bool tN, .string tS, .string tD] [] rfl, ku.rg 0 [.bool tN, .string tS, .string tD] [] rfl, kf.rg 0 [.bool n0, .string s0, .string d0, .bool n1, .string s1, .string d1, .bool n2, .string s2, .string d2, .bool n3, .string s3, .string d3, .bool n4, .string s4, .string d4, .bool n5, .string s5, .string d5] [] rfl⟩ (fun hS => ?_)
  clear hK K
  refine WA.tp 32 rfl ?_
  clear hS
  refine WA.cal 34 rfl (fun K hK => ?_)
  simp only [List.getElem_toArray, List.getElem_cons_succ, List.getElem_cons_zero]
  go_simp
  go_fit (HZ.out _)
  rintro e wm34 ⟨rfl, b1⟩
  replace kf := kf.below b1
  replace ka := ka.below b1
  replace kx := kx.below b1
  replace ky := ky.below b1
  replace ks := ks.below b1
  replace ku := ku.below b1
  replace kl := kl.below b1
  replace bb := Below.after bb b1
  clear b1
  try go_wp2_with fail
  refine hK.out _ _ ⟨kl.rg 0 [.bool aN, .string aS, .string aD] [] rfl, ka.rg 0 [.bool aN, .string aS, .string aD] [] rfl, kx.rg 0 [.bool xN, .string xS, .string xD] [.bool yN, .string yS, .string yD, .bool zN, .string zS, .string zD] rfl, kx.rg 3 [.bool yN, .string yS, .string yD] [.bool zN, .string zS, .string zD] rfl, kx.rg 6 [.bool zN, .string zS, .string zD] [] rfl, ky.rg 0 [.bool yN, .string yS, .string yD] [.bool xN, .string xS, .string xD, .bool zN, .string zS, .string zD] rfl, ky.rg 3 [.bool xN, .string xS, .string xD] [.bool zN, .string zS, .string zD] rfl, ky.rg 6 [.bool zN, .string zS, .string zD] [] rfl, ks.rg 0 [.bool tN, .string tS, .string tD] [] rfl, ku.rg 0 [.bool tN, .string tS, .string tD] [] rfl, kf.rg 0 [.bool n0, .string s0, .string d0, .bool n1, .string s1, .string d1, .bool n2, .string s2, .string d2, .bool n3, .string s3, .string d3, .bool n4, .string s4, .string d4, .bool n5, .string s5, .string d5] [] rfl⟩ (fun hS => ?_)
  clear hK K
  refine WA.tp 35 rfl ?_
  refine WA.tp 36 rfl ?_
  refine WA.tp 37 rfl ?_
  refine WA.tp 38 rfl ?_ (hy := yieldsIf_load_mid (by rfl) 26 _ rfl (w6.heap.size) 0 rfl [.bool tN, .string tS, .string tD] _ (fun w' h => h.2.2.2.2.2.2.2.2.1) Tryz.underlying26 rfl (by kernel_rfl))
  clear hS
  refine WA.cal 39 rfl (fun K hK => ?_)
  simp only [List.getElem_toArray, List.getElem_cons_succ, List.getElem_cons_zero]
  go_simp
  go_fit (HG.out _)
  rintro e wm39 ⟨rfl, b1⟩
  replace kf := kf.below b1
  replace ka := ka.below b1
  replace kx := kx.below b1
  replace ky := ky.below b1
  replace ks := ks.below b1
  replace ku := ku.below b1
  replace kl := kl.below b1
  replace bb := Below.after bb b1
  clear b1
  try go_wp2_with fail
  refine hK.out _ _ ⟨kl.rg 0 [.bool aN, .string aS, .string aD] [] rfl, ka.rg 0 [.bool aN, .string aS, .string aD] [] rfl, kx.rg 0 [.bool xN, .string xS, .string xD] [.bool yN, .string yS, .string yD, .bool zN, .string zS, .string zD] rfl, kx.rg 3 [.bool yN, .string yS, .string yD] [.bool zN, .string zS, .string zD] rfl, kx.rg 6 [.bool zN, .string zS, .string zD] [] rfl, ky.rg 0 [.bool yN, .string yS, .string yD] [.bool xN, .string xS, .string xD, .bool zN, .string zS, .string zD] rfl, ky.rg 3 [.bool xN, .string xS, .string xD] [.bool zN, .string zS, .string zD] rfl, ky.rg 6 [.bool zN, .string zS, .string zD] [] rfl, ks.rg 0 [.bool tN, .string tS, .string tD] [] rfl, ku.rg 0 [.bool tN, .string tS, .string tD] [] rfl, kf.rg 0 [.bool n0, .string s0, .string d0, .bool n1, .string s1, .string d1, .bool n2, .string s2, .string d2, .bool n3, .string s3, .string d3, .bool n4, .string s4, .string d4, .bool n5, .string s5, .string d5] [] rfl⟩ (fun hS => ?_)
  clear hK K
  refine WA.tp 40 rfl ?_
  refine WA.tp 41 rfl ?_
  refine WA.tp 42 rfl ?_
  clear hS
  refine WA.cal 43 rfl (fun K hK => ?_)
  simp only [List.getElem_toArray, List.getElem_cons_succ, List.getElem_cons_zero]
  go_simp
  go_fit (HL.out _ bb)
  rintro e wm43 ⟨rfl, b1⟩
  replace kf := kf.below b1
  replace ka := ka.below b1
  replace kx := kx.below b1
  replace ky := ky.below b1
  replace ks := ks.below b1
  replace ku := ku.below b1
  replace kl := kl.below b1
  replace bb := Below.after bb b1
  clear b1
  try go_wp2_with fail
  refine hK.out _ _ ⟨kl.rg 0 [.bool aN, .string aS, .string aD] [] rfl, ka.rg 0 [.bool aN, .string aS, .string aD] [] rfl, kx.rg 0 [.bool xN, .string xS, .string xD] [.bool yN, .string yS, .string yD, .bool zN, .string zS, .string zD] rfl, kx.rg 3 [.bool yN, .string yS, .string yD] [.bool zN, .string zS, .string zD] rfl, kx.rg 6 [.bool zN, .string zS, .string zD] [] rfl, ky.rg 0 [.bool yN, .string yS, .string yD] [.bool xN, .string xS, .string xD, .bool zN, .string zS, .string zD] rfl, ky.rg 3 [.bool xN, .string xS, .string xD] [.bool zN, .string zS, .string zD] rfl, ky.rg 6 [.bool zN, .string zS, .string zD] [] rfl, ks.rg 0 [.bool tN, .string tS, .string tD] [] rfl, ku.rg 0 [.bool tN, .string tS, .string tD] [] rfl, kf.rg 0 [.bool n0, .string s0, .string d0, .bool n1, .string s1, .string d1, .bool n2, .string s2, .string d2, .bool n3, .string s3, .string d3, .bool n4, .string s4, .string d4, .bool n5, .string s5, .string d5] [] rfl⟩ (fun hS => ?_)
  clear hK K
  refine WA.tp 44 rfl ?_
  refine WA.tp 45 rfl ?_
  refine WA.done (by kernel_rfl) ?_
  clear hS
  clear kf ka kx ky ks ku kl
  go_wp2
  go_ret
  exact ⟨rfl, bb⟩
theorem parts_1 (n0 n1 n2 n3 n4 n5 p0 p1 p2 p3 p4 p5 : Bool) (s0 d0 s1 d1 s2 d2 s3 d3 s4 d4 s5 d5 q0 r0 q1 r1 q2 r2 q3 r3 q4 r4 q5 r5 : ByteArray) (aN xN yN zN tN uN : Bool) (aS aD xS xD yS yD zS zD tS tD uS uD : ByteArray) (w : World)
  (HF : Hid (∀ w1, Below w.heap.size w w1 → Calls Tryz.prog 8 #[.agg #[.bool n0, .string s0, .string d0, .bool n1, .string s1, .string d1, .bool n2, .string s2, .string d2, .bool n3, .string s3, .string d3, .bool n4, .string s4, .string d4, .bool n5, .string s5, .string d5], .agg #[.bool p0, .string q0, .string r0, .bool p1, .string q1, .string r1, .bool p2, .string q2, .string r2, .bool p3, .string q3, .string r3, .bool p4, .string q4, .string r4, .bool p5, .string q5, .string r5]] w1 (Re w1 (.bool true))))
  (HT : Hid (∀ w1, Below w.heap.size w w1 → Calls Tryz.prog 18 #[.agg #[.bool n0, .string s0, .string d0, .bool n1, .string s1, .string d1, .bool n2, .string s2, .string d2, .bool n3, .string s3, .string d3, .bool n4, .string s4, .string d4, .bool n5, .string s5, .string d5], .agg #[.bool p0, .string q0, .string r0, .bool p1, .string q1, .string r1, .bool p2, .string q2, .string r2, .bool p3, .string q3, .string r3, .bool p4, .string q4, .string r4, .bool p5, .string q5, .string r5]] w1 (Re w1 (.int .i64 0))))
  (HL : Hid (∀ w1, Below w.heap.size w w1 → Calls Tryz.prog 9 #[] w1 (Re w1 (.bool true))))
  (HI : Hid (∀ w1, Below w.heap.size w w1 → Calls Tryz.prog 15 #[.agg #[.bool n0, .string s0, .string d0, .bool n1, .string s1, .string d1, .bool n2, .string s2, .string d2, .bool n3, .string s3, .string d3, .bool n4, .string s4, .string d4, .bool n5, .string s5, .string d5], .agg #[.bool p0, .string q0, .string r0, .bool p1, .string q1, .string r1], .agg #[.bool p2, .string q2, .string r2, .bool p3, .string q3, .string r3], .agg #[.bool p4, .string q4, .string r4, .bool p5, .string q5, .string r5]] w1 (Re w1 (.tuple #[.agg #[.bool aN, .string aS, .string aD], .int .i64 0]))))
  (HX : Hid (∀ w1, Below w.heap.size w w1 → Calls Tryz.prog 16 #[.agg #[.bool n0, .string s0, .string d0, .bool n1, .string s1, .string d1, .bool n2, .string s2, .string d2, .bool n3, .string s3, .string d3, .bool n4, .string s4, .string d4, .bool n5, .string s5, .string d5], .agg #[.bool p0, .string q0, .string r0, .bool p1, .string q1, .string r1], .agg #[.bool p2, .string q2, .string r2, .bool p3, .string q3, .string r3], .agg #[.bool p4, .string q4, .string r4, .bool p5, .string q5, .string r5]] w1 (Re w1 (.tuple #[.agg #[.bool xN, .string xS, .string xD, .bool yN, .string yS, .string yD, .bool zN, .string zS, .string zD], .int .i64 0]))))
  (HY : Hid (∀ w1, Below w.heap.size w w1 → Calls Tryz.prog 16 #[.agg #[.bool n0, .string s0, .string d0, .bool n1, .string s1, .string d1, .bool n2, .string s2, .string d2, .bool n3, .string s3, .string d3, .bool n4, .string s4, .string d4, .bool n5, .string s5, .string d5], .agg #[.bool p2, .string q2, .string r2, .bool p3, .string q3, .string r3], .agg #[.bool p0, .string q0, .string r0, .bool p1, .string q1, .string r1], .agg #[.bool p4, .string q4, .string r4, .bool p5, .string q5, .string r5]] w1 (Re w1 (.tuple #[.agg #[.bool yN, .string yS, .string yD, .bool xN, .string xS, .string xD, .bool zN, .string zS, .string zD], .int .i64 0]))))
  (HS : Hid (∀ w1, Below w.heap.size w w1 → Calls Tryz.prog 17 #[.agg #[.bool n0, .string s0, .string d0, .bool n1, .string s1, .string d1, .bool n2, .string s2, .string d2, .bool n3, .string s3, .string d3, .bool n4, .string s4, .string d4, .bool n5, .string s5, .string d5], .agg #[.bool p0, .string q0, .string r0, .bool p1, .string q1, .string r1], .agg #[.bool p2, .string q2, .string r2, .bool p3, .string q3, .string r3], .agg #[.bool p4, .string q4, .string r4, .bool p5, .string q5, .string r5]] w1 (Re w1 (.tuple #[.agg #[.bool tN, .string tS, .string tD], .int .i64 0]))))
  (HU : Hid (∀ w1, Below w.heap.size w w1 → Calls Tryz.prog 17 #[.agg #[.bool n0, .string s0, .string d0, .bool n1, .string s1, .string d1, .bool n2, .string s2, .string d2, .bool n3, .string s3, .string d3, .bool n4, .string s4, .string d4, .bool n5, .string s5, .string d5], .agg #[.bool p4, .string q4, .string r4, .bool p5, .string q5, .string r5], .agg #[.bool p2, .string q2, .string r2, .bool p3, .string q3, .string r3], .agg #[.bool p0, .string q0, .string r0, .bool p1, .string q1, .string r1]] w1 (Re w1 (.tuple #[.agg #[.bool tN, .string tS, .string tD], .int .i64 0]))))
  (H1 : Hid (∀ w1, Calls Tryz.prog 24 #[.agg #[.bool yN, .string yS, .string yD], .agg #[.bool zN, .string zS, .string zD]] w1 (Re w1 (.agg #[.bool uN, .string uS, .string uD]))))
  (H2 : Hid (∀ w1, Calls Tryz.prog 24 #[.agg #[.bool xN, .string xS, .string xD], .agg #[.bool uN, .string uS, .string uD]] w1 (Re w1 (.agg #[.bool aN, .string aS, .string aD]))))
  (HG : Hid (∀ w1, Calls Tryz.prog 25 #[.agg #[.bool tN, .string tS, .string tD]] w1 (Re w1 (.int .i64 1))))
  (HZ : Hid (∀ w1, Calls Tryz.prog 26 #[.agg #[.bool n0, .string s0, .string d0, .bool n1, .string s1, .string d1, .bool n2, .string s2, .string d2, .bool n3, .string s3, .string d3, .bool n4, .string s4, .string d4, .bool n5, .string s5, .string d5]] w1 (Re w1 (.bool false)))) :
  Calls Tryz.prog 6 #[.agg #[.bool n0, .string s0, .string d0, .bool n1, .string s1, .string d1, .bool n2, .string s2, .string d2, .bool n3, .string s3, .string d3, .bool n4, .string s4, .string d4, .bool n5, .string s5, .string d5], .agg #[.bool p0, .string q0, .string r0, .bool p1, .string q1, .string r1, .bool p2, .string q2, .string r2, .bool p3, .string q3, .string r3, .bool p4, .string q4, .string r4, .bool p5, .string q5, .string r5]] w (Re w (.bool true)) := by
 go_enter Tryz.func6, Tryz.ntmps6
 go_upto_region 1 with fail
 obtain ⟨w0, hq, kf, kt, bb⟩ := mk2 w [.bool n0, .string s0, .string d0, .bool n1, .string s1, .string d1, .bool n2, .string s2, .string d2, .bool n3, .string s3, .string d3, .bool n4, .string s4, .string d4, .bool n5, .string s5, .string d5] [.bool p0, .string q0, .string r0, .bool p1, .string q1, .string r1, .bool p2, .string q2, .string r2, .bool p3, .string q3, .string r3, .bool p4, .string q4, .string r4, .bool p5, .string q5, .string r5] 28 32
 rw [← hq]
 clear hq
 go_wp2_with (first | (refine wpList_load_row rfl 28 _ rfl _ rfl 28 _ (0, 0) _ kf Tryz.underlying28 rfl (by kernel_rfl) ?_) | (refine wpList_load_row rfl 32 _ rfl _ rfl 32 _ (0, 0) _ kt Tryz.underlying32 rfl (by kernel_rfl) ?_))
 go_fit (HF.out _ bb)
 rintro e w1 ⟨rfl, b1⟩
 replace kf := kf.below b1
 replace kt := kt.below b1
 replace bb := Below.after bb b1
 clear b1
 go_wp2_with (first | (refine wpList_load_rowG (by rfl) 28 _ rfl _ rfl 28 _ (0, 0) _ kf Tryz.underlying28 rfl (by kernel_rfl) ?_) | (refine wpList_load_rowG (by rfl) 32 _ rfl _ rfl 32 _ (0, 0) _ kt Tryz.underlying32 rfl (by kernel_rfl) ?_))
 go_fit (HT.out _ bb)
 rintro e w2 ⟨rfl, b1⟩
 replace kf := kf.below b1
 replace kt := kt.below b1
 replace bb := Below.after bb b1
 clear b1
 go_wp2_with (first | (refine wpList_load_row rfl 28 _ rfl _ rfl 28 _ (0, 0) _ kf Tryz.underlying28 rfl (by kernel_rfl) ?_) | (refine wpList_load_mid rfl 30 _ rfl (w.heap.size + 1) 0 rfl [.bool p0, .string q0, .string r0, .bool p1, .string q1, .string r1] _ (kt.rg 0 [.bool p0, .string q0, .string r0, .bool p1, .string q1, .string r1] [.bool p2, .string q2, .string r2, .bool p3, .string q3, .string r3, .bool p4, .string q4, .string r4, .bool p5, .string q5, .string r5] rfl) Tryz.underlying30 rfl (by kernel_rfl) ?_) | (refine wpList_load_mid rfl 30 _ rfl (w.heap.size + 1) 6 rfl [.bool p2, .string q2, .string r2, .bool p3, .string q3, .string r3] _ (kt.rg 6 [.bool p2, .string q2, .string r2, .bool p3, .string q3, .string r3] [.bool p4, .string q4, .string r4, .bool p5, .string q5, .string r5] rfl) Tryz.underlying30 rfl (by kernel_rfl) ?_) | (refine wpList_load_mid rfl 30 _ rfl (w.heap.size + 1) 12 rfl [.bool p4, .string q4, .string r4, .bool p5, .string q5, .string r5] _ (kt.rg 12 [.bool p4, .string q4, .string r4, .bool p5, .string q5, .string r5] [] rfl) Tryz.underlying30 rfl (by kernel_rfl) ?_))
 go_fit (HI.out _ bb)
 rintro e w3 ⟨rfl, b1⟩
 replace kf := kf.below b1
 replace kt := kt.below b1
 replace bb := Below.after bb b1
 clear b1
 go_upto_region 4 with fail
 obtain ⟨v3, hq, ka, b1⟩ := mk1 w3 [.bool aN, .string aS, .string aD] 26
 rw [← hq]
 clear hq
 replace kf := kf.below b1
 replace kt := kt.below b1
 replace bb := Below.after bb b1
 clear b1
 go_wp2_with (first | (refine wpList_load_row rfl 28 _ rfl _ rfl 28 _ (0, 0) _ kf Tryz.underlying28 rfl (by kernel_rfl) ?_) | (refine wpList_load_mid rfl 30 _ rfl (w.heap.size + 1) 0 rfl [.bool p0, .string q0, .string r0, .bool p1, .string q1, .string r1] _ (kt.rg 0 [.bool p0, .string q0, .string r0, .bool p1, .string q1, .string r1] [.bool p2, .string q2, .string r2, .bool p3, .string q3, .string r3, .bool p4, .string q4, .string r4, .bool p5, .string q5, .string r5] rfl) Tryz.underlying30 rfl (by kernel_rfl) ?_) | (refine wpList_load_mid rfl 30 _ rfl (w.heap.size + 1) 6 rfl [.bool p2, .string q2, .string r2, .bool p3, .string q3, .string r3] _ (kt.rg 6 [.bool p2, .string q2, .string r2, .bool p3, .string q3, .string r3] [.bool p4, .string q4, .string r4, .bool p5, .string q5, .string r5] rfl) Tryz.underlying30 rfl (by kernel_rfl) ?_) | (refine wpList_load_mid rfl 30 _ rfl (w.heap.size + 1) 12 rfl [.bool p4, .string q4, .string r4, .bool p5, .string q5, .string r5] _ (kt.rg 12 [.bool p4, .string q4, .string r4, .bool p5, .string q5, .string r5] [] rfl) Tryz.underlying30 rfl (by kernel_rfl) ?_))
 go_fit (HX.out _ bb)
 rintro e w4 ⟨rfl, b1⟩
 replace kf := kf.below b1
 replace kt := kt.below b1
 replace ka := ka.below b1
 replace bb := Below.after bb b1
 clear b1
 go_upto_region 5 with fail
 obtain ⟨v4, hq, kx, b1⟩ := mk1 w4 [.bool xN, .string xS, .string xD, .bool yN, .string yS, .string yD, .bool zN, .string zS, .string zD] 43
 rw [← hq]
 clear hq
 replace kf := kf.below b1
 replace kt := kt.below b1
 replace ka := ka.below b1
 replace bb := Below.after bb b1
 clear b1
 go_wp2_with (first | (refine wpList_load_row rfl 28 _ rfl _ rfl 28 _ (0, 0) _ kf Tryz.underlying28 rfl (by kernel_rfl) ?_) | (refine wpList_load_mid rfl 30 _ rfl (w.heap.size + 1) 0 rfl [.bool p0, .string q0, .string r0, .bool p1, .string q1, .string r1] _ (kt.rg 0 [.bool p0, .string q0, .string r0, .bool p1, .string q1, .string r1] [.bool p2, .string q2, .string r2, .bool p3, .string q3, .string r3, .bool p4, .string q4, .string r4, .bool p5, .string q5, .string r5] rfl) Tryz.underlying30 rfl (by kernel_rfl) ?_) | (refine wpList_load_mid rfl 30 _ rfl (w.heap.size + 1) 6 rfl [.bool p2, .string q2, .string r2, .bool p3, .string q3, .string r3] _ (kt.rg 6 [.bool p2, .string q2, .string r2, .bool p3, .string q3, .string r3] [.bool p4, .string q4, .string r4, .bool p5, .string q5, .string r5] rfl) Tryz.underlying30 rfl (by kernel_rfl) ?_) | (refine wpList_load_mid rfl 30 _ rfl (w.heap.size + 1) 12 rfl [.bool p4, .string q4, .string r4, .bool p5, .string q5, .string r5] _ (kt.rg 12 [.bool p4, .string q4, .string r4, .bool p5, .string q5, .string r5] [] rfl) Tryz.underlying30 rfl (by kernel_rfl) ?_))
 go_fit (HY.out _ bb)
 rintro e w5 ⟨rfl, b1⟩
 replace kf := kf.below b1
 replace kt := kt.below b1
 replace ka := ka.below b1
 replace kx := kx.below b1
 replace bb := Below.after bb b1
 clear b1
 go_upto_region 6 with fail
 obtain ⟨v5, hq, ky, b1⟩ := mk1 w5 [.bool yN, .string yS, .string yD, .bool xN, .string xS, .string xD, .bool zN, .string zS, .string zD] 43
 rw [← hq]
 clear hq
 replace kf := kf.below b1
 replace kt := kt.below b1
 replace ka := ka.below b1
 replace kx := kx.below b1
 replace bb := Below.after bb b1
 clear b1
 go_wp2_with (first | (refine wpList_load_row rfl 28 _ rfl _ rfl 28 _ (0, 0) _ kf Tryz.underlying28 rfl (by kernel_rfl) ?_) | (refine wpList_load_mid rfl 30 _ rfl (w.heap.size + 1) 0 rfl [.bool p0, .string q0, .string r0, .bool p1, .string q1, .string r1] _ (kt.rg 0 [.bool p0, .string q0, .string r0, .bool p1, .string q1, .string r1] [.bool p2, .string q2, .string r2, .bool p3, .string q3, .string r3, .bool p4, .string q4, .string r4, .bool p5, .string q5, .string r5] rfl) Tryz.underlying30 rfl (by kernel_rfl) ?_) | (refine wpList_load_mid rfl 30 _ rfl (w.heap.size + 1) 6 rfl [.bool p2, .string q2, .string r2, .bool p3, .string q3, .string r3] _ (kt.rg 6 [.bool p2, .string q2, .string r2, .bool p3, .string q3, .string r3] [.bool p4, .string q4, .string r4, .bool p5, .string q5, .string r5] rfl) Tryz.underlying30 rfl (by kernel_rfl) ?_) | (refine wpList_load_mid rfl 30 _ rfl (w.heap.size + 1) 12 rfl [.bool p4, .string q4, .string r4, .bool p5, .string q5, .string r5] _ (kt.rg 12 [.bool p4, .string q4, .string r4, .bool p5, .string q5, .string r5] [] rfl) Tryz.underlying30 rfl (by kernel_rfl) ?_))
 go_fit (HS.out _ bb)
 rintro e w6 ⟨rfl, b1⟩
 replace kf := kf.below b1
 replace kt := kt.below b1
 replace ka := ka.below b1
 replace kx := kx.below b1
 replace ky := ky.below b1
 replace bb := Below.after bb b1
 clear b1
 go_upto_region 7 with fail
 obtain ⟨v6, hq, ks, b1⟩ := mk1 w6 [.bool tN, .string tS, .string tD] 26
 rw [← hq]
 clear hq
 replace kf := kf.below b1
 replace kt := kt.below b1
 replace ka := ka.below b1
 replace kx := kx.below b1
 replace ky := ky.below b1
 replace bb := Below.after bb b1
 clear b1
 go_wp2_with (first | (refine wpList_load_row rfl 28 _ rfl _ rfl 28 _ (0, 0) _ kf Tryz.underlying28 rfl (by kernel_rfl) ?_) | (refine wpList_load_mid rfl 30 _ rfl (w.heap.size + 1) 0 rfl [.bool p0, .string q0, .string r0, .bool p1, .string q1, .string r1] _ (kt.rg 0 [.bool p0, .string q0, .string r0, .bool p1, .string q1, .string r1] [.bool p2, .string q2, .string r2, .bool p3, .string q3, .string r3, .bool p4, .string q4, .string r4, .bool p5, .string q5, .string r5] rfl) Tryz.underlying30 rfl (by kernel_rfl) ?_) | (refine wpList_load_mid rfl 30 _ rfl (w.heap.size + 1) 6 rfl [.bool p2, .string q2, .string r2, .bool p3, .string q3, .string r3] _ (kt.rg 6 [.bool p2, .string q2, .string r2, .bool p3, .string q3, .string r3] [.bool p4, .string q4, .string r4, .bool p5, .string q5, .string r5] rfl) Tryz.underlying30 rfl (by kernel_rfl) ?_) | (refine wpList_load_mid rfl 30 _ rfl (w.heap.size + 1) 12 rfl [.bool p4, .string q4, .string r4, .bool p5, .string q5, .string r5] _ (kt.rg 12 [.bool p4, .string q4, .string r4, .bool p5, .string q5, .string r5] [] rfl) Tryz.underlying30 rfl (by kernel_rfl) ?_))
 go_fit (HU.out _ bb)
 rintro e w7 ⟨rfl, b1⟩
 replace kf := kf.below b1
 replace kt := kt.below b1
 replace ka := ka.below b1
 replace kx := kx.below b1
 replace ky := ky.below b1
 replace ks := ks.below b1
 replace bb := Below.after bb b1
 clear b1
 go_upto_region 8 with fail
 obtain ⟨v7, hq, ku, b1⟩ := mk1 w7 [.bool tN, .string tS, .string tD] 26
 rw [← hq]
 clear hq
 replace kf := kf.below b1
 replace kt := kt.below b1
 replace ka := ka.below b1
 replace kx := kx.below b1
 replace ky := ky.below b1
 replace ks := ks.below b1
 replace bb := Below.after bb b1
 clear b1
 clear kt
 go_upto_region 10 with fail
 have mk : Hid (∀ w', SB v7 w' → w'.cell? ⟨w4.heap.size, 0, none⟩ = some (.bool xN) ∧ w'.cell? ⟨w4.heap.size, 1, none⟩ = some (.string xS) ∧ w'.cell? ⟨w4.heap.size, 2, none⟩ = some (.string xD) ∧ w'.cell? ⟨w4.heap.size, 3, none⟩ = some (.bool yN) ∧ w'.cell? ⟨w4.heap.size, 4, none⟩ = some (.string yS) ∧ w'.cell? ⟨w4.heap.size, 5, none⟩ = some (.string yD) ∧ w'.cell? ⟨w4.heap.size, 6, none⟩ = some (.bool zN) ∧ w'.cell? ⟨w4.heap.size, 7, none⟩ = some (.string zS) ∧ w'.cell? ⟨w4.heap.size, 8, none⟩ = some (.string zD)) := fun w' h => by
  have kx' := kx.below h
  exact ⟨kx'.cell 0, kx'.cell 1, kx'.cell 2, kx'.cell 3, kx'.cell 4, kx'.cell 5, kx'.cell 6, kx'.cell 7, kx'.cell 8⟩
 go_cut [15] from 100 to 107 (fun v wx => ∃ gc, v = .pointer (some ⟨gc, 0, none⟩) ∧ v7.heap.size ≤ gc ∧ Cel wx gc [.bool aN, .string aS, .string aD] 26 ∧ Below v7.heap.size v7 wx)
 case first =>
  refine wp_region_held_drew (S := SB v7) (by kernel_rfl) (bdrew _) (fun bc => ?_)
  refine WA.start (n := 10) (by kernel_rfl) ?_
  refine WA.tk 0 rfl ?_
  refine WA.tl 1 rfl ?_
  refine WA.tk 2 rfl ?_
  refine WA.tl 3 rfl ?_
  refine WA.tk 4 rfl ?_
  refine WA.tl 5 rfl ?_
  refine WA.genZ (i := 8) (s := 15) (Pt v7 [.bool false, .string { data := #[] }, .string { data := #[] }] 26) (fun b x hz => ?_)
  simp only [Act.put, List.setIfInBounds_toArray, List.set_cons_zero, List.set_cons_succ]
  revert b x
  refine WA.one 10 63 6 8 rfl rfl bc ?_
  clear bc
  intro b x w' hz bx bc K hK
  clear bx
  simp only [List.getElem_toArray, List.getElem_cons_succ, List.getElem_cons_zero]
  go_simp
  go_fit (H1.out _)
  rintro e wn ⟨rfl, bn⟩
  replace bc := Below.after bc bn
  try go_wp2_with fail
  refine hK.out _ _ bc (fun _ => ?_)
  replace hz := fun h => (hz h).below bn
  clear hK K bn
  revert b x
  refine WA.one 10 127 7 8 rfl rfl bc ?_
  clear bc
  intro b x w' hz bx bc K hK
  clear bx
  simp only [List.getElem_toArray, List.getElem_cons_succ, List.getElem_cons_zero]
  go_simp
  go_fit (H2.out _)
  rintro e wn ⟨rfl, bn⟩
  replace bc := Below.after bc bn
  try go_wp2_with fail
  refine hK.out _ _ bc (fun _ => ?_)
  replace hz := fun h => (hz h).below bn
  clear hK K bn
  revert b x
  refine WA.fin 8 rfl bc ?_
  clear bc
  intro x w' hz bx bc
  obtain ⟨g0, rfl, h0, k0⟩ := hz
  clear bx
  obtain ⟨e0, e1, e2⟩ := xk3 k0
  have f0 := Cel.frozen k0 0
  have f1 := Cel.frozen k0 1
  have f2 := Cel.frozen k0 2
  refine WA.call 9 rfl (fun K hK => ?_)
  simp only [List.getElem_toArray, List.getElem_cons_succ, List.getElem_cons_zero]
  go_simp
  try go_wp2_with fail
  clear e0 e1 e2 f0 f1 f2
  replace bc := bset (bset (bset bc h0 0 (.bool aN)) h0 1 (.string aS)) h0 2 (.string aD)
  refine hK.out _ _ bc (fun _ => ?_)
  clear hK K
  replace k0 := ((k0.set 0 (.bool aN)).set 1 (.string aS)).set 2 (.string aD)
  refine WA.done (by kernel_rfl) ?_
  go_wp2_with fail
  go_meet
  exact ⟨_, rfl, h0, k0, bc⟩
 case rest =>
  obtain ⟨gl, rfl, hgl, kl, b1⟩ := hcut
  clear mk
  replace kf := kf.below b1
  replace ka := ka.below b1
  replace kx := kx.below b1
  replace ky := ky.below b1
  replace ks := ks.below b1
  replace ku := ku.below b1
  replace bb := Below.after bb b1
  clear b1
  go_upto_region 11 with fail
  have bd := bdrew wc
  replace kf := kf.below bd
  replace ka := ka.below bd
  replace kx := kx.below bd
  replace ky := ky.below bd
  replace ks := ks.below bd
  replace ku := ku.below bd
  replace kl := kl.below bd
  replace bb := Below.after bb bd
  clear bd
  refine wp_region_held_drew (S := fun w' => w'.rangeAt (gl) 0 [.bool aN, .string aS, .string aD] ∧ w'.rangeAt (w3.heap.size) 0 [.bool aN, .string aS, .string aD] ∧ w'.rangeAt (w4.heap.size) 0 [.bool xN, .string xS, .string xD] ∧ w'.rangeAt (w4.heap.size) 3 [.bool yN, .string yS, .string yD] ∧ w'.rangeAt (w4.heap.size) 6 [.bool zN, .string zS, .string zD] ∧ w'.rangeAt (w5.heap.size) 0 [.bool yN, .string yS, .string yD] ∧ w'.rangeAt (w5.heap.size) 3 [.bool xN, .string xS, .string xD] ∧ w'.rangeAt (w5.heap.size) 6 [.bool zN, .string zS, .string zD] ∧ w'.rangeAt (w6.heap.size) 0 [.bool tN, .string tS, .string tD] ∧ w'.rangeAt (w7.heap.size) 0 [.bool tN, .string tS, .string tD] ∧ w'.rangeAt (w.heap.size) 0 [.bool n0, .string s0, .string d0, .bool n1, .string s1, .string d1, .bool n2, .string s2, .string d2, .bool n3, .string s3, .string d3, .bool n4, .string s4, .string d4, .bool n5, .string s5, .string d5]) (by kernel_rfl) ⟨kl.rg 0 [.bool aN, .string aS, .string aD] [] rfl, ka.rg 0 [.bool aN, .string aS, .string aD] [] rfl, kx.rg 0 [.bool xN, .string xS, .string xD] [.bool yN, .string yS, .string yD, .bool zN, .string zS, .string zD] rfl, kx.rg 3 [.bool yN, .string yS, .string yD] [.bool zN, .string zS, .string zD] rfl, kx.rg 6 [.bool zN, .string zS, .string zD] [] rfl, ky.rg 0 [.bool yN, .string yS, .string yD] [.bool xN, .string xS, .string xD, .bool zN, .string zS, .string zD] rfl, ky.rg 3 [.bool xN, .string xS, .string xD] [.bool zN, .string zS, .string zD] rfl, ky.rg 6 [.bool zN, .string zS, .string zD] [] rfl, ks.rg 0 [.bool tN, .string tS, .string tD] [] rfl, ku.rg 0 [.bool tN, .string tS, .string tD] [] rfl, kf.rg 0 [.bool n0, .string s0, .string d0, .bool n1, .string s1, .string d1, .bool n2, .string s2, .string d2, .bool n3, .string s3, .string d3, .bool n4, .string s4, .string d4, .bool n5, .string s5, .string d5] [] rfl⟩ (fun hS => ?_)
  generalize wc.drew = wd at *
  refine WA.start (n := 46) (by kernel_rfl) ?_
  refine WA.tp 0 rfl ?_ (hy := yieldsIf_load_mid (by rfl) 26 _ rfl (gl) 0 rfl [.bool aN, .string aS, .string aD] _ (fun w' h => h.1) Tryz.underlying26 rfl (by kernel_rfl))
  refine WA.tp 1 rfl ?_ (hy := yieldsIf_load_mid (by rfl) 26 _ rfl (w3.heap.size) 0 rfl [.bool aN, .string aS, .string aD] _ (fun w' h => h.2.1) Tryz.underlying26 rfl (by kernel_rfl))
  refine WA.tp 2 rfl ?_
  refine WA.tp 3 rfl ?_
  refine WA.tp 4 rfl ?_
  refine WA.tp 5 rfl ?_ (hy := yieldsIf_load_mid (by rfl) 26 _ rfl (w4.heap.size) 0 rfl [.bool xN, .string xS, .string xD] _ (fun w' h => h.2.2.1) Tryz.underlying26 rfl (by kernel_rfl))
  refine WA.tp 6 rfl ?_
  refine WA.tp 7 rfl ?_ (hy := yieldsIf_load_mid (by rfl) 26 _ rfl (w5.heap.size) 3 rfl [.bool xN, .string xS, .string xD] _ (fun w' h => h.2.2.2.2.2.2.1) Tryz.underlying26 rfl (by kernel_rfl))
  refine WA.tp 8 rfl ?_
  refine WA.tp 9 rfl ?_
  refine WA.tp 10 rfl ?_
  refine WA.tp 11 rfl ?_
  refine WA.tp 12 rfl ?_ (hy := yieldsIf_load_mid (by rfl) 26 _ rfl (w4.heap.size) 3 rfl [.bool yN, .string yS, .string yD] _ (fun w' h => h.2.2.2.1) Tryz.underlying26 rfl (by kernel_rfl))
  refine WA.tp 13 rfl ?_
  refine WA.tp 14 rfl ?_ (hy := yieldsIf_load_mid (by rfl) 26 _ rfl (w5.heap.size) 0 rfl [.bool yN, .string yS, .string yD] _ (fun w' h => h.2.2.2.2.2.1) Tryz.underlying26 rfl (by kernel_rfl))
  refine WA.tp 15 rfl ?_
  refine WA.tp 16 rfl ?_
  refine WA.tp 17 rfl ?_
  refine WA.tp 18 rfl ?_
  refine WA.tp 19 rfl ?_ (hy := yieldsIf_load_mid (by rfl) 26 _ rfl (w4.heap.size) 6 rfl [.bool zN, .string zS, .string zD] _ (fun w' h => h.2.2.2.2.1) Tryz.underlying26 rfl (by kernel_rfl))
  refine WA.tp 20 rfl ?_
  refine WA.tp 21 rfl ?_ (hy := yieldsIf_load_mid (by rfl) 26 _ rfl (w5.heap.size) 6 rfl [.bool zN, .string zS, .string zD] _ (fun w' h => h.2.2.2.2.2.2.2.1) Tryz.underlying26 rfl (by kernel_rfl))
  refine WA.tp 22 rfl ?_
  refine WA.tp 23 rfl ?_
  refine WA.tp 24 rfl ?_
  refine WA.tp 25 rfl ?_ (hy := yieldsIf_load_mid (by rfl) 26 _ rfl (w6.heap.size) 0 rfl [.bool tN, .string tS, .string tD] _ (fun w' h => h.2.2.2.2.2.2.2.2.1) Tryz.underlying26 rfl (by kernel_rfl))
  refine WA.tp 26 rfl ?_ (hy := yieldsIf_load_mid (by rfl) 26 _ rfl (w7.heap.size) 0 rfl [.bool tN, .string tS, .string tD] _ (fun w' h => h.2.2.2.2.2.2.2.2.2.1) Tryz.underlying26 rfl (by kernel_rfl))
  refine WA.tp 27 rfl ?_
  refine WA.tp 28 rfl ?_
  refine WA.tp 29 rfl ?_
  refine WA.tp 30 rfl ?_ (hy := yieldsIf_load_mid (by rfl) 26 _ rfl (w6.heap.size) 0 rfl [.bool tN, .string tS, .string tD] _ (fun w' h => h.2.2.2.2.2.2.2.2.1) Tryz.underlying26 rfl (by kernel_rfl))
  refine WA.tp 33 rfl ?_ (hy := yieldsIf_load_mid (by rfl) 28 _ rfl (w.heap.size) 0 rfl [.bool n0, .string s0, .string d0, .bool n1, .string s1, .string d1, .bool n2, .string s2, .string d2, .bool n3, .string s3, .string d3, .bool n4, .string s4, .string d4, .bool n5, .string s5, .string d5] _ (fun w' h => h.2.2.2.2.2.2.2.2.2.2) Tryz.underlying28 rfl (by kernel_rfl))
  clear hS
  refine WA.cal 31 rfl (fun K hK => ?_)
  simp only [List.getElem_toArray, List.getElem_cons_succ, List.getElem_cons_zero]
  go_simp
  go_fit (HG.out _)
  rintro e wm31 ⟨rfl, b1⟩
  replace kf := kf.below b1
  replace ka := ka.below b1
  replace kx := kx.below b1
  replace ky := ky.below b1
  replace ks := ks.below b1
  replace ku := ku.below b1
  replace kl := kl.below b1
  replace bb := Below.after bb b1
  clear b1
  try go_wp2_with fail
  refine hK.out _ _ ⟨kl.rg 0 [.bool aN, .string aS, .string aD] [] rfl, ka.rg 0 [.bool aN, .string aS, .string aD] [] rfl, kx.rg 0 [.bool xN, .string xS, .string xD] [.bool yN, .string yS, .string yD, .bool zN, .string zS, .string zD] rfl, kx.rg 3 [.bool yN, .string yS, .string yD] [.bool zN, .string zS, .string zD] rfl, kx.rg 6 [.bool zN, .string zS, .string zD] [] rfl, ky.rg 0 [.bool yN, .string yS, .string yD] [.bool xN, .string xS, .string xD, .bool zN, .string zS, .string zD] rfl, ky.rg 3 [.bool xN, .string xS, .string xD] [.bool zN, .string zS, .string zD] rfl, ky.rg 6 [.bool zN, .string zS, .string zD] [] rfl, ks.rg 0 [.bool tN, .string tS, .string tD] [] rfl, ku.rg 0 [.bool tN, .string tS, .string tD] [] rfl, kf.rg 0 [.bool n0, .string s0, .string d0, .bool n1, .string s1, .string d1, .bool n2, .string s2, .string d2, .bool n3, .string s3, .string d3, .bool n4, .string s4, .string d4, .bool n5, .string s5, .string d5] [] rfl⟩ (fun hS => ?_)
  clear hK K
  refine WA.tp 32 rfl ?_
  clear hS
  refine WA.cal 34 rfl (fun K hK => ?_)
  simp only [List.getElem_toArray, List.getElem_cons_succ, List.getElem_cons_zero]
  go_simp
  go_fit (HZ.out _)
  rintro e wm34 ⟨rfl, b1⟩
  replace kf := kf.below b1
  replace ka := ka.below b1
  replace kx := kx.below b1
  replace ky := ky.below b1
  replace ks := ks.below b1
  replace ku := ku.below b1
  replace kl := kl.below b1
  replace bb := Below.after bb b1
  clear b1
  try go_wp2_with fail
  refine hK.out _ _ ⟨kl.rg 0 [.bool aN, .string aS, .string aD] [] rfl, ka.rg 0 [.bool aN, .string aS, .string aD] [] rfl, kx.rg 0 [.bool xN, .string xS, .string xD] [.bool yN, .string yS, .string yD, .bool zN, .string zS, .string zD] rfl, kx.rg 3 [.bool yN, .string yS, .string yD] [.bool zN, .string zS, .string zD] rfl, kx.rg 6 [.bool zN, .string zS, .string zD] [] rfl, ky.rg 0 [.bool yN, .string yS, .string yD] [.bool xN, .string xS, .string xD, .bool zN, .string zS, .string zD] rfl, ky.rg 3 [.bool xN, .string xS, .string xD] [.bool zN, .string zS, .string zD] rfl, ky.rg 6 [.bool zN, .string zS, .string zD] [] rfl, ks.rg 0 [.bool tN, .string tS, .string tD] [] rfl, ku.rg 0 [.bool tN, .string tS, .string tD] [] rfl, kf.rg 0 [.bool n0, .string s0, .string d0, .bool n1, .string s1, .string d1, .bool n2, .string s2, .string d2, .bool n3, .string s3, .string d3, .bool n4, .string s4, .string d4, .bool n5, .string s5, .string d5] [] rfl⟩ (fun hS => ?_)
  clear hK K
  refine WA.tp 35 rfl ?_
  refine WA.tp 36 rfl ?_
  refine WA.tp 37 rfl ?_
  refine WA.tp 38 rfl ?_ (hy := yieldsIf_load_mid (by rfl) 26 _ rfl (w6.heap.size) 0 rfl [.bool tN, .string tS, .string tD] _ (fun w' h => h.2.2.2.2.2.2.2.2.1) Tryz.underlying26 rfl (by kernel_rfl))
  clear hS
  refine WA.cal 39 rfl (fun K hK => ?_)
  simp only [List.getElem_toArray, List.getElem_cons_succ, List.getElem_cons_zero]
  go_simp
  go_fit (HG.out _)
  rintro e wm39 ⟨rfl, b1⟩
  replace kf := kf.below b1
  replace ka := ka.below b1
  replace kx := kx.below b1
  replace ky := ky.below b1
  replace ks := ks.below b1
  replace ku := ku.below b1
  replace kl := kl.below b1
  replace bb := Below.after bb b1
  clear b1
  try go_wp2_with fail
  refine hK.out _ _ ⟨kl.rg 0 [.bool aN, .string aS, .string aD] [] rfl, ka.rg 0 [.bool aN, .string aS, .string aD] [] rfl, kx.rg 0 [.bool xN, .string xS, .string xD] [.bool yN, .string yS, .string yD, .bool zN, .string zS, .string zD] rfl, kx.rg 3 [.bool yN, .string yS, .string yD] [.bool zN, .string zS, .string zD] rfl, kx.rg 6 [.bool zN, .string zS, .string zD] [] rfl, ky.rg 0 [.bool yN, .string yS, .string yD] [.bool xN, .string xS, .string xD, .bool zN, .string zS, .string zD] rfl, ky.rg 3 [.bool xN, .string xS, .string xD] [.bool zN, .string zS, .string zD] rfl, ky.rg 6 [.bool zN, .string zS, .string zD] [] rfl, ks.rg 0 [.bool tN, .string tS, .string tD] [] rfl, ku.rg 0 [.bool tN, .string tS, .string tD] [] rfl, kf.rg 0 [.bool n0, .string s0, .string d0, .bool n1, .string s1, .string d1, .bool n2, .string s2, .string d2, .bool n3, .string s3, .string d3, .bool n4, .string s4, .string d4, .bool n5, .string s5, .string d5] [] rfl⟩ (fun hS => ?_)
  clear hK K
  refine WA.tp 40 rfl ?_
  refine WA.tp 41 rfl ?_
  refine WA.tp 42 rfl ?_
  clear hS
  refine WA.cal 43 rfl (fun K hK => ?_)
  simp only [List.getElem_toArray, List.getElem_cons_succ, List.getElem_cons_zero]
  go_simp
  go_fit (HL.out _ bb)
  rintro e wm43 ⟨rfl, b1⟩
  replace kf := kf.below b1
  replace ka := ka.below b1
  replace kx := kx.below b1
  replace ky := ky.below b1
  replace ks := ks.below b1
  replace ku := ku.below b1
  replace kl := kl.below b1
  replace bb := Below.after bb b1
  clear b1
  try go_wp2_with fail
  refine hK.out _ _ ⟨kl.rg 0 [.bool aN, .string aS, .string aD] [] rfl, ka.rg 0 [.bool aN, .string aS, .string aD] [] rfl, kx.rg 0 [.bool xN, .string xS, .string xD] [.bool yN, .string yS, .string yD, .bool zN, .string zS, .string zD] rfl, kx.rg 3 [.bool yN, .string yS, .string yD] [.bool zN, .string zS, .string zD] rfl, kx.rg 6 [.bool zN, .string zS, .string zD] [] rfl, ky.rg 0 [.bool yN, .string yS, .string yD] [.bool xN, .string xS, .string xD, .bool zN, .string zS, .string zD] rfl, ky.rg 3 [.bool xN, .string xS, .string xD] [.bool zN, .string zS, .string zD] rfl, ky.rg 6 [.bool zN, .string zS, .string zD] [] rfl, ks.rg 0 [.bool tN, .string tS, .string tD] [] rfl, ku.rg 0 [.bool tN, .string tS, .string tD] [] rfl, kf.rg 0 [.bool n0, .string s0, .string d0, .bool n1, .string s1, .string d1, .bool n2, .string s2, .string d2, .bool n3, .string s3, .string d3, .bool n4, .string s4, .string d4, .bool n5, .string s5, .string d5] [] rfl⟩ (fun hS => ?_)
  clear hK K
  refine WA.tp 44 rfl ?_
  refine WA.tp 45 rfl ?_
  refine WA.done (by kernel_rfl) ?_
  clear hS
  clear kf ka kx ky ks ku kl
  go_wp2
  go_ret
  exact ⟨rfl, bb⟩
theorem hw : ∀ k, k < 3 → ∀ j, j < 6 → -100 ≤ ldW k j ∧ ldW k j ≤ 100 := by decide
theorem rabs_nn {x : Rat} (h : 0 ≤ x) : rabs x = x := by
 unfold rabs
 rw [Int.natAbs_of_nonneg (Rat.num_nonneg.2 h)]
 exact Rat.mkRat_self x
theorem rabs_pos {x : Rat} (h : x ≠ 0) : 0 < rabs x := by
 rcases Rat.le_total (a := 0) (b := x) with q | q
 ·rw [rabs_nn q]
  grind
 ·rw [← rabs_neg, rabs_nn (by grind)]
  grind
theorem ev_zero {r : Nat → Rat} (h : ∀ k, k < 6 → r k = 0) (x y : Rat) : ev r x y = 0 := by
 unfold ev
 rw [h 0 (by omega), h 1 (by omega), h 2 (by omega), h 3 (by omega), h 4 (by omega), h 5 (by omega)]
 grind
theorem qs_of_zero {F : Nat → Rat} (h : ∀ k, k < 6 → F k = 0) : qs F = 0 := by
 rw [qs_eq, h 0 (by omega), h 1 (by omega), h 2 (by omega), h 3 (by omega), h 4 (by omega), h 5 (by omega)]
 grind
theorem allB_true {b : Nat → Bool} : ∀ {n : Nat}, (∀ k, k < n → b k = true) → allB b n = true
 | 0, _ => rfl
 | n + 1, h => by
  unfold allB
  rw [allB_true (fun k hk => h k (by omega)), h n (by omega)]
  rfl
theorem third_pos (n : Nat) (h : 0 < n) : 0 < Rat.divInt 1 (n : Nat) := by
 have := frac_one h
 have h2 : (0 : Rat) < ((n : Nat) : Rat) := by
  have : ((0 : Nat) : Rat) < ((n : Nat) : Rat) := Rat.natCast_lt_natCast.2 h
  exact this
 by_cases e : Rat.divInt 1 (n : Nat) = 0
 ·rw [e] at this
  grind
 ·by_cases q : 0 < Rat.divInt 1 (n : Nat)
  ·exact q
  ·have := Rat.mul_nonneg (Rat.le_of_lt h2) (show 0 ≤ -Rat.divInt 1 (n : Nat) by grind)
   grind
theorem parts7_law (n0 n1 n2 n3 n4 n5 p0 p1 p2 p3 p4 p5 : Bool) (s0 d0 s1 d1 s2 d2 s3 d3 s4 d4 s5 d5 q0 r0 q1 r1 q2 r2 q3 r3 q4 r4 q5 r5 : ByteArray) (w : World) (hT : Tab w) (hP : PTab w) (hQ : LTab w) :
  Calls Tryz.prog 6 #[.agg #[.bool n0, .string s0, .string d0, .bool n1, .string s1, .string d1, .bool n2, .string s2, .string d2, .bool n3, .string s3, .string d3, .bool n4, .string s4, .string d4, .bool n5, .string s5, .string d5], .agg #[.bool p0, .string q0, .string r0, .bool p1, .string q1, .string r1, .bool p2, .string q2, .string r2, .bool p3, .string q3, .string r3, .bool p4, .string q4, .string r4, .bool p5, .string q5, .string r5]] w (Re w (.bool true)) := by
 have HL : ∀ w1, Below w.heap.size w w1 → Calls Tryz.prog 9 #[] w1 (Re w1 (.bool true)) := fun w1 b => live7_any w1 (hT.below b) (hP.below b)
 cases hb : (allB (fun k => sh7 (six6 s0 s1 s2 s3 s4 s5 k) (six6 d0 d1 d2 d3 d4 d5 k)) 6 && allB (fun k => sh7 (f4 q0 q2 q4 q4 k) (f4 r0 r2 r4 r4 k) && sh7 (f4 q1 q3 q5 q5 k) (f4 r1 r3 r5 r5 k)) 3) with
 | false =>
  refine parts_l _ _ _ _ _ _ _ _ _ _ _ _ _ _ _ _ _ _ _ _ _ _ _ _ _ _ _ _ _ _ _ _ _ _ _ _ w (fun w1 b => ?_) HL
  have := few7E n0 n1 n2 n3 n4 n5 p0 p1 p2 p3 p4 p5 s0 d0 s1 d1 s2 d2 s3 d3 s4 d4 s5 d5 q0 r0 q1 r1 q2 r2 q3 r3 q4 r4 q5 r5 w1
  rw [hb] at this
  exact this
 | true =>
  have HF : ∀ w1, Below w.heap.size w w1 → Calls Tryz.prog 8 #[.agg #[.bool n0, .string s0, .string d0, .bool n1, .string s1, .string d1, .bool n2, .string s2, .string d2, .bool n3, .string s3, .string d3, .bool n4, .string s4, .string d4, .bool n5, .string s5, .string d5], .agg #[.bool p0, .string q0, .string r0, .bool p1, .string q1, .string r1, .bool p2, .string q2, .string r2, .bool p3, .string q3, .string r3, .bool p4, .string q4, .string r4, .bool p5, .string q5, .string r5]] w1 (Re w1 (.bool true)) := fun w1 b => by
   have := few7E n0 n1 n2 n3 n4 n5 p0 p1 p2 p3 p4 p5 s0 d0 s1 d1 s2 d2 s3 d3 s4 d4 s5 d5 q0 r0 q1 r1 q2 r2 q3 r3 q4 r4 q5 r5 w1
   rw [hb] at this
   exact this
  rcases tri7 n0 n1 n2 n3 n4 n5 p0 p1 p2 p3 p4 p5 s0 d0 s1 d1 s2 d2 s3 d3 s4 d4 s5 d5 q0 r0 q1 r1 q2 r2 q3 r3 q4 r4 q5 r5 hb with ⟨E, hE, H3⟩ | ⟨y0, y1, y2, y3, y4, y5, x0, z0, x1, z1, x2, z2, hf, ht, hr, ⟨b0, c0, b1, c1, b2, c2⟩, hA, H3⟩
  ·exact parts_n _ _ _ _ _ _ _ _ _ _ _ _ _ _ _ _ _ _ _ _ _ _ _ _ _ _ _ _ _ _ _ _ _ _ _ _ E hE w HF (fun w1 _ => H3 w1) HL
  ·rw [hf, ht] at HF ⊢
   clear hf ht hb
   have hs := six_bq x0 z0 x1 z1 x2 z2 b0 c0 b1 c1 b2 c2
   have ba := rabs_bq (area_bqK x0 z0 x1 z1 x2 z2 b0 c0 b1 c1 b2 c2)
   have bl : ∀ k, k < 3 → Bq (rabs ((x1 - x0) * (z2 - z0) - (z1 - z0) * (x2 - x0)) * lsum (ldW k) (Fn (six y0 y1 y2 y3 y4 y5) (six x0 x1 x2 z0 z1 z2)) * Rat.divInt 1 (120 : Nat)) 950 := fun k hk => bq_mono (vqm_mul (vqm_mul ba (lsum_bq hr hs (hw k hk))) (bq_unit 120 (by omega) (by omega))) (by omega)
   have t0 := Fn_t01 (six y0 y1 y2 y3 y4 y5) x0 z0 x1 z1 x2 z2
   have t1 := lod_t01 t0.1 t0.2.1 t0.2.2.1 t0.2.2.2.1 t0.2.2.2.2.1 t0.2.2.2.2.2
   have u0 := Fn_t02 (six y0 y1 y2 y3 y4 y5) x0 z0 x1 z1 x2 z2
   have u1 := qs_t02 u0.1 u0.2.1 u0.2.2.1 u0.2.2.2.1 u0.2.2.2.2.1 u0.2.2.2.2.2
   have a1 := area_t01 x0 z0 x1 z1 x2 z2
   have a2 := area_t02 x0 z0 x1 z1 x2 z2
   have r1 := rabs_neg ((x1 - x0) * (z2 - z0) - (z1 - z0) * (x2 - x0))
   have I1 := fun (w1 : World) (b : Below w.heap.size w w1) => intI (six y0 y1 y2 y3 y4 y5) x0 z0 x1 z1 x2 z2 (K := 30) (by omega) hr b0 c0 b1 c1 b2 c2 w1 (hT.below b) (hP.below b) hA (x := (rabs ((x1 - x0) * (z2 - z0) - (z1 - z0) * (x2 - x0)) * lsum (ldW 0) (Fn (six y0 y1 y2 y3 y4 y5) (six x0 x1 x2 z0 z1 z2)) * Rat.divInt 1 (120 : Nat)) + ((rabs ((x1 - x0) * (z2 - z0) - (z1 - z0) * (x2 - x0)) * lsum (ldW 1) (Fn (six y0 y1 y2 y3 y4 y5) (six x0 x1 x2 z0 z1 z2)) * Rat.divInt 1 (120 : Nat)) + (rabs ((x1 - x0) * (z2 - z0) - (z1 - z0) * (x2 - x0)) * lsum (ldW 2) (Fn (six y0 y1 y2 y3 y4 y5) (six x0 x1 x2 z0 z1 z2)) * Rat.divInt 1 (120 : Nat)))) (by rw [← lds]; grind)
   have X1 := fun (w1 : World) (b : Below w.heap.size w w1) => lodI (six y0 y1 y2 y3 y4 y5) x0 z0 x1 z1 x2 z2 (K := 30) (by omega) hr b0 c0 b1 c1 b2 c2 w1 (hT.below b) (hP.below b) (hQ.below b) hA
   have Y1 := fun (w1 : World) (b : Below w.heap.size w w1) => lodI (six y0 y1 y2 y3 y4 y5) x1 z1 x0 z0 x2 z2 (K := 30) (by omega) hr b1 c1 b0 c0 b2 c2 w1 (hT.below b) (hP.below b) (hQ.below b) (by rw [a1]; grind)
   rw [a1, r1, t1.1, t1.2.1, t1.2.2] at Y1
   have S1 := fun (w1 : World) (b : Below w.heap.size w w1) => squI (six y0 y1 y2 y3 y4 y5) x0 z0 x1 z1 x2 z2 (K := 30) (by omega) hr b0 c0 b1 c1 b2 c2 w1 (hT.below b) (hP.below b) hA (x := (rabs ((x1 - x0) * (z2 - z0) - (z1 - z0) * (x2 - x0)) * qs (Fn (six y0 y1 y2 y3 y4 y5) (six x0 x1 x2 z0 z1 z2)) * Rat.divInt 1 (360 : Nat))) rfl
   have U1 := fun (w1 : World) (b : Below w.heap.size w w1) => squI (six y0 y1 y2 y3 y4 y5) x2 z2 x1 z1 x0 z0 (K := 30) (by omega) hr b2 c2 b1 c1 b0 c0 w1 (hT.below b) (hP.below b) (by rw [a2]; grind) (x := (rabs ((x1 - x0) * (z2 - z0) - (z1 - z0) * (x2 - x0)) * qs (Fn (six y0 y1 y2 y3 y4 y5) (six x0 x1 x2 z0 z1 z2)) * Rat.divInt 1 (360 : Nat))) (by rw [a2, r1, u1])
   have G1 := fun (w1 : World) => rsumI (rabs ((x1 - x0) * (z2 - z0) - (z1 - z0) * (x2 - x0)) * lsum (ldW 1) (Fn (six y0 y1 y2 y3 y4 y5) (six x0 x1 x2 z0 z1 z2)) * Rat.divInt 1 (120 : Nat)) (rabs ((x1 - x0) * (z2 - z0) - (z1 - z0) * (x2 - x0)) * lsum (ldW 2) (Fn (six y0 y1 y2 y3 y4 y5) (six x0 x1 x2 z0 z1 z2)) * Rat.divInt 1 (120 : Nat)) (K := 950) (by omega) (bl 1 (by omega)) (bl 2 (by omega)) w1
   have G2 := fun (w1 : World) => rsumI (rabs ((x1 - x0) * (z2 - z0) - (z1 - z0) * (x2 - x0)) * lsum (ldW 0) (Fn (six y0 y1 y2 y3 y4 y5) (six x0 x1 x2 z0 z1 z2)) * Rat.divInt 1 (120 : Nat)) ((rabs ((x1 - x0) * (z2 - z0) - (z1 - z0) * (x2 - x0)) * lsum (ldW 1) (Fn (six y0 y1 y2 y3 y4 y5) (six x0 x1 x2 z0 z1 z2)) * Rat.divInt 1 (120 : Nat)) + (rabs ((x1 - x0) * (z2 - z0) - (z1 - z0) * (x2 - x0)) * lsum (ldW 2) (Fn (six y0 y1 y2 y3 y4 y5) (six x0 x1 x2 z0 z1 z2)) * Rat.divInt 1 (120 : Nat))) (K := 950 + 950 + 1) (by omega) (bq_mono (bl 0 (by omega)) (by omega)) (vqm_add (bl 1 (by omega)) (bl 2 (by omega))) w1
   have Z1 := fun (w1 : World) => zero7 (six y0 y1 y2 y3 y4 y5) w1
   have N1 := fun (w1 : World) => rsignI (rabs ((x1 - x0) * (z2 - z0) - (z1 - z0) * (x2 - x0)) * qs (Fn (six y0 y1 y2 y3 y4 y5) (six x0 x1 x2 z0 z1 z2)) * Rat.divInt 1 (360 : Nat)) w1
   clear t0 t1 u0 u1 a1 a2 r1
   by_cases hz : qs (Fn (six y0 y1 y2 y3 y4 y5) (six x0 x1 x2 z0 z1 z2)) = 0
   ·have k0 := Fn_zero (six y0 y1 y2 y3 y4 y5) x0 z0 x1 z1 x2 z2 hA (qs_zero hz)
    have kz : ∀ k, k < 6 → decide (Gm.sg ((six y0 y1 y2 y3 y4 y5) k) = 0) = true := fun k hk => by
     rw [decide_eq_true_iff, Gm.sg_eq_zero]
     match k, hk with
     | 0, _ => exact k0.1
     | 1, _ => exact k0.2.1
     | 2, _ => exact k0.2.2.1
     | 3, _ => exact k0.2.2.2.1
     | 4, _ => exact k0.2.2.2.2.1
     | 5, _ => exact k0.2.2.2.2.2
    rw [allB_true kz] at Z1
    rw [show Gm.sg (rabs ((x1 - x0) * (z2 - z0) - (z1 - z0) * (x2 - x0)) * qs (Fn (six y0 y1 y2 y3 y4 y5) (six x0 x1 x2 z0 z1 z2)) * Rat.divInt 1 (360 : Nat)) = 0 by rw [Gm.sg_eq_zero, hz]; grind] at N1
    exact parts_0 _ _ _ _ _ _ _ _ _ _ _ _ _ _ _ _ _ _ _ _ _ _ _ _ _ _ _ _ _ _ _ _ _ _ _ _ _ _ _ _ _ _ _ _ _ _ _ _ _ _ _ _ _ _ w HF (fun w1 _ => H3 w1) HL I1 X1 Y1 S1 U1 G1 G2 N1 Z1
   ·have hp := qs_pos (Fn (six y0 y1 y2 y3 y4 y5) (six x0 x1 x2 z0 z1 z2))
    rw [show Gm.sg (rabs ((x1 - x0) * (z2 - z0) - (z1 - z0) * (x2 - x0)) * qs (Fn (six y0 y1 y2 y3 y4 y5) (six x0 x1 x2 z0 z1 z2)) * Rat.divInt 1 (360 : Nat)) = 1 from Gm.sg_pos (Rat.mul_pos (Rat.mul_pos (rabs_pos hA) (by grind)) (third_pos 360 (by omega)))] at N1
    cases hZ : allB (fun k => decide (Gm.sg ((six y0 y1 y2 y3 y4 y5) k) = 0)) 6 with
    | true =>
     exfalso
     have kz : ∀ k, k < 6 → (six y0 y1 y2 y3 y4 y5) k = 0 := fun k hk => Gm.sg_eq_zero.1 (of_decide_eq_true (allB_all hZ k hk))
     exact hz (qs_of_zero fun k _ => by unfold Fn; exact ev_zero kz _ _)
    | false =>
     rw [hZ] at Z1
     exact parts_1 _ _ _ _ _ _ _ _ _ _ _ _ _ _ _ _ _ _ _ _ _ _ _ _ _ _ _ _ _ _ _ _ _ _ _ _ _ _ _ _ _ _ _ _ _ _ _ _ _ _ _ _ _ _ w HF (fun w1 _ => H3 w1) HL I1 X1 Y1 S1 U1 G1 G2 N1 Z1
end Go.Proofs.YtbafjmjcepcckaaGreatDoor
