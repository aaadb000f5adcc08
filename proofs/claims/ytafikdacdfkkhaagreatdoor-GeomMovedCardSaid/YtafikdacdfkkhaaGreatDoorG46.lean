/-
  Package span: where a fourth point lies.
  Package span: points that may be asked; how they turn, and where one lies.
-/
import Derived.Test.YtafikdacdfkkhaaGreatDoorG41
namespace Go.Proofs.YtafikdacdfkkhaaGreatDoor
open Go.RowKit

set_option maxRecDepth 100000 in
set_option maxHeartbeats 8000000 in
theorem circle_walk (n0 n1 n2 n3 n4 n5 n6 n7 : Bool) (s0 d0 s1 d1 s2 d2 s3 d3 s4 d4 s5 d5 s6 d6 s7 d7 : ByteArray) (ra rb rc rd re rf : Rat) (w : World)
  (H1 : Hid (∀ w1, Calls Tryz.prog 80 #[.agg #[.bool n6, .string s6, .string d6, .bool n7, .string s7, .string d7], .agg #[.bool n0, .string s0, .string d0, .bool n1, .string s1, .string d1]] w1 fun e w' => ∃ m0 a0 l0 c0 m1 a1 l1 c1 a2 l2 c2 X Y U, e = .returned (.agg #[.bool m0, .slice a0 l0 c0, .bool m1, .slice a1 l1 c1, .bool false, .slice a2 l2 c2]) ∧ NV w' m0 (.slice a0 l0 c0) X 53 ∧ NV w' m1 (.slice a1 l1 c1) Y 53 ∧ NV w' false (.slice a2 l2 c2) U 52 ∧ Gm.Way X Y U ra rb ∧ Below w1.heap.size w1 w'))
  (H2 : Hid (∀ w1, Calls Tryz.prog 80 #[.agg #[.bool n6, .string s6, .string d6, .bool n7, .string s7, .string d7], .agg #[.bool n2, .string s2, .string d2, .bool n3, .string s3, .string d3]] w1 fun e w' => ∃ m0 a0 l0 c0 m1 a1 l1 c1 a2 l2 c2 X Y U, e = .returned (.agg #[.bool m0, .slice a0 l0 c0, .bool m1, .slice a1 l1 c1, .bool false, .slice a2 l2 c2]) ∧ NV w' m0 (.slice a0 l0 c0) X 53 ∧ NV w' m1 (.slice a1 l1 c1) Y 53 ∧ NV w' false (.slice a2 l2 c2) U 52 ∧ Gm.Way X Y U rc rd ∧ Below w1.heap.size w1 w'))
  (H3 : Hid (∀ w1, Calls Tryz.prog 80 #[.agg #[.bool n6, .string s6, .string d6, .bool n7, .string s7, .string d7], .agg #[.bool n4, .string s4, .string d4, .bool n5, .string s5, .string d5]] w1 fun e w' => ∃ m0 a0 l0 c0 m1 a1 l1 c1 a2 l2 c2 X Y U, e = .returned (.agg #[.bool m0, .slice a0 l0 c0, .bool m1, .slice a1 l1 c1, .bool false, .slice a2 l2 c2]) ∧ NV w' m0 (.slice a0 l0 c0) X 53 ∧ NV w' m1 (.slice a1 l1 c1) Y 53 ∧ NV w' false (.slice a2 l2 c2) U 52 ∧ Gm.Way X Y U re rf ∧ Below w1.heap.size w1 w')) :
  Calls Tryz.prog 65 #[.agg #[.bool n0, .string s0, .string d0, .bool n1, .string s1, .string d1], .agg #[.bool n2, .string s2, .string d2, .bool n3, .string s3, .string d3], .agg #[.bool n4, .string s4, .string d4, .bool n5, .string s5, .string d5], .agg #[.bool n6, .string s6, .string d6, .bool n7, .string s7, .string d7]] w fun e' w' => e' = .returned (.int .i64 (Gm.sg (Gm.lf ra rb rc rd re rf))) ∧ Below w.heap.size w w' := by
 go_enter Tryz.func65, Tryz.ntmps65
 go_wp2_with fail
 obtain ⟨w0, hw, ka, kb, kc, kd, bb⟩ := mk4 w [.bool n0, .string s0, .string d0, .bool n1, .string s1, .string d1] [.bool n2, .string s2, .string d2, .bool n3, .string s3, .string d3] [.bool n4, .string s4, .string d4, .bool n5, .string s5, .string d5] [.bool n6, .string s6, .string d6, .bool n7, .string s7, .string d7] 28 28 28 28
 rw [← hw]
 clear hw
 go_fit (H1.out _)
 rintro e' x0 ⟨m10, a10, l10, c10, m11, a11, l11, c11, a12, l12, c12, A, B, U, rfl, nv10, nv11, nv12, hw0, b1⟩
 replace kb := kb.below b1
 replace kc := kc.below b1
 replace kd := kd.below b1
 replace bb := Below.after bb b1
 clear b1
 go_wp2_with fail
 go_fit (lifted_any _ _ _ _ _ _ _ _ _ _ _ _ A B U _ nv10 nv11 nv12)
 rintro e' y0 ⟨m13, a13, l13, c13, m14, a14, l14, c14, m15, a15, l15, c15, rfl, nv13, nv14, nv15, b1⟩
 replace kb := kb.below b1
 replace kc := kc.below b1
 replace kd := kd.below b1
 replace bb := Below.after bb b1
 clear b1 nv10 nv11 nv12
 have zd0 := cel6_0 ((kd.alloc (.cells #[.bool m13, .slice a13 l13 c13, .bool m14, .slice a14 l14 c14, .bool false, .slice none 0 0] 82)).alloc (.cells #[.bool m15, .slice a15 l15 c15] 80))
 have zd1 := cel6_1 ((kd.alloc (.cells #[.bool m13, .slice a13 l13 c13, .bool m14, .slice a14 l14 c14, .bool false, .slice none 0 0] 82)).alloc (.cells #[.bool m15, .slice a15 l15 c15] 80))
 have zd2 := cel6_2 ((kd.alloc (.cells #[.bool m13, .slice a13 l13 c13, .bool m14, .slice a14 l14 c14, .bool false, .slice none 0 0] 82)).alloc (.cells #[.bool m15, .slice a15 l15 c15] 80))
 have zd3 := cel6_3 ((kd.alloc (.cells #[.bool m13, .slice a13 l13 c13, .bool m14, .slice a14 l14 c14, .bool false, .slice none 0 0] 82)).alloc (.cells #[.bool m15, .slice a15 l15 c15] 80))
 have zd4 := cel6_4 ((kd.alloc (.cells #[.bool m13, .slice a13 l13 c13, .bool m14, .slice a14 l14 c14, .bool false, .slice none 0 0] 82)).alloc (.cells #[.bool m15, .slice a15 l15 c15] 80))
 have zd5 := cel6_5 ((kd.alloc (.cells #[.bool m13, .slice a13 l13 c13, .bool m14, .slice a14 l14 c14, .bool false, .slice none 0 0] 82)).alloc (.cells #[.bool m15, .slice a15 l15 c15] 80))
 have zb0 := cel6_0 ((kb.alloc (.cells #[.bool m13, .slice a13 l13 c13, .bool m14, .slice a14 l14 c14, .bool false, .slice none 0 0] 82)).alloc (.cells #[.bool m15, .slice a15 l15 c15] 80))
 have zb1 := cel6_1 ((kb.alloc (.cells #[.bool m13, .slice a13 l13 c13, .bool m14, .slice a14 l14 c14, .bool false, .slice none 0 0] 82)).alloc (.cells #[.bool m15, .slice a15 l15 c15] 80))
 have zb2 := cel6_2 ((kb.alloc (.cells #[.bool m13, .slice a13 l13 c13, .bool m14, .slice a14 l14 c14, .bool false, .slice none 0 0] 82)).alloc (.cells #[.bool m15, .slice a15 l15 c15] 80))
 have zb3 := cel6_3 ((kb.alloc (.cells #[.bool m13, .slice a13 l13 c13, .bool m14, .slice a14 l14 c14, .bool false, .slice none 0 0] 82)).alloc (.cells #[.bool m15, .slice a15 l15 c15] 80))
 have zb4 := cel6_4 ((kb.alloc (.cells #[.bool m13, .slice a13 l13 c13, .bool m14, .slice a14 l14 c14, .bool false, .slice none 0 0] 82)).alloc (.cells #[.bool m15, .slice a15 l15 c15] 80))
 have zb5 := cel6_5 ((kb.alloc (.cells #[.bool m13, .slice a13 l13 c13, .bool m14, .slice a14 l14 c14, .bool false, .slice none 0 0] 82)).alloc (.cells #[.bool m15, .slice a15 l15 c15] 80))
 go_wp2_with fail
 obtain ⟨v0, hw, ks0, kn0, b1⟩ := mk2 y0 [.bool m13, .slice a13 l13 c13, .bool m14, .slice a14 l14 c14, .bool false, .slice none 0 0] [.bool m15, .slice a15 l15 c15] 82 80
 rw [← hw]
 clear hw zd0 zd1 zd2 zd3 zd4 zd5 zb0 zb1 zb2 zb3 zb4 zb5
 replace kb := kb.below b1
 replace kc := kc.below b1
 replace kd := kd.below b1
 replace nv13 := nv13.below b1
 replace nv14 := nv14.below b1
 replace nv15 := nv15.below b1
 replace bb := Below.after bb b1
 clear b1
 go_fit (H2.out _)
 rintro e' x1 ⟨m20, a20, l20, c20, m21, a21, l21, c21, a22, l22, c22, C, D, V, rfl, nv20, nv21, nv22, hw1, b1⟩
 replace kb := kb.below b1
 replace kc := kc.below b1
 replace kd := kd.below b1
 replace ks0 := ks0.below b1
 replace kn0 := kn0.below b1
 replace nv13 := nv13.below b1
 replace nv14 := nv14.below b1
 replace nv15 := nv15.below b1
 replace bb := Below.after bb b1
 clear b1
 go_wp2_with fail
 go_fit (lifted_any _ _ _ _ _ _ _ _ _ _ _ _ C D V _ nv20 nv21 nv22)
 rintro e' y1 ⟨m23, a23, l23, c23, m24, a24, l24, c24, m25, a25, l25, c25, rfl, nv23, nv24, nv25, b1⟩
 replace kb := kb.below b1
 replace kc := kc.below b1
 replace kd := kd.below b1
 replace ks0 := ks0.below b1
 replace kn0 := kn0.below b1
 replace nv13 := nv13.below b1
 replace nv14 := nv14.below b1
 replace nv15 := nv15.below b1
 replace bb := Below.after bb b1
 clear b1 nv20 nv21 nv22
 have zd0 := cel6_0 ((kd.alloc (.cells #[.bool m23, .slice a23 l23 c23, .bool m24, .slice a24 l24 c24, .bool false, .slice none 0 0] 82)).alloc (.cells #[.bool m25, .slice a25 l25 c25] 80))
 have zd1 := cel6_1 ((kd.alloc (.cells #[.bool m23, .slice a23 l23 c23, .bool m24, .slice a24 l24 c24, .bool false, .slice none 0 0] 82)).alloc (.cells #[.bool m25, .slice a25 l25 c25] 80))
 have zd2 := cel6_2 ((kd.alloc (.cells #[.bool m23, .slice a23 l23 c23, .bool m24, .slice a24 l24 c24, .bool false, .slice none 0 0] 82)).alloc (.cells #[.bool m25, .slice a25 l25 c25] 80))
 have zd3 := cel6_3 ((kd.alloc (.cells #[.bool m23, .slice a23 l23 c23, .bool m24, .slice a24 l24 c24, .bool false, .slice none 0 0] 82)).alloc (.cells #[.bool m25, .slice a25 l25 c25] 80))
 have zd4 := cel6_4 ((kd.alloc (.cells #[.bool m23, .slice a23 l23 c23, .bool m24, .slice a24 l24 c24, .bool false, .slice none 0 0] 82)).alloc (.cells #[.bool m25, .slice a25 l25 c25] 80))
 have zd5 := cel6_5 ((kd.alloc (.cells #[.bool m23, .slice a23 l23 c23, .bool m24, .slice a24 l24 c24, .bool false, .slice none 0 0] 82)).alloc (.cells #[.bool m25, .slice a25 l25 c25] 80))
 have zc0 := cel6_0 ((kc.alloc (.cells #[.bool m23, .slice a23 l23 c23, .bool m24, .slice a24 l24 c24, .bool false, .slice none 0 0] 82)).alloc (.cells #[.bool m25, .slice a25 l25 c25] 80))
 have zc1 := cel6_1 ((kc.alloc (.cells #[.bool m23, .slice a23 l23 c23, .bool m24, .slice a24 l24 c24, .bool false, .slice none 0 0] 82)).alloc (.cells #[.bool m25, .slice a25 l25 c25] 80))
 have zc2 := cel6_2 ((kc.alloc (.cells #[.bool m23, .slice a23 l23 c23, .bool m24, .slice a24 l24 c24, .bool false, .slice none 0 0] 82)).alloc (.cells #[.bool m25, .slice a25 l25 c25] 80))
 have zc3 := cel6_3 ((kc.alloc (.cells #[.bool m23, .slice a23 l23 c23, .bool m24, .slice a24 l24 c24, .bool false, .slice none 0 0] 82)).alloc (.cells #[.bool m25, .slice a25 l25 c25] 80))
 have zc4 := cel6_4 ((kc.alloc (.cells #[.bool m23, .slice a23 l23 c23, .bool m24, .slice a24 l24 c24, .bool false, .slice none 0 0] 82)).alloc (.cells #[.bool m25, .slice a25 l25 c25] 80))
 have zc5 := cel6_5 ((kc.alloc (.cells #[.bool m23, .slice a23 l23 c23, .bool m24, .slice a24 l24 c24, .bool false, .slice none 0 0] 82)).alloc (.cells #[.bool m25, .slice a25 l25 c25] 80))
 go_wp2_with fail
 obtain ⟨v1, hw, ks1, kn1, b1⟩ := mk2 y1 [.bool m23, .slice a23 l23 c23, .bool m24, .slice a24 l24 c24, .bool false, .slice none 0 0] [.bool m25, .slice a25 l25 c25] 82 80
 rw [← hw]
 clear hw zd0 zd1 zd2 zd3 zd4 zd5 zc0 zc1 zc2 zc3 zc4 zc5
 replace kb := kb.below b1
 replace kc := kc.below b1
 replace kd := kd.below b1
 replace ks0 := ks0.below b1
 replace kn0 := kn0.below b1
 replace nv13 := nv13.below b1
 replace nv14 := nv14.below b1
 replace nv15 := nv15.below b1
 replace nv23 := nv23.below b1
 replace nv24 := nv24.below b1
 replace nv25 := nv25.below b1
 replace bb := Below.after bb b1
 clear b1
 go_fit (H3.out _)
 rintro e' x2 ⟨m30, a30, l30, c30, m31, a31, l31, c31, a32, l32, c32, E, F, W, rfl, nv30, nv31, nv32, hw2, b1⟩
 replace kb := kb.below b1
 replace kc := kc.below b1
 replace kd := kd.below b1
 replace ks0 := ks0.below b1
 replace kn0 := kn0.below b1
 replace ks1 := ks1.below b1
 replace kn1 := kn1.below b1
 replace nv13 := nv13.below b1
 replace nv14 := nv14.below b1
 replace nv15 := nv15.below b1
 replace nv23 := nv23.below b1
 replace nv24 := nv24.below b1
 replace nv25 := nv25.below b1
 replace bb := Below.after bb b1
 clear b1
 go_wp2_with fail
 go_fit (lifted_any _ _ _ _ _ _ _ _ _ _ _ _ E F W _ nv30 nv31 nv32)
 rintro e' y2 ⟨m33, a33, l33, c33, m34, a34, l34, c34, m35, a35, l35, c35, rfl, nv33, nv34, nv35, b1⟩
 replace kb := kb.below b1
 replace kc := kc.below b1
 replace kd := kd.below b1
 replace ks0 := ks0.below b1
 replace kn0 := kn0.below b1
 replace ks1 := ks1.below b1
 replace kn1 := kn1.below b1
 replace nv13 := nv13.below b1
 replace nv14 := nv14.below b1
 replace nv15 := nv15.below b1
 replace nv23 := nv23.below b1
 replace nv24 := nv24.below b1
 replace nv25 := nv25.below b1
 replace bb := Below.after bb b1
 clear b1 nv30 nv31 nv32
 go_wp2_with fail
 obtain ⟨v2, hw, ks2, kn2, b1⟩ := mk2 y2 [.bool m33, .slice a33 l33 c33, .bool m34, .slice a34 l34 c34, .bool false, .slice none 0 0] [.bool m35, .slice a35 l35 c35] 82 80
 rw [← hw]
 clear hw
 replace kb := kb.below b1
 replace kc := kc.below b1
 replace kd := kd.below b1
 replace ks0 := ks0.below b1
 replace kn0 := kn0.below b1
 replace ks1 := ks1.below b1
 replace kn1 := kn1.below b1
 replace nv13 := nv13.below b1
 replace nv14 := nv14.below b1
 replace nv15 := nv15.below b1
 replace nv23 := nv23.below b1
 replace nv24 := nv24.below b1
 replace nv25 := nv25.below b1
 replace nv33 := nv33.below b1
 replace nv34 := nv34.below b1
 replace nv35 := nv35.below b1
 replace bb := Below.after bb b1
 clear b1
 have mkS : ∀ w', Below v2.heap.size v2 w' → (Below v2.heap.size v2 w' ∧ w'.cell? ⟨y0.heap.size, 0, none⟩ = some (.bool m13) ∧ w'.cell? ⟨y0.heap.size, 1, none⟩ = some (.slice a13 l13 c13) ∧ w'.cell? ⟨y0.heap.size, 2, none⟩ = some (.bool m14) ∧ w'.cell? ⟨y0.heap.size, 3, none⟩ = some (.slice a14 l14 c14) ∧ w'.cell? ⟨y0.heap.size, 4, none⟩ = some (.bool false) ∧ w'.cell? ⟨y0.heap.size, 5, none⟩ = some (.slice none 0 0) ∧ w'.cell? ⟨y0.heap.size + 1, 0, none⟩ = some (.bool m15) ∧ w'.cell? ⟨y0.heap.size + 1, 1, none⟩ = some (.slice a15 l15 c15) ∧ w'.cell? ⟨y1.heap.size, 0, none⟩ = some (.bool m23) ∧ w'.cell? ⟨y1.heap.size, 1, none⟩ = some (.slice a23 l23 c23) ∧ w'.cell? ⟨y1.heap.size, 2, none⟩ = some (.bool m24) ∧ w'.cell? ⟨y1.heap.size, 3, none⟩ = some (.slice a24 l24 c24) ∧ w'.cell? ⟨y1.heap.size, 4, none⟩ = some (.bool false) ∧ w'.cell? ⟨y1.heap.size, 5, none⟩ = some (.slice none 0 0) ∧ w'.cell? ⟨y1.heap.size + 1, 0, none⟩ = some (.bool m25) ∧ w'.cell? ⟨y1.heap.size + 1, 1, none⟩ = some (.slice a25 l25 c25) ∧ w'.cell? ⟨y2.heap.size, 0, none⟩ = some (.bool m33) ∧ w'.cell? ⟨y2.heap.size, 1, none⟩ = some (.slice a33 l33 c33) ∧ w'.cell? ⟨y2.heap.size, 2, none⟩ = some (.bool m34) ∧ w'.cell? ⟨y2.heap.size, 3, none⟩ = some (.slice a34 l34 c34) ∧ w'.cell? ⟨y2.heap.size, 4, none⟩ = some (.bool false) ∧ w'.cell? ⟨y2.heap.size, 5, none⟩ = some (.slice none 0 0) ∧ w'.cell? ⟨y2.heap.size + 1, 0, none⟩ = some (.bool m35) ∧ w'.cell? ⟨y2.heap.size + 1, 1, none⟩ = some (.slice a35 l35 c35)) := fun w' h => ⟨h, cel6_0 (ks0.below h), cel6_1 (ks0.below h), cel6_2 (ks0.below h), cel6_3 (ks0.below h), cel6_4 (ks0.below h), cel6_5 (ks0.below h), cel2_0' (kn0.below h), cel2_1' (kn0.below h), cel6_0 (ks1.below h), cel6_1 (ks1.below h), cel6_2 (ks1.below h), cel6_3 (ks1.below h), cel6_4 (ks1.below h), cel6_5 (ks1.below h), cel2_0' (kn1.below h), cel2_1' (kn1.below h), cel6_0 (ks2.below h), cel6_1 (ks2.below h), cel6_2 (ks2.below h), cel6_3 (ks2.below h), cel6_4 (ks2.below h), cel6_5 (ks2.below h), cel2_0' (kn2.below h), cel2_1' (kn2.below h)⟩
 have bcS : ∀ w', (Below v2.heap.size v2 w' ∧ w'.cell? ⟨y0.heap.size, 0, none⟩ = some (.bool m13) ∧ w'.cell? ⟨y0.heap.size, 1, none⟩ = some (.slice a13 l13 c13) ∧ w'.cell? ⟨y0.heap.size, 2, none⟩ = some (.bool m14) ∧ w'.cell? ⟨y0.heap.size, 3, none⟩ = some (.slice a14 l14 c14) ∧ w'.cell? ⟨y0.heap.size, 4, none⟩ = some (.bool false) ∧ w'.cell? ⟨y0.heap.size, 5, none⟩ = some (.slice none 0 0) ∧ w'.cell? ⟨y0.heap.size + 1, 0, none⟩ = some (.bool m15) ∧ w'.cell? ⟨y0.heap.size + 1, 1, none⟩ = some (.slice a15 l15 c15) ∧ w'.cell? ⟨y1.heap.size, 0, none⟩ = some (.bool m23) ∧ w'.cell? ⟨y1.heap.size, 1, none⟩ = some (.slice a23 l23 c23) ∧ w'.cell? ⟨y1.heap.size, 2, none⟩ = some (.bool m24) ∧ w'.cell? ⟨y1.heap.size, 3, none⟩ = some (.slice a24 l24 c24) ∧ w'.cell? ⟨y1.heap.size, 4, none⟩ = some (.bool false) ∧ w'.cell? ⟨y1.heap.size, 5, none⟩ = some (.slice none 0 0) ∧ w'.cell? ⟨y1.heap.size + 1, 0, none⟩ = some (.bool m25) ∧ w'.cell? ⟨y1.heap.size + 1, 1, none⟩ = some (.slice a25 l25 c25) ∧ w'.cell? ⟨y2.heap.size, 0, none⟩ = some (.bool m33) ∧ w'.cell? ⟨y2.heap.size, 1, none⟩ = some (.slice a33 l33 c33) ∧ w'.cell? ⟨y2.heap.size, 2, none⟩ = some (.bool m34) ∧ w'.cell? ⟨y2.heap.size, 3, none⟩ = some (.slice a34 l34 c34) ∧ w'.cell? ⟨y2.heap.size, 4, none⟩ = some (.bool false) ∧ w'.cell? ⟨y2.heap.size, 5, none⟩ = some (.slice none 0 0) ∧ w'.cell? ⟨y2.heap.size + 1, 0, none⟩ = some (.bool m35) ∧ w'.cell? ⟨y2.heap.size + 1, 1, none⟩ = some (.slice a35 l35 c35)) → Below v2.heap.size v2 w' := fun w' h => h.1
 replace mkS := shut mkS
 replace bcS := shut bcS
 go_cut [15] from 37 to 53 (fun v wx => ∃ gc m41 a41 l41 c41 m42 a42 l42 c42 m43 a43 l43 c43 m44 a44 l44 c44 m45 a45 l45 c45 m46 a46 l46 c46 m47 a47 l47 c47 m48 a48 l48 c48, v = .pointer (some ⟨gc, 0, none⟩) ∧ v2.heap.size ≤ gc ∧ Cel wx gc [.bool m48, .slice a48 l48 c48] 80 ∧ NV wx m41 (.slice a41 l41 c41) ((C * V) * (F * W) - (D * V) * (E * W)) (105 + 105 + 1) ∧ NV wx m42 (.slice a42 l42 c42) ((A * A + B * B) * ((C * V) * (F * W) - (D * V) * (E * W))) (107 + (105 + 105 + 1)) ∧ NV wx m43 (.slice a43 l43 c43) ((E * W) * (B * U) - (F * W) * (A * U)) (105 + 105 + 1) ∧ NV wx m44 (.slice a44 l44 c44) ((C * C + D * D) * ((E * W) * (B * U) - (F * W) * (A * U))) (107 + (105 + 105 + 1)) ∧ NV wx m45 (.slice a45 l45 c45) ((A * A + B * B) * ((C * V) * (F * W) - (D * V) * (E * W)) + (C * C + D * D) * ((E * W) * (B * U) - (F * W) * (A * U))) ((107 + (105 + 105 + 1)) + 1) ∧ NV wx m46 (.slice a46 l46 c46) ((A * U) * (D * V) - (B * U) * (C * V)) (105 + 105 + 1) ∧ NV wx m47 (.slice a47 l47 c47) ((E * E + F * F) * ((A * U) * (D * V) - (B * U) * (C * V))) (107 + (105 + 105 + 1)) ∧ NV wx m48 (.slice a48 l48 c48) ((A * A + B * B) * ((C * V) * (F * W) - (D * V) * (E * W)) + (C * C + D * D) * ((E * W) * (B * U) - (F * W) * (A * U)) + (E * E + F * F) * ((A * U) * (D * V) - (B * U) * (C * V))) ((107 + (105 + 105 + 1)) + 1 + 1) ∧ Below v2.heap.size v2 wx)
 case first =>
  clear H1 H2 H3
  refine wp_region_held_drew (S := (fun w' => Below v2.heap.size v2 w' ∧ w'.cell? ⟨y0.heap.size, 0, none⟩ = some (.bool m13) ∧ w'.cell? ⟨y0.heap.size, 1, none⟩ = some (.slice a13 l13 c13) ∧ w'.cell? ⟨y0.heap.size, 2, none⟩ = some (.bool m14) ∧ w'.cell? ⟨y0.heap.size, 3, none⟩ = some (.slice a14 l14 c14) ∧ w'.cell? ⟨y0.heap.size, 4, none⟩ = some (.bool false) ∧ w'.cell? ⟨y0.heap.size, 5, none⟩ = some (.slice none 0 0) ∧ w'.cell? ⟨y0.heap.size + 1, 0, none⟩ = some (.bool m15) ∧ w'.cell? ⟨y0.heap.size + 1, 1, none⟩ = some (.slice a15 l15 c15) ∧ w'.cell? ⟨y1.heap.size, 0, none⟩ = some (.bool m23) ∧ w'.cell? ⟨y1.heap.size, 1, none⟩ = some (.slice a23 l23 c23) ∧ w'.cell? ⟨y1.heap.size, 2, none⟩ = some (.bool m24) ∧ w'.cell? ⟨y1.heap.size, 3, none⟩ = some (.slice a24 l24 c24) ∧ w'.cell? ⟨y1.heap.size, 4, none⟩ = some (.bool false) ∧ w'.cell? ⟨y1.heap.size, 5, none⟩ = some (.slice none 0 0) ∧ w'.cell? ⟨y1.heap.size + 1, 0, none⟩ = some (.bool m25) ∧ w'.cell? ⟨y1.heap.size + 1, 1, none⟩ = some (.slice a25 l25 c25) ∧ w'.cell? ⟨y2.heap.size, 0, none⟩ = some (.bool m33) ∧ w'.cell? ⟨y2.heap.size, 1, none⟩ = some (.slice a33 l33 c33) ∧ w'.cell? ⟨y2.heap.size, 2, none⟩ = some (.bool m34) ∧ w'.cell? ⟨y2.heap.size, 3, none⟩ = some (.slice a34 l34 c34) ∧ w'.cell? ⟨y2.heap.size, 4, none⟩ = some (.bool false) ∧ w'.cell? ⟨y2.heap.size, 5, none⟩ = some (.slice none 0 0) ∧ w'.cell? ⟨y2.heap.size + 1, 0, none⟩ = some (.bool m35) ∧ w'.cell? ⟨y2.heap.size + 1, 1, none⟩ = some (.slice a35 l35 c35))) (by kernel_rfl) (mkS.out _ (bdrew _)) (fun _ => ?_)
  refine absO 19 (by kernel_rfl) (fun ops q SP hops hq hSP => ?_)
  obtain ⟨fr, hfr⟩ : ∃ fr : Value → Value → Value → Value → Value → Value → Value → Value → Value → Act, fr = (fun x15 x40 x41 x45 x46 x47 x51 x52 x53 => { tmps := #[.agg #[.bool n0, .string s0, .string d0, .bool n1, .string s1, .string d1], .agg #[.bool n2, .string s2, .string d2, .bool n3, .string s3, .string d3], .agg #[.bool n4, .string s4, .string d4, .bool n5, .string s5, .string d5], .agg #[.bool n6, .string s6, .string d6, .bool n7, .string s7, .string d7], .pointer (some ⟨w.heap.size, 0, none⟩), .pointer (some ⟨w.heap.size + 1, 0, none⟩), .pointer (some ⟨w.heap.size + 1 + 1, 0, none⟩), .pointer (some ⟨w.heap.size + 1 + 1 + 1, 0, none⟩), .int .i64 0, .pointer (some ⟨y0.heap.size, 0, none⟩), .pointer (some ⟨y0.heap.size + 1, 0, none⟩), .pointer (some ⟨y1.heap.size, 0, none⟩), .pointer (some ⟨y1.heap.size + 1, 0, none⟩), .pointer (some ⟨y2.heap.size, 0, none⟩), .pointer (some ⟨y2.heap.size + 1, 0, none⟩), x15, .tuple #[.agg #[.bool m13, .slice a13 l13 c13, .bool m14, .slice a14 l14 c14, .bool false, .slice none 0 0], .agg #[.bool m15, .slice a15 l15 c15]], .agg #[.bool n6, .string s6, .string d6, .bool n7, .string s7, .string d7], .agg #[.bool n0, .string s0, .string d0, .bool n1, .string s1, .string d1], .agg #[.bool m10, .slice a10 l10 c10, .bool m11, .slice a11 l11 c11, .bool false, .slice a12 l12 c12], .tuple #[.agg #[.bool m13, .slice a13 l13 c13, .bool m14, .slice a14 l14 c14, .bool false, .slice none 0 0], .agg #[.bool m15, .slice a15 l15 c15]], .agg #[.bool m13, .slice a13 l13 c13, .bool m14, .slice a14 l14 c14, .bool false, .slice none 0 0], .agg #[.bool m15, .slice a15 l15 c15], .tuple #[.agg #[.bool m23, .slice a23 l23 c23, .bool m24, .slice a24 l24 c24, .bool false, .slice none 0 0], .agg #[.bool m25, .slice a25 l25 c25]], .agg #[.bool n6, .string s6, .string d6, .bool n7, .string s7, .string d7], .agg #[.bool n2, .string s2, .string d2, .bool n3, .string s3, .string d3], .agg #[.bool m20, .slice a20 l20 c20, .bool m21, .slice a21 l21 c21, .bool false, .slice a22 l22 c22], .tuple #[.agg #[.bool m23, .slice a23 l23 c23, .bool m24, .slice a24 l24 c24, .bool false, .slice none 0 0], .agg #[.bool m25, .slice a25 l25 c25]], .agg #[.bool m23, .slice a23 l23 c23, .bool m24, .slice a24 l24 c24, .bool false, .slice none 0 0], .agg #[.bool m25, .slice a25 l25 c25], .tuple #[.agg #[.bool m33, .slice a33 l33 c33, .bool m34, .slice a34 l34 c34, .bool false, .slice none 0 0], .agg #[.bool m35, .slice a35 l35 c35]], .agg #[.bool n6, .string s6, .string d6, .bool n7, .string s7, .string d7], .agg #[.bool n4, .string s4, .string d4, .bool n5, .string s5, .string d5], .agg #[.bool m30, .slice a30 l30 c30, .bool m31, .slice a31 l31 c31, .bool false, .slice a32 l32 c32], .tuple #[.agg #[.bool m33, .slice a33 l33 c33, .bool m34, .slice a34 l34 c34, .bool false, .slice none 0 0], .agg #[.bool m35, .slice a35 l35 c35]], .agg #[.bool m33, .slice a33 l33 c33, .bool m34, .slice a34 l34 c34, .bool false, .slice none 0 0], .agg #[.bool m35, .slice a35 l35 c35], .agg #[.bool m15, .slice a15 l15 c15], .agg #[.bool m23, .slice a23 l23 c23, .bool m24, .slice a24 l24 c24, .bool false, .slice none 0 0], .agg #[.bool m33, .slice a33 l33 c33, .bool m34, .slice a34 l34 c34, .bool false, .slice none 0 0], x40, x41, .agg #[.bool m25, .slice a25 l25 c25], .agg #[.bool m33, .slice a33 l33 c33, .bool m34, .slice a34 l34 c34, .bool false, .slice none 0 0], .agg #[.bool m13, .slice a13 l13 c13, .bool m14, .slice a14 l14 c14, .bool false, .slice none 0 0], x45, x46, x47, .agg #[.bool m35, .slice a35 l35 c35], .agg #[.bool m13, .slice a13 l13 c13, .bool m14, .slice a14 l14 c14, .bool false, .slice none 0 0], .agg #[.bool m23, .slice a23 l23 c23, .bool m24, .slice a24 l24 c24, .bool false, .slice none 0 0], x51, x52, x53, undef, undef], defers := [] }) := ⟨_, rfl⟩
  have L8_0 : Hid (∀ (g0 : Nat) (m41 : Bool) (a41 : Option Addr) (l41 : Nat) (c41 : Nat) (m42 : Bool) (a42 : Option Addr) (l42 : Nat) (c42 : Nat) (m43 : Bool) (a43 : Option Addr) (l43 : Nat) (c43 : Nat) (m44 : Bool) (a44 : Option Addr) (l44 : Nat) (c44 : Nat) (m45 : Bool) (a45 : Option Addr) (l45 : Nat) (c45 : Nat) (m46 : Bool) (a46 : Option Addr) (l46 : Nat) (c46 : Nat) (m47 : Bool) (a47 : Option Addr) (l47 : Nat) (c47 : Nat) (m48 : Bool) (a48 : Option Addr) (l48 : Nat) (c48 : Nat) (w' : World) (hS : SP w') (k0 : Cel w' g0 [.bool false, .slice none 0 0] 80) (h0 : v2.heap.size ≤ g0) (nv41 : NV w' m41 (.slice a41 l41 c41) ((C * V) * (F * W) - (D * V) * (E * W)) (105 + 105 + 1)) (nv42 : NV w' m42 (.slice a42 l42 c42) ((A * A + B * B) * ((C * V) * (F * W) - (D * V) * (E * W))) (107 + (105 + 105 + 1))) (nv43 : NV w' m43 (.slice a43 l43 c43) ((E * W) * (B * U) - (F * W) * (A * U)) (105 + 105 + 1)) (nv44 : NV w' m44 (.slice a44 l44 c44) ((C * C + D * D) * ((E * W) * (B * U) - (F * W) * (A * U))) (107 + (105 + 105 + 1))) (nv45 : NV w' m45 (.slice a45 l45 c45) ((A * A + B * B) * ((C * V) * (F * W) - (D * V) * (E * W)) + (C * C + D * D) * ((E * W) * (B * U) - (F * W) * (A * U))) ((107 + (105 + 105 + 1)) + 1)) (nv46 : NV w' m46 (.slice a46 l46 c46) ((A * U) * (D * V) - (B * U) * (C * V)) (105 + 105 + 1)) (nv47 : NV w' m47 (.slice a47 l47 c47) ((E * E + F * F) * ((A * U) * (D * V) - (B * U) * (C * V))) (107 + (105 + 105 + 1))) (nv48 : NV w' m48 (.slice a48 l48 c48) ((A * A + B * B) * ((C * V) * (F * W) - (D * V) * (E * W)) + (C * C + D * D) * ((E * W) * (B * U) - (F * W) * (A * U)) + (E * E + F * F) * ((A * U) * (D * V) - (B * U) * (C * V))) ((107 + (105 + 105 + 1)) + 1 + 1)), wpAnyH Tryz.prog .any ops q SP 1 (ls 19 [0, 1, 2, 3, 4, 5, 6, 7, 8, 9, 10, 11, 12, 13, 14, 15, 16, 17]) (fr (.pointer (some ⟨g0, 0, none⟩)) (.agg #[.bool m41, .slice a41 l41 c41]) (.agg #[.bool m42, .slice a42 l42 c42]) (.agg #[.bool m43, .slice a43 l43 c43]) (.agg #[.bool m44, .slice a44 l44 c44]) (.agg #[.bool m45, .slice a45 l45 c45]) (.agg #[.bool m46, .slice a46 l46 c46]) (.agg #[.bool m47, .slice a47 l47 c47]) (.agg #[.bool m48, .slice a48 l48 c48])) w') := by
   subst hops hq hSP hfr
   intro g0 m41 a41 l41 c41 m42 a42 l42 c42 m43 a43 l43 c43 m44 a44 l44 c44 m45 a45 l45 c45 m46 a46 l46 c46 m47 a47 l47 c47 m48 a48 l48 c48 w' hS k0 h0 nv41 nv42 nv43 nv44 nv45 nv46 nv47 nv48
   have bc := bcS.out _ hS
   dsimp only
   have e0_0 := cel2_0' k0
   have f0_0 := Cel.frozen k0 0
   have e0_1 := cel2_1' k0
   have f0_1 := Cel.frozen k0 1
   refine rdy [18] (by kernel_rfl) ?_
   refine AllReadyH.cons (o := _) rfl (fun K hK => ?_) AllReadyH.nil
   simp only [List.getElem_toArray, List.getElem_cons_succ, List.getElem_cons_zero]
   go_simp
   try go_wp2_with fail
   clear e0_0 f0_0 e0_1 f0_1
   refine hK.out _ _ (mkS.out _ (bset (bset bc h0 0 (.bool m48)) h0 1 (.slice a48 l48 c48))) (fun hS => ?_)
   clear hK K
   replace nv41 := nv41.set2 k0 (.bool m48) (.slice a48 l48 c48)
   replace nv42 := nv42.set2 k0 (.bool m48) (.slice a48 l48 c48)
   replace nv43 := nv43.set2 k0 (.bool m48) (.slice a48 l48 c48)
   replace nv44 := nv44.set2 k0 (.bool m48) (.slice a48 l48 c48)
   replace nv45 := nv45.set2 k0 (.bool m48) (.slice a48 l48 c48)
   replace nv46 := nv46.set2 k0 (.bool m48) (.slice a48 l48 c48)
   replace nv47 := nv47.set2 k0 (.bool m48) (.slice a48 l48 c48)
   replace nv48 := nv48.set2 k0 (.bool m48) (.slice a48 l48 c48)
   replace k0 := (Cel.set (Cel.set k0 0 (.bool m48)) 1 (.slice a48 l48 c48))
   replace bc := (bset (bset bc h0 0 (.bool m48)) h0 1 (.slice a48 l48 c48))
   refine wpAnyH_done (by kernel_rfl) ?_ _
   go_wp2_with fail
   go_meet
   exact ⟨_, m41, a41, l41, c41, m42, a42, l42, c42, m43, a43, l43, c43, m44, a44, l44, c44, m45, a45, l45, c45, m46, a46, l46, c46, m47, a47, l47, c47, m48, a48, l48, c48, rfl, h0, k0, nv41, nv42, nv43, nv44, nv45, nv46, nv47, nv48, bc⟩
  have L8_ : Hid (∀ (m41 : Bool) (a41 : Option Addr) (l41 : Nat) (c41 : Nat) (m42 : Bool) (a42 : Option Addr) (l42 : Nat) (c42 : Nat) (m43 : Bool) (a43 : Option Addr) (l43 : Nat) (c43 : Nat) (m44 : Bool) (a44 : Option Addr) (l44 : Nat) (c44 : Nat) (m45 : Bool) (a45 : Option Addr) (l45 : Nat) (c45 : Nat) (m46 : Bool) (a46 : Option Addr) (l46 : Nat) (c46 : Nat) (m47 : Bool) (a47 : Option Addr) (l47 : Nat) (c47 : Nat) (m48 : Bool) (a48 : Option Addr) (l48 : Nat) (c48 : Nat) (w' : World) (hS : SP w') (nv41 : NV w' m41 (.slice a41 l41 c41) ((C * V) * (F * W) - (D * V) * (E * W)) (105 + 105 + 1)) (nv42 : NV w' m42 (.slice a42 l42 c42) ((A * A + B * B) * ((C * V) * (F * W) - (D * V) * (E * W))) (107 + (105 + 105 + 1))) (nv43 : NV w' m43 (.slice a43 l43 c43) ((E * W) * (B * U) - (F * W) * (A * U)) (105 + 105 + 1)) (nv44 : NV w' m44 (.slice a44 l44 c44) ((C * C + D * D) * ((E * W) * (B * U) - (F * W) * (A * U))) (107 + (105 + 105 + 1))) (nv45 : NV w' m45 (.slice a45 l45 c45) ((A * A + B * B) * ((C * V) * (F * W) - (D * V) * (E * W)) + (C * C + D * D) * ((E * W) * (B * U) - (F * W) * (A * U))) ((107 + (105 + 105 + 1)) + 1)) (nv46 : NV w' m46 (.slice a46 l46 c46) ((A * U) * (D * V) - (B * U) * (C * V)) (105 + 105 + 1)) (nv47 : NV w' m47 (.slice a47 l47 c47) ((E * E + F * F) * ((A * U) * (D * V) - (B * U) * (C * V))) (107 + (105 + 105 + 1))) (nv48 : NV w' m48 (.slice a48 l48 c48) ((A * A + B * B) * ((C * V) * (F * W) - (D * V) * (E * W)) + (C * C + D * D) * ((E * W) * (B * U) - (F * W) * (A * U)) + (E * E + F * F) * ((A * U) * (D * V) - (B * U) * (C * V))) ((107 + (105 + 105 + 1)) + 1 + 1)), wpAnyH Tryz.prog .any ops q SP 2 (ls 19 [0, 1, 2, 3, 4, 5, 6, 7, 8, 9, 10, 11, 12, 13, 14, 15, 16]) (fr undef (.agg #[.bool m41, .slice a41 l41 c41]) (.agg #[.bool m42, .slice a42 l42 c42]) (.agg #[.bool m43, .slice a43 l43 c43]) (.agg #[.bool m44, .slice a44 l44 c44]) (.agg #[.bool m45, .slice a45 l45 c45]) (.agg #[.bool m46, .slice a46 l46 c46]) (.agg #[.bool m47, .slice a47 l47 c47]) (.agg #[.bool m48, .slice a48 l48 c48])) w') := by
   subst hops hq hSP hfr
   intro m41 a41 l41 c41 m42 a42 l42 c42 m43 a43 l43 c43 m44 a44 l44 c44 m45 a45 l45 c45 m46 a46 l46 c46 m47 a47 l47 c47 m48 a48 l48 c48 w' hS nv41 nv42 nv43 nv44 nv45 nv46 nv47 nv48
   have bc := bcS.out _ hS
   dsimp only
   refine rdy [17] (by kernel_rfl) ?_
   refine AllReadyH.cons (o := _) rfl (fun K hK => ?_) AllReadyH.nil
   ·simp only [List.getElem_toArray, List.getElem_cons_succ, List.getElem_cons_zero]
    go_simp
    try go_wp2_with fail
    refine hK.out _ _ (mkS.out _ (ba bc _)) (fun hS => ?_)
    clear hK K
    exact lst (L8_0.out _ m41 a41 l41 c41 m42 a42 l42 c42 m43 a43 l43 c43 m44 a44 l44 c44 m45 a45 l45 c45 m46 a46 l46 c46 m47 a47 l47 c47 m48 a48 l48 c48 _ hS (Cel.new w' _ _) bc.size (nv41.below (bel_al _ _)) (nv42.below (bel_al _ _)) (nv43.below (bel_al _ _)) (nv44.below (bel_al _ _)) (nv45.below (bel_al _ _)) (nv46.below (bel_al _ _)) (nv47.below (bel_al _ _)) (nv48.below (bel_al _ _))) (by kernel_rfl)
  have L7_0 : Hid (∀ (g0 : Nat) (m41 : Bool) (a41 : Option Addr) (l41 : Nat) (c41 : Nat) (m42 : Bool) (a42 : Option Addr) (l42 : Nat) (c42 : Nat) (m43 : Bool) (a43 : Option Addr) (l43 : Nat) (c43 : Nat) (m44 : Bool) (a44 : Option Addr) (l44 : Nat) (c44 : Nat) (m45 : Bool) (a45 : Option Addr) (l45 : Nat) (c45 : Nat) (m46 : Bool) (a46 : Option Addr) (l46 : Nat) (c46 : Nat) (m47 : Bool) (a47 : Option Addr) (l47 : Nat) (c47 : Nat) (w' : World) (hS : SP w') (k0 : Cel w' g0 [.bool false, .slice none 0 0] 80) (h0 : v2.heap.size ≤ g0) (nv41 : NV w' m41 (.slice a41 l41 c41) ((C * V) * (F * W) - (D * V) * (E * W)) (105 + 105 + 1)) (nv42 : NV w' m42 (.slice a42 l42 c42) ((A * A + B * B) * ((C * V) * (F * W) - (D * V) * (E * W))) (107 + (105 + 105 + 1))) (nv43 : NV w' m43 (.slice a43 l43 c43) ((E * W) * (B * U) - (F * W) * (A * U)) (105 + 105 + 1)) (nv44 : NV w' m44 (.slice a44 l44 c44) ((C * C + D * D) * ((E * W) * (B * U) - (F * W) * (A * U))) (107 + (105 + 105 + 1))) (nv45 : NV w' m45 (.slice a45 l45 c45) ((A * A + B * B) * ((C * V) * (F * W) - (D * V) * (E * W)) + (C * C + D * D) * ((E * W) * (B * U) - (F * W) * (A * U))) ((107 + (105 + 105 + 1)) + 1)) (nv46 : NV w' m46 (.slice a46 l46 c46) ((A * U) * (D * V) - (B * U) * (C * V)) (105 + 105 + 1)) (nv47 : NV w' m47 (.slice a47 l47 c47) ((E * E + F * F) * ((A * U) * (D * V) - (B * U) * (C * V))) (107 + (105 + 105 + 1))), wpAnyH Tryz.prog .any ops q SP 2 (ls 19 [0, 1, 2, 3, 4, 5, 6, 7, 8, 9, 10, 11, 12, 13, 14, 15, 17]) (fr (.pointer (some ⟨g0, 0, none⟩)) (.agg #[.bool m41, .slice a41 l41 c41]) (.agg #[.bool m42, .slice a42 l42 c42]) (.agg #[.bool m43, .slice a43 l43 c43]) (.agg #[.bool m44, .slice a44 l44 c44]) (.agg #[.bool m45, .slice a45 l45 c45]) (.agg #[.bool m46, .slice a46 l46 c46]) (.agg #[.bool m47, .slice a47 l47 c47]) undef) w') := by
   clear L8_
   subst hops hq hSP hfr
   intro g0 m41 a41 l41 c41 m42 a42 l42 c42 m43 a43 l43 c43 m44 a44 l44 c44 m45 a45 l45 c45 m46 a46 l46 c46 m47 a47 l47 c47 w' hS k0 h0 nv41 nv42 nv43 nv44 nv45 nv46 nv47
   have bc := bcS.out _ hS
   dsimp only
   refine rdy [16] (by kernel_rfl) ?_
   refine AllReadyH.cons (o := _) rfl (fun K hK => ?_) AllReadyH.nil
   ·simp only [List.getElem_toArray, List.getElem_cons_succ, List.getElem_cons_zero]
    go_simp
    go_fit (nplus_any _ _ _ _ ((A * A + B * B) * ((C * V) * (F * W) - (D * V) * (E * W)) + (C * C + D * D) * ((E * W) * (B * U) - (F * W) * (A * U))) ((E * E + F * F) * ((A * U) * (D * V) - (B * U) * (C * V))) ((107 + (105 + 105 + 1)) + 1) _ (by omega) nv45 (nv47.mono (by omega)))
    rintro e wn ⟨m48, v48, rfl, nv48, bn⟩
    obtain ⟨a48, l48, c48, rfl⟩ := nv48.slice
    have bcn := Below.after bc bn
    try go_wp2_with fail
    refine hK.out _ _ (mkS.out _ bcn) (fun hS => ?_)
    clear hK K
    exact lst (L8_0.out g0 m41 a41 l41 c41 m42 a42 l42 c42 m43 a43 l43 c43 m44 a44 l44 c44 m45 a45 l45 c45 m46 a46 l46 c46 m47 a47 l47 c47 m48 a48 l48 c48 wn hS (k0.below bn) h0 (nv41.below bn) (nv42.below bn) (nv43.below bn) (nv44.below bn) (nv45.below bn) (nv46.below bn) (nv47.below bn) nv48) (by kernel_rfl)
  have L7_ : Hid (∀ (m41 : Bool) (a41 : Option Addr) (l41 : Nat) (c41 : Nat) (m42 : Bool) (a42 : Option Addr) (l42 : Nat) (c42 : Nat) (m43 : Bool) (a43 : Option Addr) (l43 : Nat) (c43 : Nat) (m44 : Bool) (a44 : Option Addr) (l44 : Nat) (c44 : Nat) (m45 : Bool) (a45 : Option Addr) (l45 : Nat) (c45 : Nat) (m46 : Bool) (a46 : Option Addr) (l46 : Nat) (c46 : Nat) (m47 : Bool) (a47 : Option Addr) (l47 : Nat) (c47 : Nat) (w' : World) (hS : SP w') (nv41 : NV w' m41 (.slice a41 l41 c41) ((C * V) * (F * W) - (D * V) * (E * W)) (105 + 105 + 1)) (nv42 : NV w' m42 (.slice a42 l42 c42) ((A * A + B * B) * ((C * V) * (F * W) - (D * V) * (E * W))) (107 + (105 + 105 + 1))) (nv43 : NV w' m43 (.slice a43 l43 c43) ((E * W) * (B * U) - (F * W) * (A * U)) (105 + 105 + 1)) (nv44 : NV w' m44 (.slice a44 l44 c44) ((C * C + D * D) * ((E * W) * (B * U) - (F * W) * (A * U))) (107 + (105 + 105 + 1))) (nv45 : NV w' m45 (.slice a45 l45 c45) ((A * A + B * B) * ((C * V) * (F * W) - (D * V) * (E * W)) + (C * C + D * D) * ((E * W) * (B * U) - (F * W) * (A * U))) ((107 + (105 + 105 + 1)) + 1)) (nv46 : NV w' m46 (.slice a46 l46 c46) ((A * U) * (D * V) - (B * U) * (C * V)) (105 + 105 + 1)) (nv47 : NV w' m47 (.slice a47 l47 c47) ((E * E + F * F) * ((A * U) * (D * V) - (B * U) * (C * V))) (107 + (105 + 105 + 1))), wpAnyH Tryz.prog .any ops q SP 3 (ls 19 [0, 1, 2, 3, 4, 5, 6, 7, 8, 9, 10, 11, 12, 13, 14, 15]) (fr undef (.agg #[.bool m41, .slice a41 l41 c41]) (.agg #[.bool m42, .slice a42 l42 c42]) (.agg #[.bool m43, .slice a43 l43 c43]) (.agg #[.bool m44, .slice a44 l44 c44]) (.agg #[.bool m45, .slice a45 l45 c45]) (.agg #[.bool m46, .slice a46 l46 c46]) (.agg #[.bool m47, .slice a47 l47 c47]) undef) w') := by
   clear L8_0
   subst hops hq hSP hfr
   intro m41 a41 l41 c41 m42 a42 l42 c42 m43 a43 l43 c43 m44 a44 l44 c44 m45 a45 l45 c45 m46 a46 l46 c46 m47 a47 l47 c47 w' hS nv41 nv42 nv43 nv44 nv45 nv46 nv47
   have bc := bcS.out _ hS
   dsimp only
   refine rdy [16, 17] (by kernel_rfl) ?_
   refine AllReadyH.cons (o := _) rfl (fun K hK => ?_) (AllReadyH.cons (o := _) rfl (fun K hK => ?_) AllReadyH.nil)
   ·simp only [List.getElem_toArray, List.getElem_cons_succ, List.getElem_cons_zero]
    go_simp
    go_fit (nplus_any _ _ _ _ ((A * A + B * B) * ((C * V) * (F * W) - (D * V) * (E * W)) + (C * C + D * D) * ((E * W) * (B * U) - (F * W) * (A * U))) ((E * E + F * F) * ((A * U) * (D * V) - (B * U) * (C * V))) ((107 + (105 + 105 + 1)) + 1) _ (by omega) nv45 (nv47.mono (by omega)))
    rintro e wn ⟨m48, v48, rfl, nv48, bn⟩
    obtain ⟨a48, l48, c48, rfl⟩ := nv48.slice
    have bcn := Below.after bc bn
    try go_wp2_with fail
    refine hK.out _ _ (mkS.out _ bcn) (fun hS => ?_)
    clear hK K
    exact lst (L8_.out m41 a41 l41 c41 m42 a42 l42 c42 m43 a43 l43 c43 m44 a44 l44 c44 m45 a45 l45 c45 m46 a46 l46 c46 m47 a47 l47 c47 m48 a48 l48 c48 wn hS (nv41.below bn) (nv42.below bn) (nv43.below bn) (nv44.below bn) (nv45.below bn) (nv46.below bn) (nv47.below bn) nv48) (by kernel_rfl)
   ·simp only [List.getElem_toArray, List.getElem_cons_succ, List.getElem_cons_zero]
    go_simp
    try go_wp2_with fail
    refine hK.out _ _ (mkS.out _ (ba bc _)) (fun hS => ?_)
    clear hK K
    exact lst (L7_0.out _ m41 a41 l41 c41 m42 a42 l42 c42 m43 a43 l43 c43 m44 a44 l44 c44 m45 a45 l45 c45 m46 a46 l46 c46 m47 a47 l47 c47 _ hS (Cel.new w' _ _) bc.size (nv41.below (bel_al _ _)) (nv42.below (bel_al _ _)) (nv43.below (bel_al _ _)) (nv44.below (bel_al _ _)) (nv45.below (bel_al _ _)) (nv46.below (bel_al _ _)) (nv47.below (bel_al _ _))) (by kernel_rfl)
  have L6_0 : Hid (∀ (g0 : Nat) (m41 : Bool) (a41 : Option Addr) (l41 : Nat) (c41 : Nat) (m42 : Bool) (a42 : Option Addr) (l42 : Nat) (c42 : Nat) (m43 : Bool) (a43 : Option Addr) (l43 : Nat) (c43 : Nat) (m44 : Bool) (a44 : Option Addr) (l44 : Nat) (c44 : Nat) (m45 : Bool) (a45 : Option Addr) (l45 : Nat) (c45 : Nat) (m46 : Bool) (a46 : Option Addr) (l46 : Nat) (c46 : Nat) (w' : World) (hS : SP w') (k0 : Cel w' g0 [.bool false, .slice none 0 0] 80) (h0 : v2.heap.size ≤ g0) (nv41 : NV w' m41 (.slice a41 l41 c41) ((C * V) * (F * W) - (D * V) * (E * W)) (105 + 105 + 1)) (nv42 : NV w' m42 (.slice a42 l42 c42) ((A * A + B * B) * ((C * V) * (F * W) - (D * V) * (E * W))) (107 + (105 + 105 + 1))) (nv43 : NV w' m43 (.slice a43 l43 c43) ((E * W) * (B * U) - (F * W) * (A * U)) (105 + 105 + 1)) (nv44 : NV w' m44 (.slice a44 l44 c44) ((C * C + D * D) * ((E * W) * (B * U) - (F * W) * (A * U))) (107 + (105 + 105 + 1))) (nv45 : NV w' m45 (.slice a45 l45 c45) ((A * A + B * B) * ((C * V) * (F * W) - (D * V) * (E * W)) + (C * C + D * D) * ((E * W) * (B * U) - (F * W) * (A * U))) ((107 + (105 + 105 + 1)) + 1)) (nv46 : NV w' m46 (.slice a46 l46 c46) ((A * U) * (D * V) - (B * U) * (C * V)) (105 + 105 + 1)), wpAnyH Tryz.prog .any ops q SP 3 (ls 19 [0, 1, 2, 3, 4, 5, 6, 7, 8, 9, 10, 11, 12, 13, 14, 17]) (fr (.pointer (some ⟨g0, 0, none⟩)) (.agg #[.bool m41, .slice a41 l41 c41]) (.agg #[.bool m42, .slice a42 l42 c42]) (.agg #[.bool m43, .slice a43 l43 c43]) (.agg #[.bool m44, .slice a44 l44 c44]) (.agg #[.bool m45, .slice a45 l45 c45]) (.agg #[.bool m46, .slice a46 l46 c46]) undef undef) w') := by
   clear L8_0 L8_ L7_
   subst hops hq hSP hfr
   intro g0 m41 a41 l41 c41 m42 a42 l42 c42 m43 a43 l43 c43 m44 a44 l44 c44 m45 a45 l45 c45 m46 a46 l46 c46 w' hS k0 h0 nv41 nv42 nv43 nv44 nv45 nv46
   have bc := bcS.out _ hS
   dsimp only
   refine rdy [15] (by kernel_rfl) ?_
   refine AllReadyH.cons (o := _) rfl (fun K hK => ?_) AllReadyH.nil
   ·simp only [List.getElem_toArray, List.getElem_cons_succ, List.getElem_cons_zero]
    go_simp
    go_fit (ntimes_any _ _ _ _ (E * E + F * F) ((A * U) * (D * V) - (B * U) * (C * V)) 107 (105 + 105 + 1) _ (by omega) (by omega) (nv35.below bc) nv46)
    rintro e wn ⟨m47, v47, rfl, nv47, -, bn⟩
    obtain ⟨a47, l47, c47, rfl⟩ := nv47.slice
    have bcn := Below.after bc bn
    try go_wp2_with fail
    refine hK.out _ _ (mkS.out _ bcn) (fun hS => ?_)
    clear hK K
    exact lst (L7_0.out g0 m41 a41 l41 c41 m42 a42 l42 c42 m43 a43 l43 c43 m44 a44 l44 c44 m45 a45 l45 c45 m46 a46 l46 c46 m47 a47 l47 c47 wn hS (k0.below bn) h0 (nv41.below bn) (nv42.below bn) (nv43.below bn) (nv44.below bn) (nv45.below bn) (nv46.below bn) nv47) (by kernel_rfl)
  have L6_ : Hid (∀ (m41 : Bool) (a41 : Option Addr) (l41 : Nat) (c41 : Nat) (m42 : Bool) (a42 : Option Addr) (l42 : Nat) (c42 : Nat) (m43 : Bool) (a43 : Option Addr) (l43 : Nat) (c43 : Nat) (m44 : Bool) (a44 : Option Addr) (l44 : Nat) (c44 : Nat) (m45 : Bool) (a45 : Option Addr) (l45 : Nat) (c45 : Nat) (m46 : Bool) (a46 : Option Addr) (l46 : Nat) (c46 : Nat) (w' : World) (hS : SP w') (nv41 : NV w' m41 (.slice a41 l41 c41) ((C * V) * (F * W) - (D * V) * (E * W)) (105 + 105 + 1)) (nv42 : NV w' m42 (.slice a42 l42 c42) ((A * A + B * B) * ((C * V) * (F * W) - (D * V) * (E * W))) (107 + (105 + 105 + 1))) (nv43 : NV w' m43 (.slice a43 l43 c43) ((E * W) * (B * U) - (F * W) * (A * U)) (105 + 105 + 1)) (nv44 : NV w' m44 (.slice a44 l44 c44) ((C * C + D * D) * ((E * W) * (B * U) - (F * W) * (A * U))) (107 + (105 + 105 + 1))) (nv45 : NV w' m45 (.slice a45 l45 c45) ((A * A + B * B) * ((C * V) * (F * W) - (D * V) * (E * W)) + (C * C + D * D) * ((E * W) * (B * U) - (F * W) * (A * U))) ((107 + (105 + 105 + 1)) + 1)) (nv46 : NV w' m46 (.slice a46 l46 c46) ((A * U) * (D * V) - (B * U) * (C * V)) (105 + 105 + 1)), wpAnyH Tryz.prog .any ops q SP 4 (ls 19 [0, 1, 2, 3, 4, 5, 6, 7, 8, 9, 10, 11, 12, 13, 14]) (fr undef (.agg #[.bool m41, .slice a41 l41 c41]) (.agg #[.bool m42, .slice a42 l42 c42]) (.agg #[.bool m43, .slice a43 l43 c43]) (.agg #[.bool m44, .slice a44 l44 c44]) (.agg #[.bool m45, .slice a45 l45 c45]) (.agg #[.bool m46, .slice a46 l46 c46]) undef undef) w') := by
   clear L8_0 L8_ L7_0
   subst hops hq hSP hfr
   intro m41 a41 l41 c41 m42 a42 l42 c42 m43 a43 l43 c43 m44 a44 l44 c44 m45 a45 l45 c45 m46 a46 l46 c46 w' hS nv41 nv42 nv43 nv44 nv45 nv46
   have bc := bcS.out _ hS
   dsimp only
   refine rdy [15, 17] (by kernel_rfl) ?_
   refine AllReadyH.cons (o := _) rfl (fun K hK => ?_) (AllReadyH.cons (o := _) rfl (fun K hK => ?_) AllReadyH.nil)
   ·simp only [List.getElem_toArray, List.getElem_cons_succ, List.getElem_cons_zero]
    go_simp
    go_fit (ntimes_any _ _ _ _ (E * E + F * F) ((A * U) * (D * V) - (B * U) * (C * V)) 107 (105 + 105 + 1) _ (by omega) (by omega) (nv35.below bc) nv46)
    rintro e wn ⟨m47, v47, rfl, nv47, -, bn⟩
    obtain ⟨a47, l47, c47, rfl⟩ := nv47.slice
    have bcn := Below.after bc bn
    try go_wp2_with fail
    refine hK.out _ _ (mkS.out _ bcn) (fun hS => ?_)
    clear hK K
    exact lst (L7_.out m41 a41 l41 c41 m42 a42 l42 c42 m43 a43 l43 c43 m44 a44 l44 c44 m45 a45 l45 c45 m46 a46 l46 c46 m47 a47 l47 c47 wn hS (nv41.below bn) (nv42.below bn) (nv43.below bn) (nv44.below bn) (nv45.below bn) (nv46.below bn) nv47) (by kernel_rfl)
   ·simp only [List.getElem_toArray, List.getElem_cons_succ, List.getElem_cons_zero]
    go_simp
    try go_wp2_with fail
    refine hK.out _ _ (mkS.out _ (ba bc _)) (fun hS => ?_)
    clear hK K
    exact lst (L6_0.out _ m41 a41 l41 c41 m42 a42 l42 c42 m43 a43 l43 c43 m44 a44 l44 c44 m45 a45 l45 c45 m46 a46 l46 c46 _ hS (Cel.new w' _ _) bc.size (nv41.below (bel_al _ _)) (nv42.below (bel_al _ _)) (nv43.below (bel_al _ _)) (nv44.below (bel_al _ _)) (nv45.below (bel_al _ _)) (nv46.below (bel_al _ _))) (by kernel_rfl)
  have L5_0 : Hid (∀ (g0 : Nat) (m41 : Bool) (a41 : Option Addr) (l41 : Nat) (c41 : Nat) (m42 : Bool) (a42 : Option Addr) (l42 : Nat) (c42 : Nat) (m43 : Bool) (a43 : Option Addr) (l43 : Nat) (c43 : Nat) (m44 : Bool) (a44 : Option Addr) (l44 : Nat) (c44 : Nat) (m45 : Bool) (a45 : Option Addr) (l45 : Nat) (c45 : Nat) (w' : World) (hS : SP w') (k0 : Cel w' g0 [.bool false, .slice none 0 0] 80) (h0 : v2.heap.size ≤ g0) (nv41 : NV w' m41 (.slice a41 l41 c41) ((C * V) * (F * W) - (D * V) * (E * W)) (105 + 105 + 1)) (nv42 : NV w' m42 (.slice a42 l42 c42) ((A * A + B * B) * ((C * V) * (F * W) - (D * V) * (E * W))) (107 + (105 + 105 + 1))) (nv43 : NV w' m43 (.slice a43 l43 c43) ((E * W) * (B * U) - (F * W) * (A * U)) (105 + 105 + 1)) (nv44 : NV w' m44 (.slice a44 l44 c44) ((C * C + D * D) * ((E * W) * (B * U) - (F * W) * (A * U))) (107 + (105 + 105 + 1))) (nv45 : NV w' m45 (.slice a45 l45 c45) ((A * A + B * B) * ((C * V) * (F * W) - (D * V) * (E * W)) + (C * C + D * D) * ((E * W) * (B * U) - (F * W) * (A * U))) ((107 + (105 + 105 + 1)) + 1)), wpAnyH Tryz.prog .any ops q SP 4 (ls 19 [0, 1, 2, 3, 4, 5, 6, 7, 8, 9, 10, 11, 12, 13, 17]) (fr (.pointer (some ⟨g0, 0, none⟩)) (.agg #[.bool m41, .slice a41 l41 c41]) (.agg #[.bool m42, .slice a42 l42 c42]) (.agg #[.bool m43, .slice a43 l43 c43]) (.agg #[.bool m44, .slice a44 l44 c44]) (.agg #[.bool m45, .slice a45 l45 c45]) undef undef undef) w') := by
   clear L8_0 L8_ L7_0 L7_ L6_
   subst hops hq hSP hfr
   intro g0 m41 a41 l41 c41 m42 a42 l42 c42 m43 a43 l43 c43 m44 a44 l44 c44 m45 a45 l45 c45 w' hS k0 h0 nv41 nv42 nv43 nv44 nv45
   have bc := bcS.out _ hS
   dsimp only
   refine rdy [14] (by kernel_rfl) ?_
   refine AllReadyH.cons (o := _) rfl (fun K hK => ?_) AllReadyH.nil
   ·simp only [List.getElem_toArray, List.getElem_cons_succ, List.getElem_cons_zero]
    go_simp
    go_fit (scross_any _ _ _ _ _ _ _ _ _ _ _ _ _ _ _ _ _ _ _ _ _ _ _ _ (A * U) (B * U) (C * V) (D * V) 105 _ (by omega) (nv13.below bc) (nv14.below bc) (nv23.below bc) (nv24.below bc))
    rintro e wn ⟨m46, v46, rfl, nv46, bn⟩
    obtain ⟨a46, l46, c46, rfl⟩ := nv46.slice
    have bcn := Below.after bc bn
    try go_wp2_with fail
    refine hK.out _ _ (mkS.out _ bcn) (fun hS => ?_)
    clear hK K
    exact lst (L6_0.out g0 m41 a41 l41 c41 m42 a42 l42 c42 m43 a43 l43 c43 m44 a44 l44 c44 m45 a45 l45 c45 m46 a46 l46 c46 wn hS (k0.below bn) h0 (nv41.below bn) (nv42.below bn) (nv43.below bn) (nv44.below bn) (nv45.below bn) nv46) (by kernel_rfl)
  have L5_ : Hid (∀ (m41 : Bool) (a41 : Option Addr) (l41 : Nat) (c41 : Nat) (m42 : Bool) (a42 : Option Addr) (l42 : Nat) (c42 : Nat) (m43 : Bool) (a43 : Option Addr) (l43 : Nat) (c43 : Nat) (m44 : Bool) (a44 : Option Addr) (l44 : Nat) (c44 : Nat) (m45 : Bool) (a45 : Option Addr) (l45 : Nat) (c45 : Nat) (w' : World) (hS : SP w') (nv41 : NV w' m41 (.slice a41 l41 c41) ((C * V) * (F * W) - (D * V) * (E * W)) (105 + 105 + 1)) (nv42 : NV w' m42 (.slice a42 l42 c42) ((A * A + B * B) * ((C * V) * (F * W) - (D * V) * (E * W))) (107 + (105 + 105 + 1))) (nv43 : NV w' m43 (.slice a43 l43 c43) ((E * W) * (B * U) - (F * W) * (A * U)) (105 + 105 + 1)) (nv44 : NV w' m44 (.slice a44 l44 c44) ((C * C + D * D) * ((E * W) * (B * U) - (F * W) * (A * U))) (107 + (105 + 105 + 1))) (nv45 : NV w' m45 (.slice a45 l45 c45) ((A * A + B * B) * ((C * V) * (F * W) - (D * V) * (E * W)) + (C * C + D * D) * ((E * W) * (B * U) - (F * W) * (A * U))) ((107 + (105 + 105 + 1)) + 1)), wpAnyH Tryz.prog .any ops q SP 5 (ls 19 [0, 1, 2, 3, 4, 5, 6, 7, 8, 9, 10, 11, 12, 13]) (fr undef (.agg #[.bool m41, .slice a41 l41 c41]) (.agg #[.bool m42, .slice a42 l42 c42]) (.agg #[.bool m43, .slice a43 l43 c43]) (.agg #[.bool m44, .slice a44 l44 c44]) (.agg #[.bool m45, .slice a45 l45 c45]) undef undef undef) w') := by
   clear L8_0 L8_ L7_0 L7_ L6_0
   subst hops hq hSP hfr
   intro m41 a41 l41 c41 m42 a42 l42 c42 m43 a43 l43 c43 m44 a44 l44 c44 m45 a45 l45 c45 w' hS nv41 nv42 nv43 nv44 nv45
   have bc := bcS.out _ hS
   dsimp only
   refine rdy [14, 17] (by kernel_rfl) ?_
   refine AllReadyH.cons (o := _) rfl (fun K hK => ?_) (AllReadyH.cons (o := _) rfl (fun K hK => ?_) AllReadyH.nil)
   ·simp only [List.getElem_toArray, List.getElem_cons_succ, List.getElem_cons_zero]
    go_simp
    go_fit (scross_any _ _ _ _ _ _ _ _ _ _ _ _ _ _ _ _ _ _ _ _ _ _ _ _ (A * U) (B * U) (C * V) (D * V) 105 _ (by omega) (nv13.below bc) (nv14.below bc) (nv23.below bc) (nv24.below bc))
    rintro e wn ⟨m46, v46, rfl, nv46, bn⟩
    obtain ⟨a46, l46, c46, rfl⟩ := nv46.slice
    have bcn := Below.after bc bn
    try go_wp2_with fail
    refine hK.out _ _ (mkS.out _ bcn) (fun hS => ?_)
    clear hK K
    exact lst (L6_.out m41 a41 l41 c41 m42 a42 l42 c42 m43 a43 l43 c43 m44 a44 l44 c44 m45 a45 l45 c45 m46 a46 l46 c46 wn hS (nv41.below bn) (nv42.below bn) (nv43.below bn) (nv44.below bn) (nv45.below bn) nv46) (by kernel_rfl)
   ·simp only [List.getElem_toArray, List.getElem_cons_succ, List.getElem_cons_zero]
    go_simp
    try go_wp2_with fail
    refine hK.out _ _ (mkS.out _ (ba bc _)) (fun hS => ?_)
    clear hK K
    exact lst (L5_0.out _ m41 a41 l41 c41 m42 a42 l42 c42 m43 a43 l43 c43 m44 a44 l44 c44 m45 a45 l45 c45 _ hS (Cel.new w' _ _) bc.size (nv41.below (bel_al _ _)) (nv42.below (bel_al _ _)) (nv43.below (bel_al _ _)) (nv44.below (bel_al _ _)) (nv45.below (bel_al _ _))) (by kernel_rfl)
  have L4_0 : Hid (∀ (g0 : Nat) (m41 : Bool) (a41 : Option Addr) (l41 : Nat) (c41 : Nat) (m42 : Bool) (a42 : Option Addr) (l42 : Nat) (c42 : Nat) (m43 : Bool) (a43 : Option Addr) (l43 : Nat) (c43 : Nat) (m44 : Bool) (a44 : Option Addr) (l44 : Nat) (c44 : Nat) (w' : World) (hS : SP w') (k0 : Cel w' g0 [.bool false, .slice none 0 0] 80) (h0 : v2.heap.size ≤ g0) (nv41 : NV w' m41 (.slice a41 l41 c41) ((C * V) * (F * W) - (D * V) * (E * W)) (105 + 105 + 1)) (nv42 : NV w' m42 (.slice a42 l42 c42) ((A * A + B * B) * ((C * V) * (F * W) - (D * V) * (E * W))) (107 + (105 + 105 + 1))) (nv43 : NV w' m43 (.slice a43 l43 c43) ((E * W) * (B * U) - (F * W) * (A * U)) (105 + 105 + 1)) (nv44 : NV w' m44 (.slice a44 l44 c44) ((C * C + D * D) * ((E * W) * (B * U) - (F * W) * (A * U))) (107 + (105 + 105 + 1))), wpAnyH Tryz.prog .any ops q SP 5 (ls 19 [0, 1, 2, 3, 4, 5, 6, 7, 8, 9, 11, 12, 13, 17]) (fr (.pointer (some ⟨g0, 0, none⟩)) (.agg #[.bool m41, .slice a41 l41 c41]) (.agg #[.bool m42, .slice a42 l42 c42]) (.agg #[.bool m43, .slice a43 l43 c43]) (.agg #[.bool m44, .slice a44 l44 c44]) undef undef undef undef) w') := by
   clear L8_0 L8_ L7_0 L7_ L6_0 L6_ L5_
   subst hops hq hSP hfr
   intro g0 m41 a41 l41 c41 m42 a42 l42 c42 m43 a43 l43 c43 m44 a44 l44 c44 w' hS k0 h0 nv41 nv42 nv43 nv44
   have bc := bcS.out _ hS
   dsimp only
   refine rdy [10] (by kernel_rfl) ?_
   refine AllReadyH.cons (o := _) rfl (fun K hK => ?_) AllReadyH.nil
   ·simp only [List.getElem_toArray, List.getElem_cons_succ, List.getElem_cons_zero]
    go_simp
    go_fit (nplus_any _ _ _ _ ((A * A + B * B) * ((C * V) * (F * W) - (D * V) * (E * W))) ((C * C + D * D) * ((E * W) * (B * U) - (F * W) * (A * U))) (107 + (105 + 105 + 1)) _ (by omega) nv42 nv44)
    rintro e wn ⟨m45, v45, rfl, nv45, bn⟩
    obtain ⟨a45, l45, c45, rfl⟩ := nv45.slice
    have bcn := Below.after bc bn
    try go_wp2_with fail
    refine hK.out _ _ (mkS.out _ bcn) (fun hS => ?_)
    clear hK K
    exact lst (L5_0.out g0 m41 a41 l41 c41 m42 a42 l42 c42 m43 a43 l43 c43 m44 a44 l44 c44 m45 a45 l45 c45 wn hS (k0.below bn) h0 (nv41.below bn) (nv42.below bn) (nv43.below bn) (nv44.below bn) nv45) (by kernel_rfl)
  have L4_ : Hid (∀ (m41 : Bool) (a41 : Option Addr) (l41 : Nat) (c41 : Nat) (m42 : Bool) (a42 : Option Addr) (l42 : Nat) (c42 : Nat) (m43 : Bool) (a43 : Option Addr) (l43 : Nat) (c43 : Nat) (m44 : Bool) (a44 : Option Addr) (l44 : Nat) (c44 : Nat) (w' : World) (hS : SP w') (nv41 : NV w' m41 (.slice a41 l41 c41) ((C * V) * (F * W) - (D * V) * (E * W)) (105 + 105 + 1)) (nv42 : NV w' m42 (.slice a42 l42 c42) ((A * A + B * B) * ((C * V) * (F * W) - (D * V) * (E * W))) (107 + (105 + 105 + 1))) (nv43 : NV w' m43 (.slice a43 l43 c43) ((E * W) * (B * U) - (F * W) * (A * U)) (105 + 105 + 1)) (nv44 : NV w' m44 (.slice a44 l44 c44) ((C * C + D * D) * ((E * W) * (B * U) - (F * W) * (A * U))) (107 + (105 + 105 + 1))), wpAnyH Tryz.prog .any ops q SP 6 (ls 19 [0, 1, 2, 3, 4, 5, 6, 7, 8, 9, 11, 12, 13]) (fr undef (.agg #[.bool m41, .slice a41 l41 c41]) (.agg #[.bool m42, .slice a42 l42 c42]) (.agg #[.bool m43, .slice a43 l43 c43]) (.agg #[.bool m44, .slice a44 l44 c44]) undef undef undef undef) w') := by
   clear L8_0 L8_ L7_0 L7_ L6_0 L6_ L5_0
   subst hops hq hSP hfr
   intro m41 a41 l41 c41 m42 a42 l42 c42 m43 a43 l43 c43 m44 a44 l44 c44 w' hS nv41 nv42 nv43 nv44
   have bc := bcS.out _ hS
   dsimp only
   refine rdy [10, 17] (by kernel_rfl) ?_
   refine AllReadyH.cons (o := _) rfl (fun K hK => ?_) (AllReadyH.cons (o := _) rfl (fun K hK => ?_) AllReadyH.nil)
   ·simp only [List.getElem_toArray, List.getElem_cons_succ, List.getElem_cons_zero]
    go_simp
    go_fit (nplus_any _ _ _ _ ((A * A + B * B) * ((C * V) * (F * W) - (D * V) * (E * W))) ((C * C + D * D) * ((E * W) * (B * U) - (F * W) * (A * U))) (107 + (105 + 105 + 1)) _ (by omega) nv42 nv44)
    rintro e wn ⟨m45, v45, rfl, nv45, bn⟩
    obtain ⟨a45, l45, c45, rfl⟩ := nv45.slice
    have bcn := Below.after bc bn
    try go_wp2_with fail
    refine hK.out _ _ (mkS.out _ bcn) (fun hS => ?_)
    clear hK K
    exact lst (L5_.out m41 a41 l41 c41 m42 a42 l42 c42 m43 a43 l43 c43 m44 a44 l44 c44 m45 a45 l45 c45 wn hS (nv41.below bn) (nv42.below bn) (nv43.below bn) (nv44.below bn) nv45) (by kernel_rfl)
   ·simp only [List.getElem_toArray, List.getElem_cons_succ, List.getElem_cons_zero]
    go_simp
    try go_wp2_with fail
    refine hK.out _ _ (mkS.out _ (ba bc _)) (fun hS => ?_)
    clear hK K
    exact lst (L4_0.out _ m41 a41 l41 c41 m42 a42 l42 c42 m43 a43 l43 c43 m44 a44 l44 c44 _ hS (Cel.new w' _ _) bc.size (nv41.below (bel_al _ _)) (nv42.below (bel_al _ _)) (nv43.below (bel_al _ _)) (nv44.below (bel_al _ _))) (by kernel_rfl)
  have L3_0 : Hid (∀ (g0 : Nat) (m41 : Bool) (a41 : Option Addr) (l41 : Nat) (c41 : Nat) (m42 : Bool) (a42 : Option Addr) (l42 : Nat) (c42 : Nat) (m43 : Bool) (a43 : Option Addr) (l43 : Nat) (c43 : Nat) (w' : World) (hS : SP w') (k0 : Cel w' g0 [.bool false, .slice none 0 0] 80) (h0 : v2.heap.size ≤ g0) (nv41 : NV w' m41 (.slice a41 l41 c41) ((C * V) * (F * W) - (D * V) * (E * W)) (105 + 105 + 1)) (nv42 : NV w' m42 (.slice a42 l42 c42) ((A * A + B * B) * ((C * V) * (F * W) - (D * V) * (E * W))) (107 + (105 + 105 + 1))) (nv43 : NV w' m43 (.slice a43 l43 c43) ((E * W) * (B * U) - (F * W) * (A * U)) (105 + 105 + 1)), wpAnyH Tryz.prog .any ops q SP 6 (ls 19 [0, 1, 2, 3, 4, 5, 6, 7, 8, 11, 12, 13, 17]) (fr (.pointer (some ⟨g0, 0, none⟩)) (.agg #[.bool m41, .slice a41 l41 c41]) (.agg #[.bool m42, .slice a42 l42 c42]) (.agg #[.bool m43, .slice a43 l43 c43]) undef undef undef undef undef) w') := by
   clear L8_0 L8_ L7_0 L7_ L6_0 L6_ L5_0 L5_ L4_
   subst hops hq hSP hfr
   intro g0 m41 a41 l41 c41 m42 a42 l42 c42 m43 a43 l43 c43 w' hS k0 h0 nv41 nv42 nv43
   have bc := bcS.out _ hS
   dsimp only
   refine rdy [9] (by kernel_rfl) ?_
   refine AllReadyH.cons (o := _) rfl (fun K hK => ?_) AllReadyH.nil
   ·simp only [List.getElem_toArray, List.getElem_cons_succ, List.getElem_cons_zero]
    go_simp
    go_fit (ntimes_any _ _ _ _ (C * C + D * D) ((E * W) * (B * U) - (F * W) * (A * U)) 107 (105 + 105 + 1) _ (by omega) (by omega) (nv25.below bc) nv43)
    rintro e wn ⟨m44, v44, rfl, nv44, -, bn⟩
    obtain ⟨a44, l44, c44, rfl⟩ := nv44.slice
    have bcn := Below.after bc bn
    try go_wp2_with fail
    refine hK.out _ _ (mkS.out _ bcn) (fun hS => ?_)
    clear hK K
    exact lst (L4_0.out g0 m41 a41 l41 c41 m42 a42 l42 c42 m43 a43 l43 c43 m44 a44 l44 c44 wn hS (k0.below bn) h0 (nv41.below bn) (nv42.below bn) (nv43.below bn) nv44) (by kernel_rfl)
  have L3_ : Hid (∀ (m41 : Bool) (a41 : Option Addr) (l41 : Nat) (c41 : Nat) (m42 : Bool) (a42 : Option Addr) (l42 : Nat) (c42 : Nat) (m43 : Bool) (a43 : Option Addr) (l43 : Nat) (c43 : Nat) (w' : World) (hS : SP w') (nv41 : NV w' m41 (.slice a41 l41 c41) ((C * V) * (F * W) - (D * V) * (E * W)) (105 + 105 + 1)) (nv42 : NV w' m42 (.slice a42 l42 c42) ((A * A + B * B) * ((C * V) * (F * W) - (D * V) * (E * W))) (107 + (105 + 105 + 1))) (nv43 : NV w' m43 (.slice a43 l43 c43) ((E * W) * (B * U) - (F * W) * (A * U)) (105 + 105 + 1)), wpAnyH Tryz.prog .any ops q SP 7 (ls 19 [0, 1, 2, 3, 4, 5, 6, 7, 8, 11, 12, 13]) (fr undef (.agg #[.bool m41, .slice a41 l41 c41]) (.agg #[.bool m42, .slice a42 l42 c42]) (.agg #[.bool m43, .slice a43 l43 c43]) undef undef undef undef undef) w') := by
   clear L8_0 L8_ L7_0 L7_ L6_0 L6_ L5_0 L5_ L4_0
   subst hops hq hSP hfr
   intro m41 a41 l41 c41 m42 a42 l42 c42 m43 a43 l43 c43 w' hS nv41 nv42 nv43
   have bc := bcS.out _ hS
   dsimp only
   refine rdy [9, 17] (by kernel_rfl) ?_
   refine AllReadyH.cons (o := _) rfl (fun K hK => ?_) (AllReadyH.cons (o := _) rfl (fun K hK => ?_) AllReadyH.nil)
   ·simp only [List.getElem_toArray, List.getElem_cons_succ, List.getElem_cons_zero]
    go_simp
    go_fit (ntimes_any _ _ _ _ (C * C + D * D) ((E * W) * (B * U) - (F * W) * (A * U)) 107 (105 + 105 + 1) _ (by omega) (by omega) (nv25.below bc) nv43)
    rintro e wn ⟨m44, v44, rfl, nv44, -, bn⟩
    obtain ⟨a44, l44, c44, rfl⟩ := nv44.slice
    have bcn := Below.after bc bn
    try go_wp2_with fail
    refine hK.out _ _ (mkS.out _ bcn) (fun hS => ?_)
    clear hK K
    exact lst (L4_.out m41 a41 l41 c41 m42 a42 l42 c42 m43 a43 l43 c43 m44 a44 l44 c44 wn hS (nv41.below bn) (nv42.below bn) (nv43.below bn) nv44) (by kernel_rfl)
   ·simp only [List.getElem_toArray, List.getElem_cons_succ, List.getElem_cons_zero]
    go_simp
    try go_wp2_with fail
    refine hK.out _ _ (mkS.out _ (ba bc _)) (fun hS => ?_)
    clear hK K
    exact lst (L3_0.out _ m41 a41 l41 c41 m42 a42 l42 c42 m43 a43 l43 c43 _ hS (Cel.new w' _ _) bc.size (nv41.below (bel_al _ _)) (nv42.below (bel_al _ _)) (nv43.below (bel_al _ _))) (by kernel_rfl)
  have L2_0 : Hid (∀ (g0 : Nat) (m41 : Bool) (a41 : Option Addr) (l41 : Nat) (c41 : Nat) (m42 : Bool) (a42 : Option Addr) (l42 : Nat) (c42 : Nat) (w' : World) (hS : SP w') (k0 : Cel w' g0 [.bool false, .slice none 0 0] 80) (h0 : v2.heap.size ≤ g0) (nv41 : NV w' m41 (.slice a41 l41 c41) ((C * V) * (F * W) - (D * V) * (E * W)) (105 + 105 + 1)) (nv42 : NV w' m42 (.slice a42 l42 c42) ((A * A + B * B) * ((C * V) * (F * W) - (D * V) * (E * W))) (107 + (105 + 105 + 1))), wpAnyH Tryz.prog .any ops q SP 7 (ls 19 [0, 1, 2, 3, 4, 5, 6, 7, 11, 12, 13, 17]) (fr (.pointer (some ⟨g0, 0, none⟩)) (.agg #[.bool m41, .slice a41 l41 c41]) (.agg #[.bool m42, .slice a42 l42 c42]) undef undef undef undef undef undef) w') := by
   clear L8_0 L8_ L7_0 L7_ L6_0 L6_ L5_0 L5_ L4_0 L4_ L3_
   subst hops hq hSP hfr
   intro g0 m41 a41 l41 c41 m42 a42 l42 c42 w' hS k0 h0 nv41 nv42
   have bc := bcS.out _ hS
   dsimp only
   refine rdy [8] (by kernel_rfl) ?_
   refine AllReadyH.cons (o := _) rfl (fun K hK => ?_) AllReadyH.nil
   ·simp only [List.getElem_toArray, List.getElem_cons_succ, List.getElem_cons_zero]
    go_simp
    go_fit (scross_any _ _ _ _ _ _ _ _ _ _ _ _ _ _ _ _ _ _ _ _ _ _ _ _ (E * W) (F * W) (A * U) (B * U) 105 _ (by omega) (nv33.below bc) (nv34.below bc) (nv13.below bc) (nv14.below bc))
    rintro e wn ⟨m43, v43, rfl, nv43, bn⟩
    obtain ⟨a43, l43, c43, rfl⟩ := nv43.slice
    have bcn := Below.after bc bn
    try go_wp2_with fail
    refine hK.out _ _ (mkS.out _ bcn) (fun hS => ?_)
    clear hK K
    exact lst (L3_0.out g0 m41 a41 l41 c41 m42 a42 l42 c42 m43 a43 l43 c43 wn hS (k0.below bn) h0 (nv41.below bn) (nv42.below bn) nv43) (by kernel_rfl)
  have L2_ : Hid (∀ (m41 : Bool) (a41 : Option Addr) (l41 : Nat) (c41 : Nat) (m42 : Bool) (a42 : Option Addr) (l42 : Nat) (c42 : Nat) (w' : World) (hS : SP w') (nv41 : NV w' m41 (.slice a41 l41 c41) ((C * V) * (F * W) - (D * V) * (E * W)) (105 + 105 + 1)) (nv42 : NV w' m42 (.slice a42 l42 c42) ((A * A + B * B) * ((C * V) * (F * W) - (D * V) * (E * W))) (107 + (105 + 105 + 1))), wpAnyH Tryz.prog .any ops q SP 8 (ls 19 [0, 1, 2, 3, 4, 5, 6, 7, 11, 12, 13]) (fr undef (.agg #[.bool m41, .slice a41 l41 c41]) (.agg #[.bool m42, .slice a42 l42 c42]) undef undef undef undef undef undef) w') := by
   clear L8_0 L8_ L7_0 L7_ L6_0 L6_ L5_0 L5_ L4_0 L4_ L3_0
   subst hops hq hSP hfr
   intro m41 a41 l41 c41 m42 a42 l42 c42 w' hS nv41 nv42
   have bc := bcS.out _ hS
   dsimp only
   refine rdy [8, 17] (by kernel_rfl) ?_
   refine AllReadyH.cons (o := _) rfl (fun K hK => ?_) (AllReadyH.cons (o := _) rfl (fun K hK => ?_) AllReadyH.nil)
   ·simp only [List.getElem_toArray, List.getElem_cons_succ, List.getElem_cons_zero]
    go_simp
    go_fit (scross_any _ _ _ _ _ _ _ _ _ _ _ _ _ _ _ _ _ _ _ _ _ _ _ _ (E * W) (F * W) (A * U) (B * U) 105 _ (by omega) (nv33.below bc) (nv34.below bc) (nv13.below bc) (nv14.below bc))
    rintro e wn ⟨m43, v43, rfl, nv43, bn⟩
    obtain ⟨a43, l43, c43, rfl⟩ := nv43.slice
    have bcn := Below.after bc bn
    try go_wp2_with fail
    refine hK.out _ _ (mkS.out _ bcn) (fun hS => ?_)
    clear hK K
    exact lst (L3_.out m41 a41 l41 c41 m42 a42 l42 c42 m43 a43 l43 c43 wn hS (nv41.below bn) (nv42.below bn) nv43) (by kernel_rfl)
   ·simp only [List.getElem_toArray, List.getElem_cons_succ, List.getElem_cons_zero]
    go_simp
    try go_wp2_with fail
    refine hK.out _ _ (mkS.out _ (ba bc _)) (fun hS => ?_)
    clear hK K
    exact lst (L2_0.out _ m41 a41 l41 c41 m42 a42 l42 c42 _ hS (Cel.new w' _ _) bc.size (nv41.below (bel_al _ _)) (nv42.below (bel_al _ _))) (by kernel_rfl)
  have L1_0 : Hid (∀ (g0 : Nat) (m41 : Bool) (a41 : Option Addr) (l41 : Nat) (c41 : Nat) (w' : World) (hS : SP w') (k0 : Cel w' g0 [.bool false, .slice none 0 0] 80) (h0 : v2.heap.size ≤ g0) (nv41 : NV w' m41 (.slice a41 l41 c41) ((C * V) * (F * W) - (D * V) * (E * W)) (105 + 105 + 1)), wpAnyH Tryz.prog .any ops q SP 8 (ls 19 [0, 1, 2, 3, 5, 6, 7, 11, 12, 13, 17]) (fr (.pointer (some ⟨g0, 0, none⟩)) (.agg #[.bool m41, .slice a41 l41 c41]) undef undef undef undef undef undef undef) w') := by
   clear L8_0 L8_ L7_0 L7_ L6_0 L6_ L5_0 L5_ L4_0 L4_ L3_0 L3_ L2_
   subst hops hq hSP hfr
   intro g0 m41 a41 l41 c41 w' hS k0 h0 nv41
   have bc := bcS.out _ hS
   dsimp only
   refine rdy [4] (by kernel_rfl) ?_
   refine AllReadyH.cons (o := _) rfl (fun K hK => ?_) AllReadyH.nil
   ·simp only [List.getElem_toArray, List.getElem_cons_succ, List.getElem_cons_zero]
    go_simp
    go_fit (ntimes_any _ _ _ _ (A * A + B * B) ((C * V) * (F * W) - (D * V) * (E * W)) 107 (105 + 105 + 1) _ (by omega) (by omega) (nv15.below bc) nv41)
    rintro e wn ⟨m42, v42, rfl, nv42, -, bn⟩
    obtain ⟨a42, l42, c42, rfl⟩ := nv42.slice
    have bcn := Below.after bc bn
    try go_wp2_with fail
    refine hK.out _ _ (mkS.out _ bcn) (fun hS => ?_)
    clear hK K
    exact lst (L2_0.out g0 m41 a41 l41 c41 m42 a42 l42 c42 wn hS (k0.below bn) h0 (nv41.below bn) nv42) (by kernel_rfl)
  have L1_ : Hid (∀ (m41 : Bool) (a41 : Option Addr) (l41 : Nat) (c41 : Nat) (w' : World) (hS : SP w') (nv41 : NV w' m41 (.slice a41 l41 c41) ((C * V) * (F * W) - (D * V) * (E * W)) (105 + 105 + 1)), wpAnyH Tryz.prog .any ops q SP 9 (ls 19 [0, 1, 2, 3, 5, 6, 7, 11, 12, 13]) (fr undef (.agg #[.bool m41, .slice a41 l41 c41]) undef undef undef undef undef undef undef) w') := by
   clear L8_0 L8_ L7_0 L7_ L6_0 L6_ L5_0 L5_ L4_0 L4_ L3_0 L3_ L2_0
   subst hops hq hSP hfr
   intro m41 a41 l41 c41 w' hS nv41
   have bc := bcS.out _ hS
   dsimp only
   refine rdy [4, 17] (by kernel_rfl) ?_
   refine AllReadyH.cons (o := _) rfl (fun K hK => ?_) (AllReadyH.cons (o := _) rfl (fun K hK => ?_) AllReadyH.nil)
   ·simp only [List.getElem_toArray, List.getElem_cons_succ, List.getElem_cons_zero]
    go_simp
    go_fit (ntimes_any _ _ _ _ (A * A + B * B) ((C * V) * (F * W) - (D * V) * (E * W)) 107 (105 + 105 + 1) _ (by omega) (by omega) (nv15.below bc) nv41)
    rintro e wn ⟨m42, v42, rfl, nv42, -, bn⟩
    obtain ⟨a42, l42, c42, rfl⟩ := nv42.slice
    have bcn := Below.after bc bn
    try go_wp2_with fail
    refine hK.out _ _ (mkS.out _ bcn) (fun hS => ?_)
    clear hK K
    exact lst (L2_.out m41 a41 l41 c41 m42 a42 l42 c42 wn hS (nv41.below bn) nv42) (by kernel_rfl)
   ·simp only [List.getElem_toArray, List.getElem_cons_succ, List.getElem_cons_zero]
    go_simp
    try go_wp2_with fail
    refine hK.out _ _ (mkS.out _ (ba bc _)) (fun hS => ?_)
    clear hK K
    exact lst (L1_0.out _ m41 a41 l41 c41 _ hS (Cel.new w' _ _) bc.size (nv41.below (bel_al _ _))) (by kernel_rfl)
  have L0_0 : Hid (∀ (g0 : Nat) (w' : World) (hS : SP w') (k0 : Cel w' g0 [.bool false, .slice none 0 0] 80) (h0 : v2.heap.size ≤ g0), wpAnyH Tryz.prog .any ops q SP 9 (ls 19 [0, 1, 2, 5, 6, 7, 11, 12, 13, 17]) (fr (.pointer (some ⟨g0, 0, none⟩)) undef undef undef undef undef undef undef undef) w') := by
   clear L8_0 L8_ L7_0 L7_ L6_0 L6_ L5_0 L5_ L4_0 L4_ L3_0 L3_ L2_0 L2_ L1_
   subst hops hq hSP hfr
   intro g0 w' hS k0 h0
   have bc := bcS.out _ hS
   dsimp only
   refine rdy [3] (by kernel_rfl) ?_
   refine AllReadyH.cons (o := _) rfl (fun K hK => ?_) AllReadyH.nil
   ·simp only [List.getElem_toArray, List.getElem_cons_succ, List.getElem_cons_zero]
    go_simp
    go_fit (scross_any _ _ _ _ _ _ _ _ _ _ _ _ _ _ _ _ _ _ _ _ _ _ _ _ (C * V) (D * V) (E * W) (F * W) 105 _ (by omega) (nv23.below bc) (nv24.below bc) (nv33.below bc) (nv34.below bc))
    rintro e wn ⟨m41, v41, rfl, nv41, bn⟩
    obtain ⟨a41, l41, c41, rfl⟩ := nv41.slice
    have bcn := Below.after bc bn
    try go_wp2_with fail
    refine hK.out _ _ (mkS.out _ bcn) (fun hS => ?_)
    clear hK K
    exact lst (L1_0.out g0 m41 a41 l41 c41 wn hS (k0.below bn) h0 nv41) (by kernel_rfl)
  have L0_ : Hid (∀ (w' : World) (hS : SP w'), wpAnyH Tryz.prog .any ops q SP 10 (ls 19 [0, 1, 2, 5, 6, 7, 11, 12, 13]) (fr undef undef undef undef undef undef undef undef undef) w') := by
   clear L8_0 L8_ L7_0 L7_ L6_0 L6_ L5_0 L5_ L4_0 L4_ L3_0 L3_ L2_0 L2_ L1_0
   subst hops hq hSP hfr
   intro w' hS
   have bc := bcS.out _ hS
   dsimp only
   refine rdy [3, 17] (by kernel_rfl) ?_
   refine AllReadyH.cons (o := _) rfl (fun K hK => ?_) (AllReadyH.cons (o := _) rfl (fun K hK => ?_) AllReadyH.nil)
   ·simp only [List.getElem_toArray, List.getElem_cons_succ, List.getElem_cons_zero]
    go_simp
    go_fit (scross_any _ _ _ _ _ _ _ _ _ _ _ _ _ _ _ _ _ _ _ _ _ _ _ _ (C * V) (D * V) (E * W) (F * W) 105 _ (by omega) (nv23.below bc) (nv24.below bc) (nv33.below bc) (nv34.below bc))
    rintro e wn ⟨m41, v41, rfl, nv41, bn⟩
    obtain ⟨a41, l41, c41, rfl⟩ := nv41.slice
    have bcn := Below.after bc bn
    try go_wp2_with fail
    refine hK.out _ _ (mkS.out _ bcn) (fun hS => ?_)
    clear hK K
    exact lst (L1_.out m41 a41 l41 c41 wn hS nv41) (by kernel_rfl)
   ·simp only [List.getElem_toArray, List.getElem_cons_succ, List.getElem_cons_zero]
    go_simp
    try go_wp2_with fail
    refine hK.out _ _ (mkS.out _ (ba bc _)) (fun hS => ?_)
    clear hK K
    exact lst (L0_0.out _ _ hS (Cel.new w' _ _) bc.size) (by kernel_rfl)
  clear L8_0 L8_ L7_0 L7_ L6_0 L6_ L5_0 L5_ L4_0 L4_ L3_0 L3_ L2_0 L2_ L1_0 L1_ L0_0
  subst hops hq hSP hfr
  refine wpAnyH_take (i := 0) (oi := _) (v := ?_) rfl (by kernel_rfl) (by kernel_rfl) (by kernel_rfl) (fun _ _ _ h => h) (Or.inl ⟨by rfl, ?_⟩) (by assumption) ?_
  rotate_left
  ·(intro w hSw; (try dsimp only at hSw); go_simp; try with_reducible rfl)
  try simp only [Act.put, List.getElem_toArray, List.getElem_cons_zero, List.setIfInBounds_toArray, List.set_cons_zero, List.set_cons_succ]
  refine wpAnyH_take (i := 1) (oi := _) (v := ?_) rfl (by kernel_rfl) (by kernel_rfl) (by kernel_rfl) (fun _ _ _ h => h) (Or.inl ⟨by rfl, ?_⟩) (by assumption) ?_
  rotate_left
  ·(intro w hSw; (try dsimp only at hSw); go_simp; try with_reducible rfl)
  try simp only [Act.put, List.getElem_toArray, List.getElem_cons_succ, List.getElem_cons_zero, List.setIfInBounds_toArray, List.set_cons_zero, List.set_cons_succ]
  refine wpAnyH_take (i := 2) (oi := _) (v := ?_) rfl (by kernel_rfl) (by kernel_rfl) (by kernel_rfl) (fun _ _ _ h => h) (Or.inl ⟨by rfl, ?_⟩) (by assumption) ?_
  rotate_left
  ·(intro w hSw; (try dsimp only at hSw); go_simp; try with_reducible rfl)
  try simp only [Act.put, List.getElem_toArray, List.getElem_cons_succ, List.getElem_cons_zero, List.setIfInBounds_toArray, List.set_cons_zero, List.set_cons_succ]
  refine wpAnyH_take (i := 5) (oi := _) (v := ?_) rfl (by kernel_rfl) (by kernel_rfl) (by kernel_rfl) (fun _ _ _ h => h) (Or.inl ⟨by rfl, ?_⟩) (by assumption) ?_
  rotate_left
  ·(intro w hSw; (try dsimp only at hSw); go_simp; try with_reducible rfl)
  try simp only [Act.put, List.getElem_toArray, List.getElem_cons_succ, List.getElem_cons_zero, List.setIfInBounds_toArray, List.set_cons_zero, List.set_cons_succ]
  refine wpAnyH_take (i := 6) (oi := _) (v := ?_) rfl (by kernel_rfl) (by kernel_rfl) (by kernel_rfl) (fun _ _ _ h => h) (Or.inl ⟨by rfl, ?_⟩) (by assumption) ?_
  rotate_left
  ·(intro w hSw; (try dsimp only at hSw); go_simp; try with_reducible rfl)
  try simp only [Act.put, List.getElem_toArray, List.getElem_cons_succ, List.getElem_cons_zero, List.setIfInBounds_toArray, List.set_cons_zero, List.set_cons_succ]
  refine wpAnyH_take (i := 7) (oi := _) (v := ?_) rfl (by kernel_rfl) (by kernel_rfl) (by kernel_rfl) (fun _ _ _ h => h) (Or.inl ⟨by rfl, ?_⟩) (by assumption) ?_
  rotate_left
  ·(intro w hSw; (try dsimp only at hSw); go_simp; try with_reducible rfl)
  try simp only [Act.put, List.getElem_toArray, List.getElem_cons_succ, List.getElem_cons_zero, List.setIfInBounds_toArray, List.set_cons_zero, List.set_cons_succ]
  refine wpAnyH_take (i := 11) (oi := _) (v := ?_) rfl (by kernel_rfl) (by kernel_rfl) (by kernel_rfl) (fun _ _ _ h => h) (Or.inl ⟨by rfl, ?_⟩) (by assumption) ?_
  rotate_left
  ·(intro w hSw; (try dsimp only at hSw); go_simp; try with_reducible rfl)
  try simp only [Act.put, List.getElem_toArray, List.getElem_cons_succ, List.getElem_cons_zero, List.setIfInBounds_toArray, List.set_cons_zero, List.set_cons_succ]
  refine wpAnyH_take (i := 12) (oi := _) (v := ?_) rfl (by kernel_rfl) (by kernel_rfl) (by kernel_rfl) (fun _ _ _ h => h) (Or.inl ⟨by rfl, ?_⟩) (by assumption) ?_
  rotate_left
  ·(intro w hSw; (try dsimp only at hSw); go_simp; try with_reducible rfl)
  try simp only [Act.put, List.getElem_toArray, List.getElem_cons_succ, List.getElem_cons_zero, List.setIfInBounds_toArray, List.set_cons_zero, List.set_cons_succ]
  refine wpAnyH_take (i := 13) (oi := _) (v := ?_) rfl (by kernel_rfl) (by kernel_rfl) (by kernel_rfl) (fun _ _ _ h => h) (Or.inl ⟨by rfl, ?_⟩) (by assumption) ?_
  rotate_left
  ·(intro w hSw; (try dsimp only at hSw); go_simp; try with_reducible rfl)
  try simp only [Act.put, List.getElem_toArray, List.getElem_cons_succ, List.getElem_cons_zero, List.setIfInBounds_toArray, List.set_cons_zero, List.set_cons_succ]
  exact lst (L0_.out _ (mkS.out _ (bdrew _))) (by kernel_rfl)
 case rest =>
 obtain ⟨gx, m41, a41, l41, c41, m42, a42, l42, c42, m43, a43, l43, c43, m44, a44, l44, c44, m45, a45, l45, c45, m46, a46, l46, c46, m47, a47, l47, c47, m48, a48, l48, c48, rfl, lx, kx, nv41, nv42, nv43, nv44, nv45, nv46, nv47, nv48, b1⟩ := hcut
 clear mkS bcS
 have sz := b1.size
 replace ks0 := ks0.below b1
 replace kn0 := kn0.below b1
 replace ks1 := ks1.below b1
 replace kn1 := kn1.below b1
 replace ks2 := ks2.below b1
 replace kn2 := kn2.below b1
 replace bb := Below.after bb b1
 clear b1
 have tx := kx.lt
 have co0 := cel2_0 kx
 have co1 := cel2_1 kx
 go_wp2_with fail
 go_fit (nsign_any _ _ ((A * A + B * B) * ((C * V) * (F * W) - (D * V) * (E * W)) + (C * C + D * D) * ((E * W) * (B * U) - (F * W) * (A * U)) + (E * E + F * F) * ((A * U) * (D * V) - (B * U) * (C * V))) ((107 + (105 + 105 + 1)) + 1 + 1) _ nv48)
 rintro e' wz ⟨rfl, b1⟩
 replace bb := Below.after bb b1
 rw [Gm.lift_sign hw0 hw1 hw2]
 go_wp2
 go_ret
 exact ⟨rfl, bb⟩
end Go.Proofs.YtafikdacdfkkhaaGreatDoor
namespace Go.Proofs.YtafikdacdfkkhaaGreatDoor
open Go.RowKit

theorem rdpt_3 {w : World} {B : Nat} {t : TypeId} {n0 n1 n2 n3 n4 n5 : Bool} {s0 d0 s1 d1 s2 d2 s3 d3 s4 d4 s5 d5 : ByteArray} (h : Cel w B [.bool n0, .string s0, .string d0, .bool n1, .string s1, .string d1, .bool n2, .string s2, .string d2, .bool n3, .string s3, .string d3, .bool n4, .string s4, .string d4, .bool n5, .string s5, .string d5] t) : RdPt w (some ⟨B, 0, none⟩) 3 (f4 n0 n2 n4 n4) (f4 s0 s2 s4 s4) (f4 d0 d2 d4 d4) (f4 n1 n3 n5 n5) (f4 s1 s3 s5 s5) (f4 d1 d3 d5 d5) := by
 intro j hj
 refine ⟨B, 0, rfl, ?_⟩
 match j, hj with
 | 0, _ => exact ⟨h.cell 0, h.cell 1, h.cell 2, h.cell 3, h.cell 4, h.cell 5⟩
 | 1, _ => exact ⟨h.cell 6, h.cell 7, h.cell 8, h.cell 9, h.cell 10, h.cell 11⟩
 | 2, _ => exact ⟨h.cell 12, h.cell 13, h.cell 14, h.cell 15, h.cell 16, h.cell 17⟩
theorem rdpt_4 {w : World} {B : Nat} {t : TypeId} {n0 n1 n2 n3 n4 n5 n6 n7 : Bool} {s0 d0 s1 d1 s2 d2 s3 d3 s4 d4 s5 d5 s6 d6 s7 d7 : ByteArray} (h : Cel w B [.bool n0, .string s0, .string d0, .bool n1, .string s1, .string d1, .bool n2, .string s2, .string d2, .bool n3, .string s3, .string d3, .bool n4, .string s4, .string d4, .bool n5, .string s5, .string d5, .bool n6, .string s6, .string d6, .bool n7, .string s7, .string d7] t) : RdPt w (some ⟨B, 0, none⟩) 4 (f4 n0 n2 n4 n6) (f4 s0 s2 s4 s6) (f4 d0 d2 d4 d6) (f4 n1 n3 n5 n7) (f4 s1 s3 s5 s7) (f4 d1 d3 d5 d7) := by
 intro j hj
 refine ⟨B, 0, rfl, ?_⟩
 match j, hj with
 | 0, _ => exact ⟨h.cell 0, h.cell 1, h.cell 2, h.cell 3, h.cell 4, h.cell 5⟩
 | 1, _ => exact ⟨h.cell 6, h.cell 7, h.cell 8, h.cell 9, h.cell 10, h.cell 11⟩
 | 2, _ => exact ⟨h.cell 12, h.cell 13, h.cell 14, h.cell 15, h.cell 16, h.cell 17⟩
 | 3, _ => exact ⟨h.cell 18, h.cell 19, h.cell 20, h.cell 21, h.cell 22, h.cell 23⟩
theorem scheck3 (B : Nat) (n0 n1 n2 n3 n4 n5 : Bool) (s0 d0 s1 d1 s2 d2 s3 d3 s4 d4 s5 d5 : ByteArray) (w : World) (hT : Tab w) (h : Cel w B [.bool n0, .string s0, .string d0, .bool n1, .string s1, .string d1, .bool n2, .string s2, .string d2, .bool n3, .string s3, .string d3, .bool n4, .string s4, .string d4, .bool n5, .string s5, .string d5] 28) (z0 : s0.size ≤ 100 ∧ d0.size ≤ 100) (z1 : s1.size ≤ 100 ∧ d1.size ≤ 100) (z2 : s2.size ≤ 100 ∧ d2.size ≤ 100) (z3 : s3.size ≤ 100 ∧ d3.size ≤ 100) (z4 : s4.size ≤ 100 ∧ d4.size ≤ 100) (z5 : s5.size ≤ 100 ∧ d5.size ≤ 100) :
  Calls Tryz.prog 46 #[.slice (some ⟨B, 0, none⟩) 3 3] w fun e w' => e = .returned (.int .i64 (two (two (twoq n0 s0 d0 n1 s1 d1) (twoq n2 s2 d2 n3 s3 d3)) (twoq n4 s4 d4 n5 s5 d5) : Nat)) ∧ Below w.heap.size w w' := by
 refine scheck_walk (some ⟨B, 0, none⟩) 3 3 _ _ _ _ _ _ (f4 (twoq n0 s0 d0 n1 s1 d1) (twoq n2 s2 d2 n3 s3 d3) (twoq n4 s4 d4 n5 s5 d5) 0) w (by omega) (rdpt_3 h) (fun j hj => ?_) (fun j w1 hj b => ?_)
 ·match j, hj with
  | 0, _ => exact ⟨z0.1, z0.2, z1.1, z1.2⟩
  | 1, _ => exact ⟨z2.1, z2.2, z3.1, z3.2⟩
  | 2, _ => exact ⟨z4.1, z4.2, z5.1, z5.2⟩
 ·match j, hj with
  | 0, _ => exact vCheck_any n0 n1 s0 d0 s1 d1 w1 (hT.below b)
  | 1, _ => exact vCheck_any n2 n3 s2 d2 s3 d3 w1 (hT.below b)
  | 2, _ => exact vCheck_any n4 n5 s4 d4 s5 d5 w1 (hT.below b)
theorem scheck4 (B : Nat) (n0 n1 n2 n3 n4 n5 n6 n7 : Bool) (s0 d0 s1 d1 s2 d2 s3 d3 s4 d4 s5 d5 s6 d6 s7 d7 : ByteArray) (w : World) (hT : Tab w) (h : Cel w B [.bool n0, .string s0, .string d0, .bool n1, .string s1, .string d1, .bool n2, .string s2, .string d2, .bool n3, .string s3, .string d3, .bool n4, .string s4, .string d4, .bool n5, .string s5, .string d5, .bool n6, .string s6, .string d6, .bool n7, .string s7, .string d7] 28) (z0 : s0.size ≤ 100 ∧ d0.size ≤ 100) (z1 : s1.size ≤ 100 ∧ d1.size ≤ 100) (z2 : s2.size ≤ 100 ∧ d2.size ≤ 100) (z3 : s3.size ≤ 100 ∧ d3.size ≤ 100) (z4 : s4.size ≤ 100 ∧ d4.size ≤ 100) (z5 : s5.size ≤ 100 ∧ d5.size ≤ 100) (z6 : s6.size ≤ 100 ∧ d6.size ≤ 100) (z7 : s7.size ≤ 100 ∧ d7.size ≤ 100) :
  Calls Tryz.prog 46 #[.slice (some ⟨B, 0, none⟩) 4 4] w fun e w' => e = .returned (.int .i64 (two (two (two (twoq n0 s0 d0 n1 s1 d1) (twoq n2 s2 d2 n3 s3 d3)) (twoq n4 s4 d4 n5 s5 d5)) (twoq n6 s6 d6 n7 s7 d7) : Nat)) ∧ Below w.heap.size w w' := by
 refine scheck_walk (some ⟨B, 0, none⟩) 4 4 _ _ _ _ _ _ (f4 (twoq n0 s0 d0 n1 s1 d1) (twoq n2 s2 d2 n3 s3 d3) (twoq n4 s4 d4 n5 s5 d5) (twoq n6 s6 d6 n7 s7 d7)) w (by omega) (rdpt_4 h) (fun j hj => ?_) (fun j w1 hj b => ?_)
 ·match j, hj with
  | 0, _ => exact ⟨z0.1, z0.2, z1.1, z1.2⟩
  | 1, _ => exact ⟨z2.1, z2.2, z3.1, z3.2⟩
  | 2, _ => exact ⟨z4.1, z4.2, z5.1, z5.2⟩
  | 3, _ => exact ⟨z6.1, z6.2, z7.1, z7.2⟩
 ·match j, hj with
  | 0, _ => exact vCheck_any n0 n1 s0 d0 s1 d1 w1 (hT.below b)
  | 1, _ => exact vCheck_any n2 n3 s2 d2 s3 d3 w1 (hT.below b)
  | 2, _ => exact vCheck_any n4 n5 s4 d4 s5 d5 w1 (hT.below b)
  | 3, _ => exact vCheck_any n6 n7 s6 d6 s7 d7 w1 (hT.below b)
theorem sturn_any (n0 n1 n2 n3 n4 n5 : Bool) (s0 d0 s1 d1 s2 d2 s3 d3 s4 d4 s5 d5 : ByteArray) (w : World) (o0 : OkQ n0 s0 d0) (o1 : OkQ n1 s1 d1) (o2 : OkQ n2 s2 d2) (o3 : OkQ n3 s3 d3) (o4 : OkQ n4 s4 d4) (o5 : OkQ n5 s5 d5) (z0 : s0.size ≤ 100 ∧ d0.size ≤ 100) (z1 : s1.size ≤ 100 ∧ d1.size ≤ 100) (z2 : s2.size ≤ 100 ∧ d2.size ≤ 100) (z3 : s3.size ≤ 100 ∧ d3.size ≤ 100) (z4 : s4.size ≤ 100 ∧ d4.size ≤ 100) (z5 : s5.size ≤ 100 ∧ d5.size ≤ 100) :
  Calls Tryz.prog 64 #[.agg #[.bool n0, .string s0, .string d0, .bool n1, .string s1, .string d1], .agg #[.bool n2, .string s2, .string d2, .bool n3, .string s3, .string d3], .agg #[.bool n4, .string s4, .string d4, .bool n5, .string s5, .string d5]] w fun e w' => e = .returned (.int .i64 (Gm.sg (Gm.cr (qOf n0 s0 d0) (qOf n1 s1 d1) (qOf n2 s2 d2) (qOf n3 s3 d3) (qOf n4 s4 d4) (qOf n5 s5 d5)))) ∧ Below w.heap.size w w' :=
 turn_walk n0 n1 n2 n3 n4 n5 s0 d0 s1 d1 s2 d2 s3 d3 s4 d4 s5 d5 _ _ _ _ w (fun w1 => sof_any n0 n1 n2 n3 s0 d0 s1 d1 s2 d2 s3 d3 w1 o0 o1 o2 o3 z0 z1 z2 z3) (fun w1 => sof_any n0 n1 n4 n5 s0 d0 s1 d1 s4 d4 s5 d5 w1 o0 o1 o4 o5 z0 z1 z4 z5)
theorem scircle_any (n0 n1 n2 n3 n4 n5 n6 n7 : Bool) (s0 d0 s1 d1 s2 d2 s3 d3 s4 d4 s5 d5 s6 d6 s7 d7 : ByteArray) (w : World) (o0 : OkQ n0 s0 d0) (o1 : OkQ n1 s1 d1) (o2 : OkQ n2 s2 d2) (o3 : OkQ n3 s3 d3) (o4 : OkQ n4 s4 d4) (o5 : OkQ n5 s5 d5) (o6 : OkQ n6 s6 d6) (o7 : OkQ n7 s7 d7) (z0 : s0.size ≤ 100 ∧ d0.size ≤ 100) (z1 : s1.size ≤ 100 ∧ d1.size ≤ 100) (z2 : s2.size ≤ 100 ∧ d2.size ≤ 100) (z3 : s3.size ≤ 100 ∧ d3.size ≤ 100) (z4 : s4.size ≤ 100 ∧ d4.size ≤ 100) (z5 : s5.size ≤ 100 ∧ d5.size ≤ 100) (z6 : s6.size ≤ 100 ∧ d6.size ≤ 100) (z7 : s7.size ≤ 100 ∧ d7.size ≤ 100) :
  Calls Tryz.prog 65 #[.agg #[.bool n0, .string s0, .string d0, .bool n1, .string s1, .string d1], .agg #[.bool n2, .string s2, .string d2, .bool n3, .string s3, .string d3], .agg #[.bool n4, .string s4, .string d4, .bool n5, .string s5, .string d5], .agg #[.bool n6, .string s6, .string d6, .bool n7, .string s7, .string d7]] w fun e w' => e = .returned (.int .i64 (Gm.sg (Gm.ci (qOf n0 s0 d0) (qOf n1 s1 d1) (qOf n2 s2 d2) (qOf n3 s3 d3) (qOf n4 s4 d4) (qOf n5 s5 d5) (qOf n6 s6 d6) (qOf n7 s7 d7)))) ∧ Below w.heap.size w w' :=
 circle_walk n0 n1 n2 n3 n4 n5 n6 n7 s0 d0 s1 d1 s2 d2 s3 d3 s4 d4 s5 d5 s6 d6 s7 d7 _ _ _ _ _ _ w (fun w1 => sof_any n6 n7 n0 n1 s6 d6 s7 d7 s0 d0 s1 d1 w1 o6 o7 o0 o1 z6 z7 z0 z1) (fun w1 => sof_any n6 n7 n2 n3 s6 d6 s7 d7 s2 d2 s3 d3 w1 o6 o7 o2 o3 z6 z7 z2 z3) (fun w1 => sof_any n6 n7 n4 n5 s6 d6 s7 d7 s4 d4 s5 d5 w1 o6 o7 o4 o5 z6 z7 z4 z5)
theorem sg_small (r : Rat) : Gm.sg r = 0 ∨ Gm.sg r = 1 ∨ Gm.sg r = -1 := by
 rcases Gm.sg_cases r with h | h | h
 ·exact Or.inl h.2
 ·exact Or.inr (Or.inl h.2)
 ·exact Or.inr (Or.inr h.2)
set_option maxRecDepth 100000 in
set_option maxHeartbeats 8000000 in
theorem about_walk (n0 n1 n2 n3 n4 n5 : Bool) (s0 d0 s1 d1 s2 d2 s3 d3 s4 d4 s5 d5 : ByteArray) (x y x' y' : Rat) (w : World)
  (H1 : Hid (∀ w1, Calls Tryz.prog 80 #[.agg #[.bool n4, .string s4, .string d4, .bool n5, .string s5, .string d5], .agg #[.bool n0, .string s0, .string d0, .bool n1, .string s1, .string d1]] w1 fun e w' => ∃ m0 a0 l0 c0 m1 a1 l1 c1 a2 l2 c2 X Y U, e = .returned (.agg #[.bool m0, .slice a0 l0 c0, .bool m1, .slice a1 l1 c1, .bool false, .slice a2 l2 c2]) ∧ NV w' m0 (.slice a0 l0 c0) X 53 ∧ NV w' m1 (.slice a1 l1 c1) Y 53 ∧ NV w' false (.slice a2 l2 c2) U 52 ∧ Gm.Way X Y U x y ∧ Below w1.heap.size w1 w'))
  (H2 : Hid (∀ w1, Calls Tryz.prog 80 #[.agg #[.bool n4, .string s4, .string d4, .bool n5, .string s5, .string d5], .agg #[.bool n2, .string s2, .string d2, .bool n3, .string s3, .string d3]] w1 fun e w' => ∃ m0 a0 l0 c0 m1 a1 l1 c1 a2 l2 c2 X Y U, e = .returned (.agg #[.bool m0, .slice a0 l0 c0, .bool m1, .slice a1 l1 c1, .bool false, .slice a2 l2 c2]) ∧ NV w' m0 (.slice a0 l0 c0) X 53 ∧ NV w' m1 (.slice a1 l1 c1) Y 53 ∧ NV w' false (.slice a2 l2 c2) U 52 ∧ Gm.Way X Y U x' y' ∧ Below w1.heap.size w1 w')) :
  Calls Tryz.prog 67 #[.agg #[.bool n0, .string s0, .string d0, .bool n1, .string s1, .string d1], .agg #[.bool n2, .string s2, .string d2, .bool n3, .string s3, .string d3], .agg #[.bool n4, .string s4, .string d4, .bool n5, .string s5, .string d5]] w fun e w' => e = .returned (.int .i64 (-(Gm.sg (x * x' + y * y')))) ∧ Below w.heap.size w w' := by
 go_enter Tryz.func67, Tryz.ntmps67
 go_wp2_with fail
 obtain ⟨w0, hw, ka, kb, kc, bb⟩ := mk3 w [.bool n0, .string s0, .string d0, .bool n1, .string s1, .string d1] [.bool n2, .string s2, .string d2, .bool n3, .string s3, .string d3] [.bool n4, .string s4, .string d4, .bool n5, .string s5, .string d5] 28 28 28
 rw [← hw]
 clear hw
 have hs := sg_small (x * x' + y * y')
 have hwr : IntKind.i64.wrap (-(Gm.sg (x * x' + y * y'))) = -(Gm.sg (x * x' + y * y')) := by rw [IntKind.wrap_i64]; omega
 clear hs
 generalize hG : Gm.sg (x * x' + y * y') = G at *
 replace hG := shut hG
 have mkS : Hid (∀ w', Cel w' (w.heap.size) [.bool n0, .string s0, .string d0, .bool n1, .string s1, .string d1] 28 → Cel w' (w.heap.size + 1) [.bool n2, .string s2, .string d2, .bool n3, .string s3, .string d3] 28 → Cel w' (w.heap.size + 1 + 1) [.bool n4, .string s4, .string d4, .bool n5, .string s5, .string d5] 28 → (w'.cell? ⟨w.heap.size, 0, none⟩ = some (.bool n0) ∧ w'.cell? ⟨w.heap.size, 1, none⟩ = some (.string s0) ∧ w'.cell? ⟨w.heap.size, 2, none⟩ = some (.string d0) ∧ w'.cell? ⟨w.heap.size, 3, none⟩ = some (.bool n1) ∧ w'.cell? ⟨w.heap.size, 4, none⟩ = some (.string s1) ∧ w'.cell? ⟨w.heap.size, 5, none⟩ = some (.string d1) ∧ w'.cell? ⟨w.heap.size + 1, 0, none⟩ = some (.bool n2) ∧ w'.cell? ⟨w.heap.size + 1, 1, none⟩ = some (.string s2) ∧ w'.cell? ⟨w.heap.size + 1, 2, none⟩ = some (.string d2) ∧ w'.cell? ⟨w.heap.size + 1, 3, none⟩ = some (.bool n3) ∧ w'.cell? ⟨w.heap.size + 1, 4, none⟩ = some (.string s3) ∧ w'.cell? ⟨w.heap.size + 1, 5, none⟩ = some (.string d3) ∧ w'.cell? ⟨w.heap.size + 1 + 1, 0, none⟩ = some (.bool n4) ∧ w'.cell? ⟨w.heap.size + 1 + 1, 1, none⟩ = some (.string s4) ∧ w'.cell? ⟨w.heap.size + 1 + 1, 2, none⟩ = some (.string d4) ∧ w'.cell? ⟨w.heap.size + 1 + 1, 3, none⟩ = some (.bool n5) ∧ w'.cell? ⟨w.heap.size + 1 + 1, 4, none⟩ = some (.string s5) ∧ w'.cell? ⟨w.heap.size + 1 + 1, 5, none⟩ = some (.string d5))) := fun w' ha hb hc => ⟨cel6_0 ha, cel6_1 ha, cel6_2 ha, cel6_3 ha, cel6_4 ha, cel6_5 ha, cel6_0 hb, cel6_1 hb, cel6_2 hb, cel6_3 hb, cel6_4 hb, cel6_5 hb, cel6_0 hc, cel6_1 hc, cel6_2 hc, cel6_3 hc, cel6_4 hc, cel6_5 hc⟩
 go_region_held3 (fun w' => w'.cell? ⟨w.heap.size, 0, none⟩ = some (.bool n0) ∧ w'.cell? ⟨w.heap.size, 1, none⟩ = some (.string s0) ∧ w'.cell? ⟨w.heap.size, 2, none⟩ = some (.string d0) ∧ w'.cell? ⟨w.heap.size, 3, none⟩ = some (.bool n1) ∧ w'.cell? ⟨w.heap.size, 4, none⟩ = some (.string s1) ∧ w'.cell? ⟨w.heap.size, 5, none⟩ = some (.string d1) ∧ w'.cell? ⟨w.heap.size + 1, 0, none⟩ = some (.bool n2) ∧ w'.cell? ⟨w.heap.size + 1, 1, none⟩ = some (.string s2) ∧ w'.cell? ⟨w.heap.size + 1, 2, none⟩ = some (.string d2) ∧ w'.cell? ⟨w.heap.size + 1, 3, none⟩ = some (.bool n3) ∧ w'.cell? ⟨w.heap.size + 1, 4, none⟩ = some (.string s3) ∧ w'.cell? ⟨w.heap.size + 1, 5, none⟩ = some (.string d3) ∧ w'.cell? ⟨w.heap.size + 1 + 1, 0, none⟩ = some (.bool n4) ∧ w'.cell? ⟨w.heap.size + 1 + 1, 1, none⟩ = some (.string s4) ∧ w'.cell? ⟨w.heap.size + 1 + 1, 2, none⟩ = some (.string d4) ∧ w'.cell? ⟨w.heap.size + 1 + 1, 3, none⟩ = some (.bool n5) ∧ w'.cell? ⟨w.heap.size + 1 + 1, 4, none⟩ = some (.string s5) ∧ w'.cell? ⟨w.heap.size + 1 + 1, 5, none⟩ = some (.string d5)) (first | with_reducible exact mkS.out _ ka kb kc | exact mkS.out _ ka kb kc) (first | (go_at_call 80; go_fit (H1.out _); rintro e wn ⟨m0, a0, l0, c0, m1, a1, l1, c1, a2, l2, c2, X, Y, U, rfl, nv0, nv1, nv2, hw0, bn⟩; replace ka := ka.below ⟨bn.os, bn.tape, bn.output, bn.size, bn.block⟩; replace kb := kb.below ⟨bn.os, bn.tape, bn.output, bn.size, bn.block⟩; replace kc := kc.below ⟨bn.os, bn.tape, bn.output, bn.size, bn.block⟩; (try replace nv3 := nv3.below ⟨bn.os, bn.tape, bn.output, bn.size, bn.block⟩); (try replace nv4 := nv4.below ⟨bn.os, bn.tape, bn.output, bn.size, bn.block⟩); (try replace nv6 := nv6.below ⟨bn.os, bn.tape, bn.output, bn.size, bn.block⟩); replace bb := Below.after bb ⟨bn.os, bn.tape, bn.output, bn.size, bn.block⟩) | (go_at_call 80; go_fit (H2.out _); rintro e wn ⟨m3, a3, l3, c3, m4, a4, l4, c4, a5, l5, c5, X', Y', U', rfl, nv3, nv4, nv5, hw1, bn⟩; replace ka := ka.below ⟨bn.os, bn.tape, bn.output, bn.size, bn.block⟩; replace kb := kb.below ⟨bn.os, bn.tape, bn.output, bn.size, bn.block⟩; replace kc := kc.below ⟨bn.os, bn.tape, bn.output, bn.size, bn.block⟩; (try replace nv0 := nv0.below ⟨bn.os, bn.tape, bn.output, bn.size, bn.block⟩); (try replace nv1 := nv1.below ⟨bn.os, bn.tape, bn.output, bn.size, bn.block⟩); (try replace nv6 := nv6.below ⟨bn.os, bn.tape, bn.output, bn.size, bn.block⟩); replace bb := Below.after bb ⟨bn.os, bn.tape, bn.output, bn.size, bn.block⟩) | (go_at_call 81; go_fit (sdot_any _ _ _ _ _ _ _ _ _ _ _ _ _ _ _ _ _ _ _ _ _ _ _ _ X Y X' Y' 53 _ (by omega) ?_ ?_ ?_ ?_); (first | exact nv0 | exact nv0.drew); (first | exact nv1 | exact nv1.drew); (first | exact nv3 | exact nv3.drew); (first | exact nv4 | exact nv4.drew); rintro e wn ⟨m6, v6, rfl, nv6, bn⟩; obtain ⟨a6, l6, c6, rfl⟩ := nv6.slice; replace ka := ka.below ⟨bn.os, bn.tape, bn.output, bn.size, bn.block⟩; replace kb := kb.below ⟨bn.os, bn.tape, bn.output, bn.size, bn.block⟩; replace kc := kc.below ⟨bn.os, bn.tape, bn.output, bn.size, bn.block⟩; (try replace nv0 := nv0.below ⟨bn.os, bn.tape, bn.output, bn.size, bn.block⟩); (try replace nv1 := nv1.below ⟨bn.os, bn.tape, bn.output, bn.size, bn.block⟩); (try replace nv3 := nv3.below ⟨bn.os, bn.tape, bn.output, bn.size, bn.block⟩); (try replace nv4 := nv4.below ⟨bn.os, bn.tape, bn.output, bn.size, bn.block⟩); replace bb := Below.after bb ⟨bn.os, bn.tape, bn.output, bn.size, bn.block⟩) | (go_at_call 82; go_fit (nsign_any _ _ (X * X' + Y * Y') (53 + 53 + 1) _ ?_); (first | exact nv6 | exact nv6.drew); rintro e wn ⟨rfl, bn⟩; rw [Gm.dot_sign hw0 hw1, hG.out]; replace ka := ka.below ⟨bn.os, bn.tape, bn.output, bn.size, bn.block⟩; replace kb := kb.below ⟨bn.os, bn.tape, bn.output, bn.size, bn.block⟩; replace kc := kc.below ⟨bn.os, bn.tape, bn.output, bn.size, bn.block⟩; (try replace nv0 := nv0.below ⟨bn.os, bn.tape, bn.output, bn.size, bn.block⟩); (try replace nv1 := nv1.below ⟨bn.os, bn.tape, bn.output, bn.size, bn.block⟩); (try replace nv3 := nv3.below ⟨bn.os, bn.tape, bn.output, bn.size, bn.block⟩); (try replace nv4 := nv4.below ⟨bn.os, bn.tape, bn.output, bn.size, bn.block⟩); (try replace nv6 := nv6.below ⟨bn.os, bn.tape, bn.output, bn.size, bn.block⟩); replace bb := Below.after bb ⟨bn.os, bn.tape, bn.output, bn.size, bn.block⟩))
 go_wp2
 go_ret
 exact ⟨by rw [hG.out]; rfl, bb⟩
theorem about_any (n0 n1 n2 n3 n4 n5 : Bool) (s0 d0 s1 d1 s2 d2 s3 d3 s4 d4 s5 d5 : ByteArray) (w : World) (o0 : OkQ n0 s0 d0) (o1 : OkQ n1 s1 d1) (o2 : OkQ n2 s2 d2) (o3 : OkQ n3 s3 d3) (o4 : OkQ n4 s4 d4) (o5 : OkQ n5 s5 d5) (z0 : s0.size ≤ 100 ∧ d0.size ≤ 100) (z1 : s1.size ≤ 100 ∧ d1.size ≤ 100) (z2 : s2.size ≤ 100 ∧ d2.size ≤ 100) (z3 : s3.size ≤ 100 ∧ d3.size ≤ 100) (z4 : s4.size ≤ 100 ∧ d4.size ≤ 100) (z5 : s5.size ≤ 100 ∧ d5.size ≤ 100) :
  Calls Tryz.prog 67 #[.agg #[.bool n0, .string s0, .string d0, .bool n1, .string s1, .string d1], .agg #[.bool n2, .string s2, .string d2, .bool n3, .string s3, .string d3], .agg #[.bool n4, .string s4, .string d4, .bool n5, .string s5, .string d5]] w fun e w' => e = .returned (.int .i64 (-(Gm.sg (Gm.dt (qOf n0 s0 d0) (qOf n1 s1 d1) (qOf n2 s2 d2) (qOf n3 s3 d3) (qOf n4 s4 d4) (qOf n5 s5 d5))))) ∧ Below w.heap.size w w' :=
 about_walk n0 n1 n2 n3 n4 n5 s0 d0 s1 d1 s2 d2 s3 d3 s4 d4 s5 d5 _ _ _ _ w (fun w1 => sof_any n4 n5 n0 n1 s4 d4 s5 d5 s0 d0 s1 d1 w1 o4 o5 o0 o1 z4 z5 z0 z1) (fun w1 => sof_any n4 n5 n2 n3 s4 d4 s5 d5 s2 d2 s3 d3 w1 o4 o5 o2 o3 z4 z5 z2 z3)
end Go.Proofs.YtafikdacdfkkhaaGreatDoor
