/-
  Package geom, walked.
  Package geom: On and Within, walked.
  Package geom: Crossing, walked.
  Package geom: how two segments meet.
-/
import Derived.Test.YtiiigiggcbbgjaaGreatDoorH43
set_option maxRecDepth 100000
set_option maxHeartbeats 32000000
namespace Go.Proofs.YtiiigiggcbbgjaaGreatDoor
open Go.RowKit
theorem mk5 (w : World) (c0 c1 c2 c3 c4 : List Value) (t0 t1 t2 t3 t4 : TypeId) : ∃ w', w' = ((((w.alloc (.cells c0.toArray t0)).alloc (.cells c1.toArray t1)).alloc (.cells c2.toArray t2)).alloc (.cells c3.toArray t3)).alloc (.cells c4.toArray t4) ∧ Cel w' w.heap.size c0 t0 ∧ Cel w' (w.heap.size + 1) c1 t1 ∧ Cel w' (w.heap.size + 1 + 1) c2 t2 ∧ Cel w' (w.heap.size + 1 + 1 + 1) c3 t3 ∧ Cel w' (w.heap.size + 1 + 1 + 1 + 1) c4 t4 ∧ Below w.heap.size w w' := by
 obtain ⟨v, hv, k0, k1, k2, k3, b⟩ := mk4 w c0 c1 c2 c3 t0 t1 t2 t3
 obtain ⟨u, hu, k4, b'⟩ := mk1 v c4 t4
 have hs : v.heap.size = w.heap.size + 1 + 1 + 1 + 1 := by rw [hv]; simp
 refine ⟨u, by rw [hu, hv], k0.below b', k1.below b', k2.below b', k3.below b', by rw [← hs]; exact k4, Below.after b b'⟩
theorem gOrient_ok (n0 n1 n2 n3 n4 n5 : Bool) (s0 d0 s1 d1 s2 d2 s3 d3 s4 d4 s5 d5 : ByteArray) (G : Int) (w : World)
  (HC : Hid (∀ (w1 : World) (B : Nat), Below w.heap.size w w1 → Cel w1 B [.bool n0, .string s0, .string d0, .bool n1, .string s1, .string d1, .bool n2, .string s2, .string d2, .bool n3, .string s3, .string d3, .bool n4, .string s4, .string d4, .bool n5, .string s5, .string d5] 28 → Calls Tryz.prog 45 #[.slice (some ⟨B, 0, none⟩) 3 3] w1 (Re w1 (.int .i64 0))))
  (H1 : Hid (∀ w1, Calls Tryz.prog 46 #[.agg #[.bool n0, .string s0, .string d0, .bool n1, .string s1, .string d1], .agg #[.bool n2, .string s2, .string d2, .bool n3, .string s3, .string d3], .agg #[.bool n4, .string s4, .string d4, .bool n5, .string s5, .string d5]] w1 (Re w1 (.int .i64 (G))))) :
  Calls Tryz.prog 44 #[.agg #[.bool n0, .string s0, .string d0, .bool n1, .string s1, .string d1], .agg #[.bool n2, .string s2, .string d2, .bool n3, .string s3, .string d3], .agg #[.bool n4, .string s4, .string d4, .bool n5, .string s5, .string d5]] w (Re w (.tuple #[.int .i64 G, .int .i64 0])) := by
 go_enter Tryz.func44, Tryz.ntmps44
 go_wp2_with fail
 obtain ⟨w0, hw, ka, kb, kc, kl, bb⟩ := mk4 w [.bool n0, .string s0, .string d0, .bool n1, .string s1, .string d1] [.bool n2, .string s2, .string d2, .bool n3, .string s3, .string d3] [.bool n4, .string s4, .string d4, .bool n5, .string s5, .string d5] [.bool n0, .string s0, .string d0, .bool n1, .string s1, .string d1, .bool n2, .string s2, .string d2, .bool n3, .string s3, .string d3, .bool n4, .string s4, .string d4, .bool n5, .string s5, .string d5] 28 28 28 28
 rw [← hw]
 clear hw
 go_fit (HC.out _ _ bb kl)
 rintro e w1 ⟨rfl, b1⟩
 replace ka := ka.below b1
 replace kb := kb.below b1
 replace kc := kc.below b1
 replace bb := Below.after bb b1
 clear b1 kl
 obtain ⟨ca0, ca1, ca2, ca3, ca4, ca5⟩ := xk6 ka
 obtain ⟨cb0, cb1, cb2, cb3, cb4, cb5⟩ := xk6 kb
 obtain ⟨cc0, cc1, cc2, cc3, cc4, cc5⟩ := xk6 kc
 go_wp2_with fail
 go_fit (H1.out _)
 rintro e w2 ⟨rfl, b1⟩
 replace bb := Below.after bb b1
 clear ca0 ca1 ca2 ca3 ca4 ca5 cb0 cb1 cb2 cb3 cb4 cb5 cc0 cc1 cc2 cc3 cc4 cc5
 go_wp2
 go_ret2
 exact ⟨rfl, bb⟩
theorem gDisc_ok (n0 n1 n2 n3 n4 n5 : Bool) (s0 d0 s1 d1 s2 d2 s3 d3 s4 d4 s5 d5 : ByteArray) (G : Int) (w : World)
  (HC : Hid (∀ (w1 : World) (B : Nat), Below w.heap.size w w1 → Cel w1 B [.bool n0, .string s0, .string d0, .bool n1, .string s1, .string d1, .bool n2, .string s2, .string d2, .bool n3, .string s3, .string d3, .bool n4, .string s4, .string d4, .bool n5, .string s5, .string d5] 28 → Calls Tryz.prog 45 #[.slice (some ⟨B, 0, none⟩) 3 3] w1 (Re w1 (.int .i64 0))))
  (H1 : Hid (∀ w1, Calls Tryz.prog 55 #[.agg #[.bool n0, .string s0, .string d0, .bool n1, .string s1, .string d1], .agg #[.bool n2, .string s2, .string d2, .bool n3, .string s3, .string d3], .agg #[.bool n4, .string s4, .string d4, .bool n5, .string s5, .string d5]] w1 (Re w1 (.int .i64 (G))))) :
  Calls Tryz.prog 17 #[.agg #[.bool n0, .string s0, .string d0, .bool n1, .string s1, .string d1], .agg #[.bool n2, .string s2, .string d2, .bool n3, .string s3, .string d3], .agg #[.bool n4, .string s4, .string d4, .bool n5, .string s5, .string d5]] w (Re w (.tuple #[.int .i64 G, .int .i64 0])) := by
 go_enter Tryz.func17, Tryz.ntmps17
 go_wp2_with fail
 obtain ⟨w0, hw, ka, kb, kc, kl, bb⟩ := mk4 w [.bool n0, .string s0, .string d0, .bool n1, .string s1, .string d1] [.bool n2, .string s2, .string d2, .bool n3, .string s3, .string d3] [.bool n4, .string s4, .string d4, .bool n5, .string s5, .string d5] [.bool n0, .string s0, .string d0, .bool n1, .string s1, .string d1, .bool n2, .string s2, .string d2, .bool n3, .string s3, .string d3, .bool n4, .string s4, .string d4, .bool n5, .string s5, .string d5] 28 28 28 28
 rw [← hw]
 clear hw
 go_fit (HC.out _ _ bb kl)
 rintro e w1 ⟨rfl, b1⟩
 replace ka := ka.below b1
 replace kb := kb.below b1
 replace kc := kc.below b1
 replace bb := Below.after bb b1
 clear b1 kl
 obtain ⟨ca0, ca1, ca2, ca3, ca4, ca5⟩ := xk6 ka
 obtain ⟨cb0, cb1, cb2, cb3, cb4, cb5⟩ := xk6 kb
 obtain ⟨cc0, cc1, cc2, cc3, cc4, cc5⟩ := xk6 kc
 go_wp2_with fail
 go_fit (H1.out _)
 rintro e w2 ⟨rfl, b1⟩
 replace bb := Below.after bb b1
 clear ca0 ca1 ca2 ca3 ca4 ca5 cb0 cb1 cb2 cb3 cb4 cb5 cc0 cc1 cc2 cc3 cc4 cc5
 go_wp2
 go_ret2
 exact ⟨rfl, bb⟩
theorem gCircle_flat (n0 n1 n2 n3 n4 n5 n6 n7 : Bool) (s0 d0 s1 d1 s2 d2 s3 d3 s4 d4 s5 d5 s6 d6 s7 d7 : ByteArray) (w : World)
  (HC : Hid (∀ (w1 : World) (B : Nat), Below w.heap.size w w1 → Cel w1 B [.bool n0, .string s0, .string d0, .bool n1, .string s1, .string d1, .bool n2, .string s2, .string d2, .bool n3, .string s3, .string d3, .bool n4, .string s4, .string d4, .bool n5, .string s5, .string d5, .bool n6, .string s6, .string d6, .bool n7, .string s7, .string d7] 28 → Calls Tryz.prog 45 #[.slice (some ⟨B, 0, none⟩) 4 4] w1 (Re w1 (.int .i64 0))))
  (H1 : Hid (∀ w1, Calls Tryz.prog 46 #[.agg #[.bool n0, .string s0, .string d0, .bool n1, .string s1, .string d1], .agg #[.bool n2, .string s2, .string d2, .bool n3, .string s3, .string d3], .agg #[.bool n4, .string s4, .string d4, .bool n5, .string s5, .string d5]] w1 (Re w1 (.int .i64 (0))))) :
  Calls Tryz.prog 12 #[.agg #[.bool n0, .string s0, .string d0, .bool n1, .string s1, .string d1], .agg #[.bool n2, .string s2, .string d2, .bool n3, .string s3, .string d3], .agg #[.bool n4, .string s4, .string d4, .bool n5, .string s5, .string d5], .agg #[.bool n6, .string s6, .string d6, .bool n7, .string s7, .string d7]] w (Re w (.tuple #[.int .i64 0, .int .i64 6])) := by
 go_enter Tryz.func12, Tryz.ntmps12
 go_wp2_with fail
 obtain ⟨w0, hw, ka, kb, kc, kd, kl, bb⟩ := mk5 w [.bool n0, .string s0, .string d0, .bool n1, .string s1, .string d1] [.bool n2, .string s2, .string d2, .bool n3, .string s3, .string d3] [.bool n4, .string s4, .string d4, .bool n5, .string s5, .string d5] [.bool n6, .string s6, .string d6, .bool n7, .string s7, .string d7] [.bool n0, .string s0, .string d0, .bool n1, .string s1, .string d1, .bool n2, .string s2, .string d2, .bool n3, .string s3, .string d3, .bool n4, .string s4, .string d4, .bool n5, .string s5, .string d5, .bool n6, .string s6, .string d6, .bool n7, .string s7, .string d7] 28 28 28 28 28
 rw [← hw]
 clear hw
 go_fit (HC.out _ _ bb kl)
 rintro e w1 ⟨rfl, b1⟩
 replace ka := ka.below b1
 replace kb := kb.below b1
 replace kc := kc.below b1
 replace kd := kd.below b1
 replace bb := Below.after bb b1
 clear b1 kl
 obtain ⟨ca0, ca1, ca2, ca3, ca4, ca5⟩ := xk6 ka
 obtain ⟨cb0, cb1, cb2, cb3, cb4, cb5⟩ := xk6 kb
 obtain ⟨cc0, cc1, cc2, cc3, cc4, cc5⟩ := xk6 kc
 go_wp2_with fail
 go_fit (H1.out _)
 rintro e w2 ⟨rfl, b1⟩
 replace bb := Below.after bb b1
 clear ca0 ca1 ca2 ca3 ca4 ca5 cb0 cb1 cb2 cb3 cb4 cb5 cc0 cc1 cc2 cc3 cc4 cc5
 go_wp2
 go_ret2
 exact ⟨rfl, bb⟩
theorem gCircle_ok (n0 n1 n2 n3 n4 n5 n6 n7 : Bool) (s0 d0 s1 d1 s2 d2 s3 d3 s4 d4 s5 d5 s6 d6 s7 d7 : ByteArray) (G T : Int) (w : World) (hG : ¬ G = 0) (hw2 : IntKind.i64.wrap (G * T) = G * T)
  (HC : Hid (∀ (w1 : World) (B : Nat), Below w.heap.size w w1 → Cel w1 B [.bool n0, .string s0, .string d0, .bool n1, .string s1, .string d1, .bool n2, .string s2, .string d2, .bool n3, .string s3, .string d3, .bool n4, .string s4, .string d4, .bool n5, .string s5, .string d5, .bool n6, .string s6, .string d6, .bool n7, .string s7, .string d7] 28 → Calls Tryz.prog 45 #[.slice (some ⟨B, 0, none⟩) 4 4] w1 (Re w1 (.int .i64 0))))
  (H1 : Hid (∀ w1, Calls Tryz.prog 46 #[.agg #[.bool n0, .string s0, .string d0, .bool n1, .string s1, .string d1], .agg #[.bool n2, .string s2, .string d2, .bool n3, .string s3, .string d3], .agg #[.bool n4, .string s4, .string d4, .bool n5, .string s5, .string d5]] w1 (Re w1 (.int .i64 (G)))))
  (H2 : Hid (∀ w1, Calls Tryz.prog 47 #[.agg #[.bool n0, .string s0, .string d0, .bool n1, .string s1, .string d1], .agg #[.bool n2, .string s2, .string d2, .bool n3, .string s3, .string d3], .agg #[.bool n4, .string s4, .string d4, .bool n5, .string s5, .string d5], .agg #[.bool n6, .string s6, .string d6, .bool n7, .string s7, .string d7]] w1 (Re w1 (.int .i64 (T))))) :
  Calls Tryz.prog 12 #[.agg #[.bool n0, .string s0, .string d0, .bool n1, .string s1, .string d1], .agg #[.bool n2, .string s2, .string d2, .bool n3, .string s3, .string d3], .agg #[.bool n4, .string s4, .string d4, .bool n5, .string s5, .string d5], .agg #[.bool n6, .string s6, .string d6, .bool n7, .string s7, .string d7]] w (Re w (.tuple #[.int .i64 (G * T), .int .i64 0])) := by
 go_enter Tryz.func12, Tryz.ntmps12
 go_wp2_with fail
 obtain ⟨w0, hw, ka, kb, kc, kd, kl, bb⟩ := mk5 w [.bool n0, .string s0, .string d0, .bool n1, .string s1, .string d1] [.bool n2, .string s2, .string d2, .bool n3, .string s3, .string d3] [.bool n4, .string s4, .string d4, .bool n5, .string s5, .string d5] [.bool n6, .string s6, .string d6, .bool n7, .string s7, .string d7] [.bool n0, .string s0, .string d0, .bool n1, .string s1, .string d1, .bool n2, .string s2, .string d2, .bool n3, .string s3, .string d3, .bool n4, .string s4, .string d4, .bool n5, .string s5, .string d5, .bool n6, .string s6, .string d6, .bool n7, .string s7, .string d7] 28 28 28 28 28
 rw [← hw]
 clear hw
 go_fit (HC.out _ _ bb kl)
 rintro e w1 ⟨rfl, b1⟩
 replace ka := ka.below b1
 replace kb := kb.below b1
 replace kc := kc.below b1
 replace kd := kd.below b1
 replace bb := Below.after bb b1
 clear b1 kl
 obtain ⟨ca0, ca1, ca2, ca3, ca4, ca5⟩ := xk6 ka
 obtain ⟨cb0, cb1, cb2, cb3, cb4, cb5⟩ := xk6 kb
 obtain ⟨cc0, cc1, cc2, cc3, cc4, cc5⟩ := xk6 kc
 go_wp2_with fail
 go_fit (H1.out _)
 rintro e w2 ⟨rfl, b1⟩
 replace ka := ka.below b1
 replace kb := kb.below b1
 replace kc := kc.below b1
 replace kd := kd.below b1
 replace bb := Below.after bb b1
 clear b1
 clear ca0 ca1 ca2 ca3 ca4 ca5 cb0 cb1 cb2 cb3 cb4 cb5 cc0 cc1 cc2 cc3 cc4 cc5
 obtain ⟨ca0, ca1, ca2, ca3, ca4, ca5⟩ := xk6 ka
 obtain ⟨cb0, cb1, cb2, cb3, cb4, cb5⟩ := xk6 kb
 obtain ⟨cc0, cc1, cc2, cc3, cc4, cc5⟩ := xk6 kc
 obtain ⟨cd0, cd1, cd2, cd3, cd4, cd5⟩ := xk6 kd
 go_wp2_with fail
 go_fit (H2.out _)
 rintro e w3 ⟨rfl, b1⟩
 replace bb := Below.after bb b1
 clear ca0 ca1 ca2 ca3 ca4 ca5 cb0 cb1 cb2 cb3 cb4 cb5 cc0 cc1 cc2 cc3 cc4 cc5 cd0 cd1 cd2 cd3 cd4 cd5
 go_wp2
 go_ret2
 exact ⟨rfl, bb⟩
theorem gOn_off (n0 n1 n2 n3 n4 n5 : Bool) (s0 d0 s1 d1 s2 d2 s3 d3 s4 d4 s5 d5 : ByteArray) (G : Int) (w : World) (hG : ¬ G = 0)
  (HC : Hid (∀ (w1 : World) (B : Nat), Below w.heap.size w w1 → Cel w1 B [.bool n0, .string s0, .string d0, .bool n1, .string s1, .string d1, .bool n2, .string s2, .string d2, .bool n3, .string s3, .string d3, .bool n4, .string s4, .string d4, .bool n5, .string s5, .string d5] 28 → Calls Tryz.prog 45 #[.slice (some ⟨B, 0, none⟩) 3 3] w1 (Re w1 (.int .i64 0))))
  (H1 : Hid (∀ w1, Calls Tryz.prog 46 #[.agg #[.bool n0, .string s0, .string d0, .bool n1, .string s1, .string d1], .agg #[.bool n2, .string s2, .string d2, .bool n3, .string s3, .string d3], .agg #[.bool n4, .string s4, .string d4, .bool n5, .string s5, .string d5]] w1 (Re w1 (.int .i64 (G))))) :
  Calls Tryz.prog 16 #[.agg #[.bool n0, .string s0, .string d0, .bool n1, .string s1, .string d1], .agg #[.bool n2, .string s2, .string d2, .bool n3, .string s3, .string d3], .agg #[.bool n4, .string s4, .string d4, .bool n5, .string s5, .string d5]] w (Re w (.tuple #[.bool false, .int .i64 0])) := by
 go_enter Tryz.func16, Tryz.ntmps16
 go_wp2_with fail
 obtain ⟨w0, hw, ka, kb, kc, kl, bb⟩ := mk4 w [.bool n0, .string s0, .string d0, .bool n1, .string s1, .string d1] [.bool n2, .string s2, .string d2, .bool n3, .string s3, .string d3] [.bool n4, .string s4, .string d4, .bool n5, .string s5, .string d5] [.bool n0, .string s0, .string d0, .bool n1, .string s1, .string d1, .bool n2, .string s2, .string d2, .bool n3, .string s3, .string d3, .bool n4, .string s4, .string d4, .bool n5, .string s5, .string d5] 28 28 28 28
 rw [← hw]
 clear hw
 go_fit (HC.out _ _ bb kl)
 rintro e w1 ⟨rfl, b1⟩
 replace ka := ka.below b1
 replace kb := kb.below b1
 replace kc := kc.below b1
 replace bb := Below.after bb b1
 clear b1 kl
 obtain ⟨ca0, ca1, ca2, ca3, ca4, ca5⟩ := xk6 ka
 obtain ⟨cb0, cb1, cb2, cb3, cb4, cb5⟩ := xk6 kb
 obtain ⟨cc0, cc1, cc2, cc3, cc4, cc5⟩ := xk6 kc
 go_wp2_with fail
 go_fit (H1.out _)
 rintro e w2 ⟨rfl, b1⟩
 replace ka := ka.below b1
 replace kb := kb.below b1
 replace kc := kc.below b1
 replace bb := Below.after bb b1
 clear b1
 clear ca0 ca1 ca2 ca3 ca4 ca5 cb0 cb1 cb2 cb3 cb4 cb5 cc0 cc1 cc2 cc3 cc4 cc5
 go_wp2
 go_ret2
 exact ⟨rfl, bb⟩
theorem gOn_in (n0 n1 n2 n3 n4 n5 : Bool) (s0 d0 s1 d1 s2 d2 s3 d3 s4 d4 s5 d5 : ByteArray) (G T : Int) (w : World) (hG : G = 0)
  (HC : Hid (∀ (w1 : World) (B : Nat), Below w.heap.size w w1 → Cel w1 B [.bool n0, .string s0, .string d0, .bool n1, .string s1, .string d1, .bool n2, .string s2, .string d2, .bool n3, .string s3, .string d3, .bool n4, .string s4, .string d4, .bool n5, .string s5, .string d5] 28 → Calls Tryz.prog 45 #[.slice (some ⟨B, 0, none⟩) 3 3] w1 (Re w1 (.int .i64 0))))
  (H1 : Hid (∀ w1, Calls Tryz.prog 46 #[.agg #[.bool n0, .string s0, .string d0, .bool n1, .string s1, .string d1], .agg #[.bool n2, .string s2, .string d2, .bool n3, .string s3, .string d3], .agg #[.bool n4, .string s4, .string d4, .bool n5, .string s5, .string d5]] w1 (Re w1 (.int .i64 (G)))))
  (H2 : Hid (∀ w1, Calls Tryz.prog 55 #[.agg #[.bool n0, .string s0, .string d0, .bool n1, .string s1, .string d1], .agg #[.bool n2, .string s2, .string d2, .bool n3, .string s3, .string d3], .agg #[.bool n4, .string s4, .string d4, .bool n5, .string s5, .string d5]] w1 (Re w1 (.int .i64 (T))))) :
  Calls Tryz.prog 16 #[.agg #[.bool n0, .string s0, .string d0, .bool n1, .string s1, .string d1], .agg #[.bool n2, .string s2, .string d2, .bool n3, .string s3, .string d3], .agg #[.bool n4, .string s4, .string d4, .bool n5, .string s5, .string d5]] w (Re w (.tuple #[.bool (decide (0 ≤ T)), .int .i64 0])) := by
 go_enter Tryz.func16, Tryz.ntmps16
 go_wp2_with fail
 obtain ⟨w0, hw, ka, kb, kc, kl, bb⟩ := mk4 w [.bool n0, .string s0, .string d0, .bool n1, .string s1, .string d1] [.bool n2, .string s2, .string d2, .bool n3, .string s3, .string d3] [.bool n4, .string s4, .string d4, .bool n5, .string s5, .string d5] [.bool n0, .string s0, .string d0, .bool n1, .string s1, .string d1, .bool n2, .string s2, .string d2, .bool n3, .string s3, .string d3, .bool n4, .string s4, .string d4, .bool n5, .string s5, .string d5] 28 28 28 28
 rw [← hw]
 clear hw
 go_fit (HC.out _ _ bb kl)
 rintro e w1 ⟨rfl, b1⟩
 replace ka := ka.below b1
 replace kb := kb.below b1
 replace kc := kc.below b1
 replace bb := Below.after bb b1
 clear b1 kl
 obtain ⟨ca0, ca1, ca2, ca3, ca4, ca5⟩ := xk6 ka
 obtain ⟨cb0, cb1, cb2, cb3, cb4, cb5⟩ := xk6 kb
 obtain ⟨cc0, cc1, cc2, cc3, cc4, cc5⟩ := xk6 kc
 go_wp2_with fail
 go_fit (H1.out _)
 rintro e w2 ⟨rfl, b1⟩
 replace ka := ka.below b1
 replace kb := kb.below b1
 replace kc := kc.below b1
 replace bb := Below.after bb b1
 clear b1
 clear ca0 ca1 ca2 ca3 ca4 ca5 cb0 cb1 cb2 cb3 cb4 cb5 cc0 cc1 cc2 cc3 cc4 cc5
 obtain ⟨ca0, ca1, ca2, ca3, ca4, ca5⟩ := xk6 ka
 obtain ⟨cb0, cb1, cb2, cb3, cb4, cb5⟩ := xk6 kb
 obtain ⟨cc0, cc1, cc2, cc3, cc4, cc5⟩ := xk6 kc
 go_wp2_with fail
 go_fit (H2.out _)
 rintro e w3 ⟨rfl, b1⟩
 replace bb := Below.after bb b1
 clear b1
 clear ca0 ca1 ca2 ca3 ca4 ca5 cb0 cb1 cb2 cb3 cb4 cb5 cc0 cc1 cc2 cc3 cc4 cc5
 go_wp2
 go_ret2
 exact ⟨rfl, bb⟩
theorem gWithin_flat (n0 n1 n2 n3 n4 n5 n6 n7 : Bool) (s0 d0 s1 d1 s2 d2 s3 d3 s4 d4 s5 d5 s6 d6 s7 d7 : ByteArray) (w : World)
  (HC : Hid (∀ (w1 : World) (B : Nat), Below w.heap.size w w1 → Cel w1 B [.bool n0, .string s0, .string d0, .bool n1, .string s1, .string d1, .bool n2, .string s2, .string d2, .bool n3, .string s3, .string d3, .bool n4, .string s4, .string d4, .bool n5, .string s5, .string d5, .bool n6, .string s6, .string d6, .bool n7, .string s7, .string d7] 28 → Calls Tryz.prog 45 #[.slice (some ⟨B, 0, none⟩) 4 4] w1 (Re w1 (.int .i64 0))))
  (H1 : Hid (∀ w1, Calls Tryz.prog 46 #[.agg #[.bool n0, .string s0, .string d0, .bool n1, .string s1, .string d1], .agg #[.bool n2, .string s2, .string d2, .bool n3, .string s3, .string d3], .agg #[.bool n4, .string s4, .string d4, .bool n5, .string s5, .string d5]] w1 (Re w1 (.int .i64 (0))))) :
  Calls Tryz.prog 11 #[.agg #[.bool n0, .string s0, .string d0, .bool n1, .string s1, .string d1], .agg #[.bool n2, .string s2, .string d2, .bool n3, .string s3, .string d3], .agg #[.bool n4, .string s4, .string d4, .bool n5, .string s5, .string d5], .agg #[.bool n6, .string s6, .string d6, .bool n7, .string s7, .string d7]] w (Re w (.tuple #[.int .i64 0, .int .i64 6])) := by
 go_enter Tryz.func11, Tryz.ntmps11
 go_wp2_with fail
 obtain ⟨w0, hw, ka, kb, kc, kd, kl, bb⟩ := mk5 w [.bool n0, .string s0, .string d0, .bool n1, .string s1, .string d1] [.bool n2, .string s2, .string d2, .bool n3, .string s3, .string d3] [.bool n4, .string s4, .string d4, .bool n5, .string s5, .string d5] [.bool n6, .string s6, .string d6, .bool n7, .string s7, .string d7] [.bool n0, .string s0, .string d0, .bool n1, .string s1, .string d1, .bool n2, .string s2, .string d2, .bool n3, .string s3, .string d3, .bool n4, .string s4, .string d4, .bool n5, .string s5, .string d5, .bool n6, .string s6, .string d6, .bool n7, .string s7, .string d7] 28 28 28 28 28
 rw [← hw]
 clear hw
 go_fit (HC.out _ _ bb kl)
 rintro e w1 ⟨rfl, b1⟩
 replace ka := ka.below b1
 replace kb := kb.below b1
 replace kc := kc.below b1
 replace kd := kd.below b1
 replace bb := Below.after bb b1
 clear b1 kl
 obtain ⟨ca0, ca1, ca2, ca3, ca4, ca5⟩ := xk6 ka
 obtain ⟨cb0, cb1, cb2, cb3, cb4, cb5⟩ := xk6 kb
 obtain ⟨cc0, cc1, cc2, cc3, cc4, cc5⟩ := xk6 kc
 go_wp2_with fail
 go_fit (H1.out _)
 rintro e w2 ⟨rfl, b1⟩
 replace bb := Below.after bb b1
 clear ca0 ca1 ca2 ca3 ca4 ca5 cb0 cb1 cb2 cb3 cb4 cb5 cc0 cc1 cc2 cc3 cc4 cc5
 go_wp2
 go_ret2
 exact ⟨rfl, bb⟩
theorem gWithin_ok (n0 n1 n2 n3 n4 n5 n6 n7 : Bool) (s0 d0 s1 d1 s2 d2 s3 d3 s4 d4 s5 d5 s6 d6 s7 d7 : ByteArray) (G P Q R M : Int) (w : World) (hm : ∀ (ts : Array TypeId) (t : TypeId) (w' : World), (Builtin.min_ ts t #[.int .i64 (G * P), .int .i64 (G * Q), .int .i64 (G * R)]).run Tryz.prog w' = .ok (.int .i64 M) w') (hG : ¬ G = 0) (u1 : IntKind.i64.wrap (G * P) = G * P) (u2 : IntKind.i64.wrap (G * Q) = G * Q) (u3 : IntKind.i64.wrap (G * R) = G * R)
  (HC : Hid (∀ (w1 : World) (B : Nat), Below w.heap.size w w1 → Cel w1 B [.bool n0, .string s0, .string d0, .bool n1, .string s1, .string d1, .bool n2, .string s2, .string d2, .bool n3, .string s3, .string d3, .bool n4, .string s4, .string d4, .bool n5, .string s5, .string d5, .bool n6, .string s6, .string d6, .bool n7, .string s7, .string d7] 28 → Calls Tryz.prog 45 #[.slice (some ⟨B, 0, none⟩) 4 4] w1 (Re w1 (.int .i64 0))))
  (H1 : Hid (∀ w1, Calls Tryz.prog 46 #[.agg #[.bool n0, .string s0, .string d0, .bool n1, .string s1, .string d1], .agg #[.bool n2, .string s2, .string d2, .bool n3, .string s3, .string d3], .agg #[.bool n4, .string s4, .string d4, .bool n5, .string s5, .string d5]] w1 (Re w1 (.int .i64 (G)))))
  (H2 : Hid (∀ w1, Calls Tryz.prog 46 #[.agg #[.bool n0, .string s0, .string d0, .bool n1, .string s1, .string d1], .agg #[.bool n2, .string s2, .string d2, .bool n3, .string s3, .string d3], .agg #[.bool n6, .string s6, .string d6, .bool n7, .string s7, .string d7]] w1 (Re w1 (.int .i64 (P)))))
  (H3 : Hid (∀ w1, Calls Tryz.prog 46 #[.agg #[.bool n2, .string s2, .string d2, .bool n3, .string s3, .string d3], .agg #[.bool n4, .string s4, .string d4, .bool n5, .string s5, .string d5], .agg #[.bool n6, .string s6, .string d6, .bool n7, .string s7, .string d7]] w1 (Re w1 (.int .i64 (Q)))))
  (H4 : Hid (∀ w1, Calls Tryz.prog 46 #[.agg #[.bool n4, .string s4, .string d4, .bool n5, .string s5, .string d5], .agg #[.bool n0, .string s0, .string d0, .bool n1, .string s1, .string d1], .agg #[.bool n6, .string s6, .string d6, .bool n7, .string s7, .string d7]] w1 (Re w1 (.int .i64 (R))))) :
  Calls Tryz.prog 11 #[.agg #[.bool n0, .string s0, .string d0, .bool n1, .string s1, .string d1], .agg #[.bool n2, .string s2, .string d2, .bool n3, .string s3, .string d3], .agg #[.bool n4, .string s4, .string d4, .bool n5, .string s5, .string d5], .agg #[.bool n6, .string s6, .string d6, .bool n7, .string s7, .string d7]] w (Re w (.tuple #[.int .i64 M, .int .i64 0])) := by
 go_enter Tryz.func11, Tryz.ntmps11
 go_wp2_with fail
 obtain ⟨w0, hw, ka, kb, kc, kd, kl, bb⟩ := mk5 w [.bool n0, .string s0, .string d0, .bool n1, .string s1, .string d1] [.bool n2, .string s2, .string d2, .bool n3, .string s3, .string d3] [.bool n4, .string s4, .string d4, .bool n5, .string s5, .string d5] [.bool n6, .string s6, .string d6, .bool n7, .string s7, .string d7] [.bool n0, .string s0, .string d0, .bool n1, .string s1, .string d1, .bool n2, .string s2, .string d2, .bool n3, .string s3, .string d3, .bool n4, .string s4, .string d4, .bool n5, .string s5, .string d5, .bool n6, .string s6, .string d6, .bool n7, .string s7, .string d7] 28 28 28 28 28
 rw [← hw]
 clear hw
 go_fit (HC.out _ _ bb kl)
 rintro e w1 ⟨rfl, b1⟩
 replace ka := ka.below b1
 replace kb := kb.below b1
 replace kc := kc.below b1
 replace kd := kd.below b1
 replace bb := Below.after bb b1
 clear b1 kl
 obtain ⟨ca0, ca1, ca2, ca3, ca4, ca5⟩ := xk6 ka
 obtain ⟨cb0, cb1, cb2, cb3, cb4, cb5⟩ := xk6 kb
 obtain ⟨cc0, cc1, cc2, cc3, cc4, cc5⟩ := xk6 kc
 go_wp2_with fail
 go_fit (H1.out _)
 rintro e w2 ⟨rfl, b1⟩
 replace ka := ka.below b1
 replace kb := kb.below b1
 replace kc := kc.below b1
 replace kd := kd.below b1
 replace bb := Below.after bb b1
 clear b1
 clear ca0 ca1 ca2 ca3 ca4 ca5 cb0 cb1 cb2 cb3 cb4 cb5 cc0 cc1 cc2 cc3 cc4 cc5
 go_wp2_with fail
 have mkS : Hid (∀ w', Cel w' (w.heap.size) [.bool n0, .string s0, .string d0, .bool n1, .string s1, .string d1] 28 → Cel w' (w.heap.size + 1) [.bool n2, .string s2, .string d2, .bool n3, .string s3, .string d3] 28 → Cel w' (w.heap.size + 1 + 1) [.bool n4, .string s4, .string d4, .bool n5, .string s5, .string d5] 28 → Cel w' (w.heap.size + 1 + 1 + 1) [.bool n6, .string s6, .string d6, .bool n7, .string s7, .string d7] 28 → (xc6 w' w.heap.size (.bool n0) (.string s0) (.string d0) (.bool n1) (.string s1) (.string d1) ∧ xc6 w' (w.heap.size + 1) (.bool n2) (.string s2) (.string d2) (.bool n3) (.string s3) (.string d3) ∧ xc6 w' (w.heap.size + 1 + 1) (.bool n4) (.string s4) (.string d4) (.bool n5) (.string s5) (.string d5) ∧ xc6 w' (w.heap.size + 1 + 1 + 1) (.bool n6) (.string s6) (.string d6) (.bool n7) (.string s7) (.string d7))) := fun w' ha hb hc hd => ⟨xk6 ha, xk6 hb, xk6 hc, xk6 hd⟩
 go_region_held3 (fun w' => xc6 w' w.heap.size (.bool n0) (.string s0) (.string d0) (.bool n1) (.string s1) (.string d1) ∧ xc6 w' (w.heap.size + 1) (.bool n2) (.string s2) (.string d2) (.bool n3) (.string s3) (.string d3) ∧ xc6 w' (w.heap.size + 1 + 1) (.bool n4) (.string s4) (.string d4) (.bool n5) (.string s5) (.string d5) ∧ xc6 w' (w.heap.size + 1 + 1 + 1) (.bool n6) (.string s6) (.string d6) (.bool n7) (.string s7) (.string d7)) (first | with_reducible exact mkS.out _ ka kb kc kd | exact mkS.out _ ka kb kc kd) (first | (go_at_call 46; go_fit (H2.out _); rintro e wn ⟨rfl, bn⟩; replace ka := ka.below (un bn); replace kb := kb.below (un bn); replace kc := kc.below (un bn); replace kd := kd.below (un bn); replace bb := Below.after bb (un bn)) | (go_at_call 46; go_fit (H3.out _); rintro e wn ⟨rfl, bn⟩; replace ka := ka.below (un bn); replace kb := kb.below (un bn); replace kc := kc.below (un bn); replace kd := kd.below (un bn); replace bb := Below.after bb (un bn)) | (go_at_call 46; go_fit (H4.out _); rintro e wn ⟨rfl, bn⟩; replace ka := ka.below (un bn); replace kb := kb.below (un bn); replace kc := kc.below (un bn); replace kd := kd.below (un bn); replace bb := Below.after bb (un bn)))
 go_wp2
 go_ret2
 exact ⟨rfl, bb⟩
theorem mk6 (w : World) (c0 c1 c2 c3 c4 c5 : List Value) (t0 t1 t2 t3 t4 t5 : TypeId) : ∃ w', w' = (((((w.alloc (.cells c0.toArray t0)).alloc (.cells c1.toArray t1)).alloc (.cells c2.toArray t2)).alloc (.cells c3.toArray t3)).alloc (.cells c4.toArray t4)).alloc (.cells c5.toArray t5) ∧ Cel w' w.heap.size c0 t0 ∧ Cel w' (w.heap.size + 1) c1 t1 ∧ Cel w' (w.heap.size + 1 + 1) c2 t2 ∧ Cel w' (w.heap.size + 1 + 1 + 1) c3 t3 ∧ Cel w' (w.heap.size + 1 + 1 + 1 + 1) c4 t4 ∧ Cel w' (w.heap.size + 1 + 1 + 1 + 1 + 1) c5 t5 ∧ Below w.heap.size w w' := by
 obtain ⟨v, hv, k0, k1, k2, k3, k4, b⟩ := mk5 w c0 c1 c2 c3 c4 t0 t1 t2 t3 t4
 obtain ⟨u, hu, k5, b'⟩ := mk1 v c5 t5
 have hs : v.heap.size = w.heap.size + 1 + 1 + 1 + 1 + 1 := by rw [hv]; simp
 refine ⟨u, by rw [hu, hv], k0.below b', k1.below b', k2.below b', k3.below b', k4.below b', by rw [← hs]; exact k5, Below.after b b'⟩
theorem gCross_ok (n0 n1 n2 n3 n4 n5 n6 n7 : Bool) (s0 d0 s1 d1 s2 d2 s3 d3 s4 d4 s5 d5 s6 d6 s7 d7 : ByteArray) (uN vN xN yN pN qN fN gN iN jN kN lN mN : Bool) (uS uD vS vD xS xD yS yD pS pD qS qD fS fD gS gD iS iD jS jD kS kD lS lD mS mD : ByteArray) (w : World)
  (HC : Hid (∀ (w1 : World) (B : Nat), Below w.heap.size w w1 → Cel w1 B [.bool n0, .string s0, .string d0, .bool n1, .string s1, .string d1, .bool n2, .string s2, .string d2, .bool n3, .string s3, .string d3, .bool n4, .string s4, .string d4, .bool n5, .string s5, .string d5, .bool n6, .string s6, .string d6, .bool n7, .string s7, .string d7] 28 → Calls Tryz.prog 45 #[.slice (some ⟨B, 0, none⟩) 4 4] w1 (Re w1 (.int .i64 0))))
  (H1 : Hid (∀ w1, Below w.heap.size w w1 → Calls Tryz.prog 49 #[.agg #[.bool n2, .string s2, .string d2, .bool n3, .string s3, .string d3], .agg #[.bool n0, .string s0, .string d0, .bool n1, .string s1, .string d1]] w1 (Re w1 (.tuple #[.agg #[.bool uN, .string uS, .string uD, .bool vN, .string vS, .string vD], .int .i64 0]))))
  (H2 : Hid (∀ w1, Below w.heap.size w w1 → Calls Tryz.prog 49 #[.agg #[.bool n6, .string s6, .string d6, .bool n7, .string s7, .string d7], .agg #[.bool n4, .string s4, .string d4, .bool n5, .string s5, .string d5]] w1 (Re w1 (.tuple #[.agg #[.bool xN, .string xS, .string xD, .bool yN, .string yS, .string yD], .int .i64 0]))))
  (H3 : Hid (∀ w1, Below w.heap.size w w1 → Calls Tryz.prog 49 #[.agg #[.bool n4, .string s4, .string d4, .bool n5, .string s5, .string d5], .agg #[.bool n0, .string s0, .string d0, .bool n1, .string s1, .string d1]] w1 (Re w1 (.tuple #[.agg #[.bool pN, .string pS, .string pD, .bool qN, .string qS, .string qD], .int .i64 0]))))
  (H4 : Hid (∀ w1, Below w.heap.size w w1 → Calls Tryz.prog 50 #[.agg #[.bool uN, .string uS, .string uD, .bool vN, .string vS, .string vD], .agg #[.bool xN, .string xS, .string xD, .bool yN, .string yS, .string yD]] w1 (Re w1 (.tuple #[.agg #[.bool kN, .string kS, .string kD], .int .i64 0]))))
  (H5 : Hid (∀ w1, Below w.heap.size w w1 → Calls Tryz.prog 50 #[.agg #[.bool pN, .string pS, .string pD, .bool qN, .string qS, .string qD], .agg #[.bool xN, .string xS, .string xD, .bool yN, .string yS, .string yD]] w1 (Re w1 (.tuple #[.agg #[.bool lN, .string lS, .string lD], .int .i64 0]))))
  (H6 : Hid (∀ w1, Below w.heap.size w w1 → Calls Tryz.prog 51 #[.agg #[.bool lN, .string lS, .string lD], .agg #[.bool kN, .string kS, .string kD]] w1 (Re w1 (.tuple #[.agg #[.bool mN, .string mS, .string mD], .int .i64 0]))))
  (H7 : Hid (∀ w1, Below w.heap.size w w1 → Calls Tryz.prog 52 #[.agg #[.bool uN, .string uS, .string uD, .bool vN, .string vS, .string vD], .agg #[.bool mN, .string mS, .string mD]] w1 (Re w1 (.tuple #[.agg #[.bool fN, .string fS, .string fD, .bool gN, .string gS, .string gD], .int .i64 0]))))
  (H8 : Hid (∀ w1, Below w.heap.size w w1 → Calls Tryz.prog 53 #[.agg #[.bool n0, .string s0, .string d0, .bool n1, .string s1, .string d1], .agg #[.bool fN, .string fS, .string fD, .bool gN, .string gS, .string gD]] w1 (Re w1 (.tuple #[.agg #[.bool iN, .string iS, .string iD, .bool jN, .string jS, .string jD], .int .i64 0])))) :
  Calls Tryz.prog 14 #[.agg #[.bool n0, .string s0, .string d0, .bool n1, .string s1, .string d1], .agg #[.bool n2, .string s2, .string d2, .bool n3, .string s3, .string d3], .agg #[.bool n4, .string s4, .string d4, .bool n5, .string s5, .string d5], .agg #[.bool n6, .string s6, .string d6, .bool n7, .string s7, .string d7]] w (Re w (.tuple #[.agg #[.bool iN, .string iS, .string iD, .bool jN, .string jS, .string jD], .int .i64 0])) := by
 go_enter Tryz.func14, Tryz.ntmps14
 go_wp2_with fail
 obtain ⟨w0, hw, ka, kb, kc, kd, kr, kl, bb⟩ := mk6 w [.bool n0, .string s0, .string d0, .bool n1, .string s1, .string d1] [.bool n2, .string s2, .string d2, .bool n3, .string s3, .string d3] [.bool n4, .string s4, .string d4, .bool n5, .string s5, .string d5] [.bool n6, .string s6, .string d6, .bool n7, .string s7, .string d7] [.bool false, .string { data := #[] }, .string { data := #[] }, .bool false, .string { data := #[] }, .string { data := #[] }] [.bool n0, .string s0, .string d0, .bool n1, .string s1, .string d1, .bool n2, .string s2, .string d2, .bool n3, .string s3, .string d3, .bool n4, .string s4, .string d4, .bool n5, .string s5, .string d5, .bool n6, .string s6, .string d6, .bool n7, .string s7, .string d7] 28 28 28 28 28 28
 rw [← hw]
 clear hw
 go_fit (HC.out _ _ bb kl)
 rintro e w1 ⟨rfl, b1⟩
 replace ka := ka.below b1
 replace kb := kb.below b1
 replace kc := kc.below b1
 replace kd := kd.below b1
 replace kr := kr.below b1
 replace bb := Below.after bb b1
 clear b1 kl
 obtain ⟨ca_0, ca_1, ca_2, ca_3, ca_4, ca_5⟩ := xk6 ka
 obtain ⟨cb_6, cb_7, cb_8, cb_9, cb_10, cb_11⟩ := xk6 kb
 go_wp2_with fail
 clear ca_0 ca_1 ca_2 ca_3 ca_4 ca_5 cb_6 cb_7 cb_8 cb_9 cb_10 cb_11
 go_fit (H1.out _ bb)
 rintro e w2 ⟨rfl, b1⟩
 have sz := b1.size
 replace ka := ka.below b1
 replace kb := kb.below b1
 replace kc := kc.below b1
 replace kd := kd.below b1
 replace kr := kr.below b1
 replace bb := Below.after bb b1
 clear b1
 obtain ⟨cc_0, cc_1, cc_2, cc_3, cc_4, cc_5⟩ := xk6 kc
 obtain ⟨cd_6, cd_7, cd_8, cd_9, cd_10, cd_11⟩ := xk6 kd
 obtain ⟨cc_12, cc_13, cc_14, cc_15, cc_16, cc_17⟩ := xk6 (kc.alloc (.cells #[.bool uN, .string uS, .string uD, .bool vN, .string vS, .string vD] 28))
 obtain ⟨cd_18, cd_19, cd_20, cd_21, cd_22, cd_23⟩ := xk6 (kd.alloc (.cells #[.bool uN, .string uS, .string uD, .bool vN, .string vS, .string vD] 28))
 go_wp2_with fail
 clear cc_0 cc_1 cc_2 cc_3 cc_4 cc_5 cd_6 cd_7 cd_8 cd_9 cd_10 cd_11 cc_12 cc_13 cc_14 cc_15 cc_16 cc_17 cd_18 cd_19 cd_20 cd_21 cd_22 cd_23
 go_fit (H2.out _ (ba bb _))
 rintro e w3 ⟨rfl, b1⟩
 obtain ⟨ku, b1⟩ := al1 b1
 have sz := b1.size
 replace ka := ka.below b1
 replace kb := kb.below b1
 replace kc := kc.below b1
 replace kd := kd.below b1
 replace kr := kr.below b1
 replace bb := Below.after bb b1
 clear b1
 have tu := ku.lt
 clear tu
 obtain ⟨ca_0, ca_1, ca_2, ca_3, ca_4, ca_5⟩ := xk6 ka
 obtain ⟨cc_6, cc_7, cc_8, cc_9, cc_10, cc_11⟩ := xk6 kc
 obtain ⟨ca_12, ca_13, ca_14, ca_15, ca_16, ca_17⟩ := xk6 (ka.alloc (.cells #[.bool xN, .string xS, .string xD, .bool yN, .string yS, .string yD] 28))
 obtain ⟨cc_18, cc_19, cc_20, cc_21, cc_22, cc_23⟩ := xk6 (kc.alloc (.cells #[.bool xN, .string xS, .string xD, .bool yN, .string yS, .string yD] 28))
 go_wp2_with fail
 clear ca_0 ca_1 ca_2 ca_3 ca_4 ca_5 cc_6 cc_7 cc_8 cc_9 cc_10 cc_11 ca_12 ca_13 ca_14 ca_15 ca_16 ca_17 cc_18 cc_19 cc_20 cc_21 cc_22 cc_23
 go_fit (H3.out _ (ba bb _))
 rintro e w4 ⟨rfl, b1⟩
 obtain ⟨kv, b1⟩ := al1 b1
 have sz := b1.size
 replace ka := ka.below b1
 replace kb := kb.below b1
 replace kc := kc.below b1
 replace kd := kd.below b1
 replace kr := kr.below b1
 replace ku := ku.below b1
 replace bb := Below.after bb b1
 clear b1
 have tv := kv.lt
 clear tv
 obtain ⟨cu_0, cu_1, cu_2, cu_3, cu_4, cu_5⟩ := xk6 ku
 obtain ⟨cv_6, cv_7, cv_8, cv_9, cv_10, cv_11⟩ := xk6 kv
 obtain ⟨cu_12, cu_13, cu_14, cu_15, cu_16, cu_17⟩ := xk6 (ku.alloc (.cells #[.bool pN, .string pS, .string pD, .bool qN, .string qS, .string qD] 28))
 obtain ⟨cv_18, cv_19, cv_20, cv_21, cv_22, cv_23⟩ := xk6 (kv.alloc (.cells #[.bool pN, .string pS, .string pD, .bool qN, .string qS, .string qD] 28))
 go_wp2_with fail
 clear cu_0 cu_1 cu_2 cu_3 cu_4 cu_5 cv_6 cv_7 cv_8 cv_9 cv_10 cv_11 cu_12 cu_13 cu_14 cu_15 cu_16 cu_17 cv_18 cv_19 cv_20 cv_21 cv_22 cv_23
 go_fit (H4.out _ (ba bb _))
 rintro e w5 ⟨rfl, b1⟩
 obtain ⟨kp, b1⟩ := al1 b1
 have sz := b1.size
 replace ka := ka.below b1
 replace kb := kb.below b1
 replace kc := kc.below b1
 replace kd := kd.below b1
 replace kr := kr.below b1
 replace ku := ku.below b1
 replace kv := kv.below b1
 replace bb := Below.after bb b1
 clear b1
 have tp := kp.lt
 clear tp
 obtain ⟨cv_0, cv_1, cv_2, cv_3, cv_4, cv_5⟩ := xk6 kv
 obtain ⟨cv_6, cv_7, cv_8, cv_9, cv_10, cv_11⟩ := xk6 (kv.alloc (.cells #[.bool kN, .string kS, .string kD] 26))
 obtain ⟨cp_12, cp_13, cp_14, cp_15, cp_16, cp_17⟩ := xk6 kp
 obtain ⟨cp_18, cp_19, cp_20, cp_21, cp_22, cp_23⟩ := xk6 (kp.alloc (.cells #[.bool kN, .string kS, .string kD] 26))
 go_wp2_with fail
 clear cv_0 cv_1 cv_2 cv_3 cv_4 cv_5 cv_6 cv_7 cv_8 cv_9 cv_10 cv_11 cp_12 cp_13 cp_14 cp_15 cp_16 cp_17 cp_18 cp_19 cp_20 cp_21 cp_22 cp_23
 go_fit (H5.out _ (ba bb _))
 rintro e w6 ⟨rfl, b1⟩
 obtain ⟨kn, b1⟩ := al1 b1
 have sz := b1.size
 replace ka := ka.below b1
 replace kb := kb.below b1
 replace kc := kc.below b1
 replace kd := kd.below b1
 replace kr := kr.below b1
 replace ku := ku.below b1
 replace kv := kv.below b1
 replace kp := kp.below b1
 replace bb := Below.after bb b1
 clear b1
 have tn := kn.lt
 clear tn
 obtain ⟨cn_0, cn_1, cn_2⟩ := xk3 kn
 obtain ⟨cn_3, cn_4, cn_5⟩ := xk3 (kn.alloc (.cells #[.bool lN, .string lS, .string lD] 26))
 go_wp2_with fail
 clear cn_0 cn_1 cn_2 cn_3 cn_4 cn_5
 go_fit (H6.out _ (ba bb _))
 rintro e w7 ⟨rfl, b1⟩
 obtain ⟨km, b1⟩ := al1 b1
 have sz := b1.size
 replace ka := ka.below b1
 replace kb := kb.below b1
 replace kc := kc.below b1
 replace kd := kd.below b1
 replace kr := kr.below b1
 replace ku := ku.below b1
 replace kv := kv.below b1
 replace kp := kp.below b1
 replace kn := kn.below b1
 replace bb := Below.after bb b1
 clear b1
 have tm := km.lt
 clear tm
 obtain ⟨cu_0, cu_1, cu_2, cu_3, cu_4, cu_5⟩ := xk6 ku
 obtain ⟨cu_6, cu_7, cu_8, cu_9, cu_10, cu_11⟩ := xk6 (ku.alloc (.cells #[.bool mN, .string mS, .string mD] 26))
 go_wp2_with fail
 clear cu_0 cu_1 cu_2 cu_3 cu_4 cu_5 cu_6 cu_7 cu_8 cu_9 cu_10 cu_11
 go_fit (H7.out _ (ba bb _))
 rintro e w8 ⟨rfl, b1⟩
 obtain ⟨kt, b1⟩ := al1 b1
 have sz := b1.size
 replace ka := ka.below b1
 replace kb := kb.below b1
 replace kc := kc.below b1
 replace kd := kd.below b1
 replace kr := kr.below b1
 replace ku := ku.below b1
 replace kv := kv.below b1
 replace kp := kp.below b1
 replace kn := kn.below b1
 replace km := km.below b1
 replace bb := Below.after bb b1
 clear b1
 have tt := kt.lt
 clear tt
 obtain ⟨ca_0, ca_1, ca_2, ca_3, ca_4, ca_5⟩ := xk6 ka
 obtain ⟨ca_6, ca_7, ca_8, ca_9, ca_10, ca_11⟩ := xk6 (ka.alloc (.cells #[.bool fN, .string fS, .string fD, .bool gN, .string gS, .string gD] 28))
 go_wp2_with fail
 clear ca_0 ca_1 ca_2 ca_3 ca_4 ca_5 ca_6 ca_7 ca_8 ca_9 ca_10 ca_11
 go_fit (H8.out _ (ba bb _))
 rintro e w9 ⟨rfl, b1⟩
 obtain ⟨ks, b1⟩ := al1 b1
 have sz := b1.size
 replace ka := ka.below b1
 replace kb := kb.below b1
 replace kc := kc.below b1
 replace kd := kd.below b1
 replace kr := kr.below b1
 replace ku := ku.below b1
 replace kv := kv.below b1
 replace kp := kp.below b1
 replace kn := kn.below b1
 replace km := km.below b1
 replace kt := kt.below b1
 replace bb := Below.after bb b1
 clear b1
 have ts := ks.lt
 clear ts
 have cr_0 := cel6_0 kr
 have fr_1 := Cel.frozen kr 0
 have cr_2 := cel6_1 kr
 have fr_3 := Cel.frozen kr 1
 have cr_4 := cel6_2 kr
 have fr_5 := Cel.frozen kr 2
 have cr_6 := cel6_3 kr
 have fr_7 := Cel.frozen kr 3
 have cr_8 := cel6_4 kr
 have fr_9 := Cel.frozen kr 4
 have cr_10 := cel6_5 kr
 have fr_11 := Cel.frozen kr 5
 go_wp2
 exact post_p1 (p := 8) (u := 9) (v := .int .i64 0) (by kernel_rfl) rfl rfl rfl (Cel.set6 kr _ _ _ _ _ _) ⟨rfl, bset6 bb (by omega) _ _ _ _ _ _⟩
def mt (C D A B tC tD tA tB : Int) : Int := if 0 < C * D then 0 else if (C = 0 ∧ 0 ≤ tC) ∨ (D = 0 ∧ 0 ≤ tD) ∨ (A = 0 ∧ 0 ≤ tA) ∨ (B = 0 ∧ 0 ≤ tB) then 2 else if C * D < 0 ∧ A * B < 0 then 1 else 0
theorem meeting_walk (n0 n1 n2 n3 n4 n5 n6 n7 : Bool) (s0 d0 s1 d1 s2 d2 s3 d3 s4 d4 s5 d5 s6 d6 s7 d7 : ByteArray) (C D A B tC tD tA tB : Int) (w : World) (w1 : IntKind.i64.wrap (C * D) = C * D) (w2 : IntKind.i64.wrap (A * B) = A * B)
  (H1 : Hid (∀ w1, Calls Tryz.prog 46 #[.agg #[.bool n0, .string s0, .string d0, .bool n1, .string s1, .string d1], .agg #[.bool n2, .string s2, .string d2, .bool n3, .string s3, .string d3], .agg #[.bool n4, .string s4, .string d4, .bool n5, .string s5, .string d5]] w1 (Re w1 (.int .i64 (C)))))
  (H2 : Hid (∀ w1, Calls Tryz.prog 46 #[.agg #[.bool n0, .string s0, .string d0, .bool n1, .string s1, .string d1], .agg #[.bool n2, .string s2, .string d2, .bool n3, .string s3, .string d3], .agg #[.bool n6, .string s6, .string d6, .bool n7, .string s7, .string d7]] w1 (Re w1 (.int .i64 (D)))))
  (H3 : Hid (∀ w1, Calls Tryz.prog 46 #[.agg #[.bool n4, .string s4, .string d4, .bool n5, .string s5, .string d5], .agg #[.bool n6, .string s6, .string d6, .bool n7, .string s7, .string d7], .agg #[.bool n0, .string s0, .string d0, .bool n1, .string s1, .string d1]] w1 (Re w1 (.int .i64 (A)))))
  (H4 : Hid (∀ w1, Calls Tryz.prog 46 #[.agg #[.bool n4, .string s4, .string d4, .bool n5, .string s5, .string d5], .agg #[.bool n6, .string s6, .string d6, .bool n7, .string s7, .string d7], .agg #[.bool n2, .string s2, .string d2, .bool n3, .string s3, .string d3]] w1 (Re w1 (.int .i64 (B)))))
  (A1 : Hid (∀ w1, Calls Tryz.prog 55 #[.agg #[.bool n0, .string s0, .string d0, .bool n1, .string s1, .string d1], .agg #[.bool n2, .string s2, .string d2, .bool n3, .string s3, .string d3], .agg #[.bool n4, .string s4, .string d4, .bool n5, .string s5, .string d5]] w1 (Re w1 (.int .i64 (tC)))))
  (A2 : Hid (∀ w1, Calls Tryz.prog 55 #[.agg #[.bool n0, .string s0, .string d0, .bool n1, .string s1, .string d1], .agg #[.bool n2, .string s2, .string d2, .bool n3, .string s3, .string d3], .agg #[.bool n6, .string s6, .string d6, .bool n7, .string s7, .string d7]] w1 (Re w1 (.int .i64 (tD)))))
  (A3 : Hid (∀ w1, Calls Tryz.prog 55 #[.agg #[.bool n4, .string s4, .string d4, .bool n5, .string s5, .string d5], .agg #[.bool n6, .string s6, .string d6, .bool n7, .string s7, .string d7], .agg #[.bool n0, .string s0, .string d0, .bool n1, .string s1, .string d1]] w1 (Re w1 (.int .i64 (tA)))))
  (A4 : Hid (∀ w1, Calls Tryz.prog 55 #[.agg #[.bool n4, .string s4, .string d4, .bool n5, .string s5, .string d5], .agg #[.bool n6, .string s6, .string d6, .bool n7, .string s7, .string d7], .agg #[.bool n2, .string s2, .string d2, .bool n3, .string s3, .string d3]] w1 (Re w1 (.int .i64 (tB))))) :
  Calls Tryz.prog 48 #[.agg #[.bool n0, .string s0, .string d0, .bool n1, .string s1, .string d1], .agg #[.bool n2, .string s2, .string d2, .bool n3, .string s3, .string d3], .agg #[.bool n4, .string s4, .string d4, .bool n5, .string s5, .string d5], .agg #[.bool n6, .string s6, .string d6, .bool n7, .string s7, .string d7]] w (Re w (.int .i64 (mt C D A B tC tD tA tB))) := by
 obtain ⟨R, hR⟩ : ∃ R, R = mt C D A B tC tD tA tB := ⟨_, rfl⟩
 rw [← hR]
 replace hR := shut hR
 go_enter Tryz.func48, Tryz.ntmps48
 go_wp2_with fail
 obtain ⟨w0, hw, ka, kb, kc, kd, bb⟩ := mk4 w [.bool n0, .string s0, .string d0, .bool n1, .string s1, .string d1] [.bool n2, .string s2, .string d2, .bool n3, .string s3, .string d3] [.bool n4, .string s4, .string d4, .bool n5, .string s5, .string d5] [.bool n6, .string s6, .string d6, .bool n7, .string s7, .string d7] 28 28 28 28
 rw [← hw]
 clear hw
 have mkS : Hid (∀ w', Cel w' (w.heap.size) [.bool n0, .string s0, .string d0, .bool n1, .string s1, .string d1] 28 → Cel w' (w.heap.size + 1) [.bool n2, .string s2, .string d2, .bool n3, .string s3, .string d3] 28 → Cel w' (w.heap.size + 1 + 1) [.bool n4, .string s4, .string d4, .bool n5, .string s5, .string d5] 28 → Cel w' (w.heap.size + 1 + 1 + 1) [.bool n6, .string s6, .string d6, .bool n7, .string s7, .string d7] 28 → (xc6 w' w.heap.size (.bool n0) (.string s0) (.string d0) (.bool n1) (.string s1) (.string d1) ∧ xc6 w' (w.heap.size + 1) (.bool n2) (.string s2) (.string d2) (.bool n3) (.string s3) (.string d3) ∧ xc6 w' (w.heap.size + 1 + 1) (.bool n4) (.string s4) (.string d4) (.bool n5) (.string s5) (.string d5) ∧ xc6 w' (w.heap.size + 1 + 1 + 1) (.bool n6) (.string s6) (.string d6) (.bool n7) (.string s7) (.string d7))) := fun w' ha hb hc hd => ⟨xk6 ha, xk6 hb, xk6 hc, xk6 hd⟩
 go_region_held3 (fun w' => xc6 w' w.heap.size (.bool n0) (.string s0) (.string d0) (.bool n1) (.string s1) (.string d1) ∧ xc6 w' (w.heap.size + 1) (.bool n2) (.string s2) (.string d2) (.bool n3) (.string s3) (.string d3) ∧ xc6 w' (w.heap.size + 1 + 1) (.bool n4) (.string s4) (.string d4) (.bool n5) (.string s5) (.string d5) ∧ xc6 w' (w.heap.size + 1 + 1 + 1) (.bool n6) (.string s6) (.string d6) (.bool n7) (.string s7) (.string d7)) (first | with_reducible exact mkS.out _ ka kb kc kd | exact mkS.out _ ka kb kc kd) (first | (go_at_call 46; go_fit (H1.out _); rintro e wn ⟨rfl, bn⟩; replace ka := ka.below (un bn); replace kb := kb.below (un bn); replace kc := kc.below (un bn); replace kd := kd.below (un bn); replace bb := Below.after bb (un bn)) | (go_at_call 46; go_fit (H2.out _); rintro e wn ⟨rfl, bn⟩; replace ka := ka.below (un bn); replace kb := kb.below (un bn); replace kc := kc.below (un bn); replace kd := kd.below (un bn); replace bb := Below.after bb (un bn)))
 clear mkS
 by_cases h0 : 0 < C * D
 ·have G0 := shut h0
  go_wp2
  go_ret
  exact ⟨by rw [hR.out, show mt C D A B tC tD tA tB = 0 from by unfold mt; exact if_pos (by have := G0.out; omega)]; rfl, bb⟩
 have G0 := shut h0
 go_wp2_with fail
 have mkS : Hid (∀ w', Cel w' (w.heap.size) [.bool n0, .string s0, .string d0, .bool n1, .string s1, .string d1] 28 → Cel w' (w.heap.size + 1) [.bool n2, .string s2, .string d2, .bool n3, .string s3, .string d3] 28 → Cel w' (w.heap.size + 1 + 1) [.bool n4, .string s4, .string d4, .bool n5, .string s5, .string d5] 28 → Cel w' (w.heap.size + 1 + 1 + 1) [.bool n6, .string s6, .string d6, .bool n7, .string s7, .string d7] 28 → (xc6 w' w.heap.size (.bool n0) (.string s0) (.string d0) (.bool n1) (.string s1) (.string d1) ∧ xc6 w' (w.heap.size + 1) (.bool n2) (.string s2) (.string d2) (.bool n3) (.string s3) (.string d3) ∧ xc6 w' (w.heap.size + 1 + 1) (.bool n4) (.string s4) (.string d4) (.bool n5) (.string s5) (.string d5) ∧ xc6 w' (w.heap.size + 1 + 1 + 1) (.bool n6) (.string s6) (.string d6) (.bool n7) (.string s7) (.string d7))) := fun w' ha hb hc hd => ⟨xk6 ha, xk6 hb, xk6 hc, xk6 hd⟩
 go_region_held3 (fun w' => xc6 w' w.heap.size (.bool n0) (.string s0) (.string d0) (.bool n1) (.string s1) (.string d1) ∧ xc6 w' (w.heap.size + 1) (.bool n2) (.string s2) (.string d2) (.bool n3) (.string s3) (.string d3) ∧ xc6 w' (w.heap.size + 1 + 1) (.bool n4) (.string s4) (.string d4) (.bool n5) (.string s5) (.string d5) ∧ xc6 w' (w.heap.size + 1 + 1 + 1) (.bool n6) (.string s6) (.string d6) (.bool n7) (.string s7) (.string d7)) (first | with_reducible exact mkS.out _ ka kb kc kd | exact mkS.out _ ka kb kc kd) (first | (go_at_call 46; go_fit (H3.out _); rintro e wn ⟨rfl, bn⟩; replace ka := ka.below (un bn); replace kb := kb.below (un bn); replace kc := kc.below (un bn); replace kd := kd.below (un bn); replace bb := Below.after bb (un bn)) | (go_at_call 46; go_fit (H4.out _); rintro e wn ⟨rfl, bn⟩; replace ka := ka.below (un bn); replace kb := kb.below (un bn); replace kc := kc.below (un bn); replace kd := kd.below (un bn); replace bb := Below.after bb (un bn)))
 clear mkS
 by_cases e0 : C = 0
 ·have E0 := shut e0
  obtain ⟨ca0, ca1, ca2, ca3, ca4, ca5⟩ := xk6 ka
  obtain ⟨cb0, cb1, cb2, cb3, cb4, cb5⟩ := xk6 kb
  obtain ⟨cc0, cc1, cc2, cc3, cc4, cc5⟩ := xk6 kc
  go_wp2_with fail
  go_fit (A1.out _)
  rintro e y0 ⟨rfl, b1⟩
  replace ka := ka.below b1
  replace kb := kb.below b1
  replace kc := kc.below b1
  replace kd := kd.below b1
  replace bb := Below.after bb b1
  clear b1
  clear ca0 ca1 ca2 ca3 ca4 ca5 cb0 cb1 cb2 cb3 cb4 cb5 cc0 cc1 cc2 cc3 cc4 cc5
  by_cases f0 : 0 ≤ tC
  ·have F0 := shut f0
   go_wp2
   go_ret
   exact ⟨by rw [hR.out, show mt C D A B tC tD tA tB = 2 from by have g0 := E0.out; have g1 := F0.out; unfold mt; rw [if_neg (by have := G0.out; omega)]; exact if_pos (by omega)]; rfl, bb⟩
  have F0 := shut f0
  by_cases e1 : D = 0
  ·have E1 := shut e1
   obtain ⟨ca0, ca1, ca2, ca3, ca4, ca5⟩ := xk6 ka
   obtain ⟨cb0, cb1, cb2, cb3, cb4, cb5⟩ := xk6 kb
   obtain ⟨cd0, cd1, cd2, cd3, cd4, cd5⟩ := xk6 kd
   go_wp2_with fail
   go_fit (A2.out _)
   rintro e y1 ⟨rfl, b1⟩
   replace ka := ka.below b1
   replace kb := kb.below b1
   replace kc := kc.below b1
   replace kd := kd.below b1
   replace bb := Below.after bb b1
   clear b1
   clear ca0 ca1 ca2 ca3 ca4 ca5 cb0 cb1 cb2 cb3 cb4 cb5 cd0 cd1 cd2 cd3 cd4 cd5
   by_cases f1 : 0 ≤ tD
   ·have F1 := shut f1
    go_wp2
    go_ret
    exact ⟨by rw [hR.out, show mt C D A B tC tD tA tB = 2 from by have g0 := F0.out; have g1 := E1.out; have g2 := F1.out; unfold mt; rw [if_neg (by have := G0.out; omega)]; exact if_pos (by omega)]; rfl, bb⟩
   have F1 := shut f1
   by_cases e2 : A = 0
   ·have E2 := shut e2
    obtain ⟨cc0, cc1, cc2, cc3, cc4, cc5⟩ := xk6 kc
    obtain ⟨cd0, cd1, cd2, cd3, cd4, cd5⟩ := xk6 kd
    obtain ⟨ca0, ca1, ca2, ca3, ca4, ca5⟩ := xk6 ka
    go_wp2_with fail
    go_fit (A3.out _)
    rintro e y2 ⟨rfl, b1⟩
    replace ka := ka.below b1
    replace kb := kb.below b1
    replace kc := kc.below b1
    replace kd := kd.below b1
    replace bb := Below.after bb b1
    clear b1
    clear cc0 cc1 cc2 cc3 cc4 cc5 cd0 cd1 cd2 cd3 cd4 cd5 ca0 ca1 ca2 ca3 ca4 ca5
    by_cases f2 : 0 ≤ tA
    ·have F2 := shut f2
     go_wp2
     go_ret
     exact ⟨by rw [hR.out, show mt C D A B tC tD tA tB = 2 from by have g0 := F0.out; have g1 := F1.out; have g2 := E2.out; have g3 := F2.out; unfold mt; rw [if_neg (by have := G0.out; omega)]; exact if_pos (by omega)]; rfl, bb⟩
    have F2 := shut f2
    by_cases e3 : B = 0
    ·have E3 := shut e3
     obtain ⟨cc0, cc1, cc2, cc3, cc4, cc5⟩ := xk6 kc
     obtain ⟨cd0, cd1, cd2, cd3, cd4, cd5⟩ := xk6 kd
     obtain ⟨cb0, cb1, cb2, cb3, cb4, cb5⟩ := xk6 kb
     go_wp2_with fail
     go_fit (A4.out _)
     rintro e y3 ⟨rfl, b1⟩
     replace ka := ka.below b1
     replace kb := kb.below b1
     replace kc := kc.below b1
     replace kd := kd.below b1
     replace bb := Below.after bb b1
     clear b1
     clear cc0 cc1 cc2 cc3 cc4 cc5 cd0 cd1 cd2 cd3 cd4 cd5 cb0 cb1 cb2 cb3 cb4 cb5
     by_cases f3 : 0 ≤ tB
     ·have F3 := shut f3
      go_wp2
      go_ret
      exact ⟨by rw [hR.out, show mt C D A B tC tD tA tB = 2 from by have g0 := F0.out; have g1 := F1.out; have g2 := F2.out; have g3 := E3.out; have g4 := F3.out; unfold mt; rw [if_neg (by have := G0.out; omega)]; exact if_pos (by omega)]; rfl, bb⟩
     have F3 := shut f3
     have X1 : Hid (¬ C * D < 0) := by show ¬ C * D < 0; rw [E0.out, Int.zero_mul]; omega
     go_wp2
     go_ret
     exact ⟨by rw [hR.out, show mt C D A B tC tD tA tB = 0 from by have g0 := F0.out; have g1 := F1.out; have g2 := F2.out; have g3 := F3.out; have x1 := X1.out; unfold mt; rw [if_neg (by have := G0.out; omega), if_neg (by omega)]; exact if_neg (by omega)]; rfl, bb⟩
    have E3 := shut e3
    have X1 : Hid (¬ C * D < 0) := by show ¬ C * D < 0; rw [E0.out, Int.zero_mul]; omega
    go_wp2
    go_ret
    exact ⟨by rw [hR.out, show mt C D A B tC tD tA tB = 0 from by have g0 := F0.out; have g1 := F1.out; have g2 := F2.out; have g3 := E3.out; have x1 := X1.out; unfold mt; rw [if_neg (by have := G0.out; omega), if_neg (by omega)]; exact if_neg (by omega)]; rfl, bb⟩
   have E2 := shut e2
   by_cases e3 : B = 0
   ·have E3 := shut e3
    obtain ⟨cc0, cc1, cc2, cc3, cc4, cc5⟩ := xk6 kc
    obtain ⟨cd0, cd1, cd2, cd3, cd4, cd5⟩ := xk6 kd
    obtain ⟨cb0, cb1, cb2, cb3, cb4, cb5⟩ := xk6 kb
    go_wp2_with fail
    go_fit (A4.out _)
    rintro e y3 ⟨rfl, b1⟩
    replace ka := ka.below b1
    replace kb := kb.below b1
    replace kc := kc.below b1
    replace kd := kd.below b1
    replace bb := Below.after bb b1
    clear b1
    clear cc0 cc1 cc2 cc3 cc4 cc5 cd0 cd1 cd2 cd3 cd4 cd5 cb0 cb1 cb2 cb3 cb4 cb5
    by_cases f3 : 0 ≤ tB
    ·have F3 := shut f3
     go_wp2
     go_ret
     exact ⟨by rw [hR.out, show mt C D A B tC tD tA tB = 2 from by have g0 := F0.out; have g1 := F1.out; have g2 := E2.out; have g3 := E3.out; have g4 := F3.out; unfold mt; rw [if_neg (by have := G0.out; omega)]; exact if_pos (by omega)]; rfl, bb⟩
    have F3 := shut f3
    have X1 : Hid (¬ C * D < 0) := by show ¬ C * D < 0; rw [E0.out, Int.zero_mul]; omega
    go_wp2
    go_ret
    exact ⟨by rw [hR.out, show mt C D A B tC tD tA tB = 0 from by have g0 := F0.out; have g1 := F1.out; have g2 := E2.out; have g3 := F3.out; have x1 := X1.out; unfold mt; rw [if_neg (by have := G0.out; omega), if_neg (by omega)]; exact if_neg (by omega)]; rfl, bb⟩
   have E3 := shut e3
   have X1 : Hid (¬ C * D < 0) := by show ¬ C * D < 0; rw [E0.out, Int.zero_mul]; omega
   go_wp2
   go_ret
   exact ⟨by rw [hR.out, show mt C D A B tC tD tA tB = 0 from by have g0 := F0.out; have g1 := F1.out; have g2 := E2.out; have g3 := E3.out; have x1 := X1.out; unfold mt; rw [if_neg (by have := G0.out; omega), if_neg (by omega)]; exact if_neg (by omega)]; rfl, bb⟩
  have E1 := shut e1
  by_cases e2 : A = 0
  ·have E2 := shut e2
   obtain ⟨cc0, cc1, cc2, cc3, cc4, cc5⟩ := xk6 kc
   obtain ⟨cd0, cd1, cd2, cd3, cd4, cd5⟩ := xk6 kd
   obtain ⟨ca0, ca1, ca2, ca3, ca4, ca5⟩ := xk6 ka
   go_wp2_with fail
   go_fit (A3.out _)
   rintro e y2 ⟨rfl, b1⟩
   replace ka := ka.below b1
   replace kb := kb.below b1
   replace kc := kc.below b1
   replace kd := kd.below b1
   replace bb := Below.after bb b1
   clear b1
   clear cc0 cc1 cc2 cc3 cc4 cc5 cd0 cd1 cd2 cd3 cd4 cd5 ca0 ca1 ca2 ca3 ca4 ca5
   by_cases f2 : 0 ≤ tA
   ·have F2 := shut f2
    go_wp2
    go_ret
    exact ⟨by rw [hR.out, show mt C D A B tC tD tA tB = 2 from by have g0 := F0.out; have g1 := E1.out; have g2 := E2.out; have g3 := F2.out; unfold mt; rw [if_neg (by have := G0.out; omega)]; exact if_pos (by omega)]; rfl, bb⟩
   have F2 := shut f2
   by_cases e3 : B = 0
   ·have E3 := shut e3
    obtain ⟨cc0, cc1, cc2, cc3, cc4, cc5⟩ := xk6 kc
    obtain ⟨cd0, cd1, cd2, cd3, cd4, cd5⟩ := xk6 kd
    obtain ⟨cb0, cb1, cb2, cb3, cb4, cb5⟩ := xk6 kb
    go_wp2_with fail
    go_fit (A4.out _)
    rintro e y3 ⟨rfl, b1⟩
    replace ka := ka.below b1
    replace kb := kb.below b1
    replace kc := kc.below b1
    replace kd := kd.below b1
    replace bb := Below.after bb b1
    clear b1
    clear cc0 cc1 cc2 cc3 cc4 cc5 cd0 cd1 cd2 cd3 cd4 cd5 cb0 cb1 cb2 cb3 cb4 cb5
    by_cases f3 : 0 ≤ tB
    ·have F3 := shut f3
     go_wp2
     go_ret
     exact ⟨by rw [hR.out, show mt C D A B tC tD tA tB = 2 from by have g0 := F0.out; have g1 := E1.out; have g2 := F2.out; have g3 := E3.out; have g4 := F3.out; unfold mt; rw [if_neg (by have := G0.out; omega)]; exact if_pos (by omega)]; rfl, bb⟩
    have F3 := shut f3
    have X1 : Hid (¬ C * D < 0) := by show ¬ C * D < 0; rw [E0.out, Int.zero_mul]; omega
    go_wp2
    go_ret
    exact ⟨by rw [hR.out, show mt C D A B tC tD tA tB = 0 from by have g0 := F0.out; have g1 := E1.out; have g2 := F2.out; have g3 := F3.out; have x1 := X1.out; unfold mt; rw [if_neg (by have := G0.out; omega), if_neg (by omega)]; exact if_neg (by omega)]; rfl, bb⟩
   have E3 := shut e3
   have X1 : Hid (¬ C * D < 0) := by show ¬ C * D < 0; rw [E0.out, Int.zero_mul]; omega
   go_wp2
   go_ret
   exact ⟨by rw [hR.out, show mt C D A B tC tD tA tB = 0 from by have g0 := F0.out; have g1 := E1.out; have g2 := F2.out; have g3 := E3.out; have x1 := X1.out; unfold mt; rw [if_neg (by have := G0.out; omega), if_neg (by omega)]; exact if_neg (by omega)]; rfl, bb⟩
  have E2 := shut e2
  by_cases e3 : B = 0
  ·have E3 := shut e3
   obtain ⟨cc0, cc1, cc2, cc3, cc4, cc5⟩ := xk6 kc
   obtain ⟨cd0, cd1, cd2, cd3, cd4, cd5⟩ := xk6 kd
   obtain ⟨cb0, cb1, cb2, cb3, cb4, cb5⟩ := xk6 kb
   go_wp2_with fail
   go_fit (A4.out _)
   rintro e y3 ⟨rfl, b1⟩
   replace ka := ka.below b1
   replace kb := kb.below b1
   replace kc := kc.below b1
   replace kd := kd.below b1
   replace bb := Below.after bb b1
   clear b1
   clear cc0 cc1 cc2 cc3 cc4 cc5 cd0 cd1 cd2 cd3 cd4 cd5 cb0 cb1 cb2 cb3 cb4 cb5
   by_cases f3 : 0 ≤ tB
   ·have F3 := shut f3
    go_wp2
    go_ret
    exact ⟨by rw [hR.out, show mt C D A B tC tD tA tB = 2 from by have g0 := F0.out; have g1 := E1.out; have g2 := E2.out; have g3 := E3.out; have g4 := F3.out; unfold mt; rw [if_neg (by have := G0.out; omega)]; exact if_pos (by omega)]; rfl, bb⟩
   have F3 := shut f3
   have X1 : Hid (¬ C * D < 0) := by show ¬ C * D < 0; rw [E0.out, Int.zero_mul]; omega
   go_wp2
   go_ret
   exact ⟨by rw [hR.out, show mt C D A B tC tD tA tB = 0 from by have g0 := F0.out; have g1 := E1.out; have g2 := E2.out; have g3 := F3.out; have x1 := X1.out; unfold mt; rw [if_neg (by have := G0.out; omega), if_neg (by omega)]; exact if_neg (by omega)]; rfl, bb⟩
  have E3 := shut e3
  have X1 : Hid (¬ C * D < 0) := by show ¬ C * D < 0; rw [E0.out, Int.zero_mul]; omega
  go_wp2
  go_ret
  exact ⟨by rw [hR.out, show mt C D A B tC tD tA tB = 0 from by have g0 := F0.out; have g1 := E1.out; have g2 := E2.out; have g3 := E3.out; have x1 := X1.out; unfold mt; rw [if_neg (by have := G0.out; omega), if_neg (by omega)]; exact if_neg (by omega)]; rfl, bb⟩
 have E0 := shut e0
 by_cases e1 : D = 0
 ·have E1 := shut e1
  obtain ⟨ca0, ca1, ca2, ca3, ca4, ca5⟩ := xk6 ka
  obtain ⟨cb0, cb1, cb2, cb3, cb4, cb5⟩ := xk6 kb
  obtain ⟨cd0, cd1, cd2, cd3, cd4, cd5⟩ := xk6 kd
  go_wp2_with fail
  go_fit (A2.out _)
  rintro e y1 ⟨rfl, b1⟩
  replace ka := ka.below b1
  replace kb := kb.below b1
  replace kc := kc.below b1
  replace kd := kd.below b1
  replace bb := Below.after bb b1
  clear b1
  clear ca0 ca1 ca2 ca3 ca4 ca5 cb0 cb1 cb2 cb3 cb4 cb5 cd0 cd1 cd2 cd3 cd4 cd5
  by_cases f1 : 0 ≤ tD
  ·have F1 := shut f1
   go_wp2
   go_ret
   exact ⟨by rw [hR.out, show mt C D A B tC tD tA tB = 2 from by have g0 := E0.out; have g1 := E1.out; have g2 := F1.out; unfold mt; rw [if_neg (by have := G0.out; omega)]; exact if_pos (by omega)]; rfl, bb⟩
  have F1 := shut f1
  by_cases e2 : A = 0
  ·have E2 := shut e2
   obtain ⟨cc0, cc1, cc2, cc3, cc4, cc5⟩ := xk6 kc
   obtain ⟨cd0, cd1, cd2, cd3, cd4, cd5⟩ := xk6 kd
   obtain ⟨ca0, ca1, ca2, ca3, ca4, ca5⟩ := xk6 ka
   go_wp2_with fail
   go_fit (A3.out _)
   rintro e y2 ⟨rfl, b1⟩
   replace ka := ka.below b1
   replace kb := kb.below b1
   replace kc := kc.below b1
   replace kd := kd.below b1
   replace bb := Below.after bb b1
   clear b1
   clear cc0 cc1 cc2 cc3 cc4 cc5 cd0 cd1 cd2 cd3 cd4 cd5 ca0 ca1 ca2 ca3 ca4 ca5
   by_cases f2 : 0 ≤ tA
   ·have F2 := shut f2
    go_wp2
    go_ret
    exact ⟨by rw [hR.out, show mt C D A B tC tD tA tB = 2 from by have g0 := E0.out; have g1 := F1.out; have g2 := E2.out; have g3 := F2.out; unfold mt; rw [if_neg (by have := G0.out; omega)]; exact if_pos (by omega)]; rfl, bb⟩
   have F2 := shut f2
   by_cases e3 : B = 0
   ·have E3 := shut e3
    obtain ⟨cc0, cc1, cc2, cc3, cc4, cc5⟩ := xk6 kc
    obtain ⟨cd0, cd1, cd2, cd3, cd4, cd5⟩ := xk6 kd
    obtain ⟨cb0, cb1, cb2, cb3, cb4, cb5⟩ := xk6 kb
    go_wp2_with fail
    go_fit (A4.out _)
    rintro e y3 ⟨rfl, b1⟩
    replace ka := ka.below b1
    replace kb := kb.below b1
    replace kc := kc.below b1
    replace kd := kd.below b1
    replace bb := Below.after bb b1
    clear b1
    clear cc0 cc1 cc2 cc3 cc4 cc5 cd0 cd1 cd2 cd3 cd4 cd5 cb0 cb1 cb2 cb3 cb4 cb5
    by_cases f3 : 0 ≤ tB
    ·have F3 := shut f3
     go_wp2
     go_ret
     exact ⟨by rw [hR.out, show mt C D A B tC tD tA tB = 2 from by have g0 := E0.out; have g1 := F1.out; have g2 := F2.out; have g3 := E3.out; have g4 := F3.out; unfold mt; rw [if_neg (by have := G0.out; omega)]; exact if_pos (by omega)]; rfl, bb⟩
    have F3 := shut f3
    have X1 : Hid (¬ C * D < 0) := by show ¬ C * D < 0; rw [E1.out, Int.mul_zero]; omega
    go_wp2
    go_ret
    exact ⟨by rw [hR.out, show mt C D A B tC tD tA tB = 0 from by have g0 := E0.out; have g1 := F1.out; have g2 := F2.out; have g3 := F3.out; have x1 := X1.out; unfold mt; rw [if_neg (by have := G0.out; omega), if_neg (by omega)]; exact if_neg (by omega)]; rfl, bb⟩
   have E3 := shut e3
   have X1 : Hid (¬ C * D < 0) := by show ¬ C * D < 0; rw [E1.out, Int.mul_zero]; omega
   go_wp2
   go_ret
   exact ⟨by rw [hR.out, show mt C D A B tC tD tA tB = 0 from by have g0 := E0.out; have g1 := F1.out; have g2 := F2.out; have g3 := E3.out; have x1 := X1.out; unfold mt; rw [if_neg (by have := G0.out; omega), if_neg (by omega)]; exact if_neg (by omega)]; rfl, bb⟩
  have E2 := shut e2
  by_cases e3 : B = 0
  ·have E3 := shut e3
   obtain ⟨cc0, cc1, cc2, cc3, cc4, cc5⟩ := xk6 kc
   obtain ⟨cd0, cd1, cd2, cd3, cd4, cd5⟩ := xk6 kd
   obtain ⟨cb0, cb1, cb2, cb3, cb4, cb5⟩ := xk6 kb
   go_wp2_with fail
   go_fit (A4.out _)
   rintro e y3 ⟨rfl, b1⟩
   replace ka := ka.below b1
   replace kb := kb.below b1
   replace kc := kc.below b1
   replace kd := kd.below b1
   replace bb := Below.after bb b1
   clear b1
   clear cc0 cc1 cc2 cc3 cc4 cc5 cd0 cd1 cd2 cd3 cd4 cd5 cb0 cb1 cb2 cb3 cb4 cb5
   by_cases f3 : 0 ≤ tB
   ·have F3 := shut f3
    go_wp2
    go_ret
    exact ⟨by rw [hR.out, show mt C D A B tC tD tA tB = 2 from by have g0 := E0.out; have g1 := F1.out; have g2 := E2.out; have g3 := E3.out; have g4 := F3.out; unfold mt; rw [if_neg (by have := G0.out; omega)]; exact if_pos (by omega)]; rfl, bb⟩
   have F3 := shut f3
   have X1 : Hid (¬ C * D < 0) := by show ¬ C * D < 0; rw [E1.out, Int.mul_zero]; omega
   go_wp2
   go_ret
   exact ⟨by rw [hR.out, show mt C D A B tC tD tA tB = 0 from by have g0 := E0.out; have g1 := F1.out; have g2 := E2.out; have g3 := F3.out; have x1 := X1.out; unfold mt; rw [if_neg (by have := G0.out; omega), if_neg (by omega)]; exact if_neg (by omega)]; rfl, bb⟩
  have E3 := shut e3
  have X1 : Hid (¬ C * D < 0) := by show ¬ C * D < 0; rw [E1.out, Int.mul_zero]; omega
  go_wp2
  go_ret
  exact ⟨by rw [hR.out, show mt C D A B tC tD tA tB = 0 from by have g0 := E0.out; have g1 := F1.out; have g2 := E2.out; have g3 := E3.out; have x1 := X1.out; unfold mt; rw [if_neg (by have := G0.out; omega), if_neg (by omega)]; exact if_neg (by omega)]; rfl, bb⟩
 have E1 := shut e1
 by_cases e2 : A = 0
 ·have E2 := shut e2
  obtain ⟨cc0, cc1, cc2, cc3, cc4, cc5⟩ := xk6 kc
  obtain ⟨cd0, cd1, cd2, cd3, cd4, cd5⟩ := xk6 kd
  obtain ⟨ca0, ca1, ca2, ca3, ca4, ca5⟩ := xk6 ka
  go_wp2_with fail
  go_fit (A3.out _)
  rintro e y2 ⟨rfl, b1⟩
  replace ka := ka.below b1
  replace kb := kb.below b1
  replace kc := kc.below b1
  replace kd := kd.below b1
  replace bb := Below.after bb b1
  clear b1
  clear cc0 cc1 cc2 cc3 cc4 cc5 cd0 cd1 cd2 cd3 cd4 cd5 ca0 ca1 ca2 ca3 ca4 ca5
  by_cases f2 : 0 ≤ tA
  ·have F2 := shut f2
   go_wp2
   go_ret
   exact ⟨by rw [hR.out, show mt C D A B tC tD tA tB = 2 from by have g0 := E0.out; have g1 := E1.out; have g2 := E2.out; have g3 := F2.out; unfold mt; rw [if_neg (by have := G0.out; omega)]; exact if_pos (by omega)]; rfl, bb⟩
  have F2 := shut f2
  by_cases e3 : B = 0
  ·have E3 := shut e3
   obtain ⟨cc0, cc1, cc2, cc3, cc4, cc5⟩ := xk6 kc
   obtain ⟨cd0, cd1, cd2, cd3, cd4, cd5⟩ := xk6 kd
   obtain ⟨cb0, cb1, cb2, cb3, cb4, cb5⟩ := xk6 kb
   go_wp2_with fail
   go_fit (A4.out _)
   rintro e y3 ⟨rfl, b1⟩
   replace ka := ka.below b1
   replace kb := kb.below b1
   replace kc := kc.below b1
   replace kd := kd.below b1
   replace bb := Below.after bb b1
   clear b1
   clear cc0 cc1 cc2 cc3 cc4 cc5 cd0 cd1 cd2 cd3 cd4 cd5 cb0 cb1 cb2 cb3 cb4 cb5
   by_cases f3 : 0 ≤ tB
   ·have F3 := shut f3
    go_wp2
    go_ret
    exact ⟨by rw [hR.out, show mt C D A B tC tD tA tB = 2 from by have g0 := E0.out; have g1 := E1.out; have g2 := F2.out; have g3 := E3.out; have g4 := F3.out; unfold mt; rw [if_neg (by have := G0.out; omega)]; exact if_pos (by omega)]; rfl, bb⟩
   have F3 := shut f3
   by_cases x1 : C * D < 0
   ·have X1 := shut x1
    have X2 : Hid (¬ A * B < 0) := by show ¬ A * B < 0; rw [E2.out, Int.zero_mul]; omega
    go_wp2
    go_ret
    exact ⟨by rw [hR.out, show mt C D A B tC tD tA tB = 0 from by have g0 := E0.out; have g1 := E1.out; have g2 := F2.out; have g3 := F3.out; have x2 := X2.out; unfold mt; rw [if_neg (by have := G0.out; omega), if_neg (by omega)]; exact if_neg (by omega)]; rfl, bb⟩
   ·have X1 := shut x1
    go_wp2
    go_ret
    exact ⟨by rw [hR.out, show mt C D A B tC tD tA tB = 0 from by have g0 := E0.out; have g1 := E1.out; have g2 := F2.out; have g3 := F3.out; have x1 := X1.out; unfold mt; rw [if_neg (by have := G0.out; omega), if_neg (by omega)]; exact if_neg (by omega)]; rfl, bb⟩
  have E3 := shut e3
  by_cases x1 : C * D < 0
  ·have X1 := shut x1
   have X2 : Hid (¬ A * B < 0) := by show ¬ A * B < 0; rw [E2.out, Int.zero_mul]; omega
   go_wp2
   go_ret
   exact ⟨by rw [hR.out, show mt C D A B tC tD tA tB = 0 from by have g0 := E0.out; have g1 := E1.out; have g2 := F2.out; have g3 := E3.out; have x2 := X2.out; unfold mt; rw [if_neg (by have := G0.out; omega), if_neg (by omega)]; exact if_neg (by omega)]; rfl, bb⟩
  ·have X1 := shut x1
   go_wp2
   go_ret
   exact ⟨by rw [hR.out, show mt C D A B tC tD tA tB = 0 from by have g0 := E0.out; have g1 := E1.out; have g2 := F2.out; have g3 := E3.out; have x1 := X1.out; unfold mt; rw [if_neg (by have := G0.out; omega), if_neg (by omega)]; exact if_neg (by omega)]; rfl, bb⟩
 have E2 := shut e2
 by_cases e3 : B = 0
 ·have E3 := shut e3
  obtain ⟨cc0, cc1, cc2, cc3, cc4, cc5⟩ := xk6 kc
  obtain ⟨cd0, cd1, cd2, cd3, cd4, cd5⟩ := xk6 kd
  obtain ⟨cb0, cb1, cb2, cb3, cb4, cb5⟩ := xk6 kb
  go_wp2_with fail
  go_fit (A4.out _)
  rintro e y3 ⟨rfl, b1⟩
  replace ka := ka.below b1
  replace kb := kb.below b1
  replace kc := kc.below b1
  replace kd := kd.below b1
  replace bb := Below.after bb b1
  clear b1
  clear cc0 cc1 cc2 cc3 cc4 cc5 cd0 cd1 cd2 cd3 cd4 cd5 cb0 cb1 cb2 cb3 cb4 cb5
  by_cases f3 : 0 ≤ tB
  ·have F3 := shut f3
   go_wp2
   go_ret
   exact ⟨by rw [hR.out, show mt C D A B tC tD tA tB = 2 from by have g0 := E0.out; have g1 := E1.out; have g2 := E2.out; have g3 := E3.out; have g4 := F3.out; unfold mt; rw [if_neg (by have := G0.out; omega)]; exact if_pos (by omega)]; rfl, bb⟩
  have F3 := shut f3
  by_cases x1 : C * D < 0
  ·have X1 := shut x1
   have X2 : Hid (¬ A * B < 0) := by show ¬ A * B < 0; rw [E3.out, Int.mul_zero]; omega
   go_wp2
   go_ret
   exact ⟨by rw [hR.out, show mt C D A B tC tD tA tB = 0 from by have g0 := E0.out; have g1 := E1.out; have g2 := E2.out; have g3 := F3.out; have x2 := X2.out; unfold mt; rw [if_neg (by have := G0.out; omega), if_neg (by omega)]; exact if_neg (by omega)]; rfl, bb⟩
  ·have X1 := shut x1
   go_wp2
   go_ret
   exact ⟨by rw [hR.out, show mt C D A B tC tD tA tB = 0 from by have g0 := E0.out; have g1 := E1.out; have g2 := E2.out; have g3 := F3.out; have x1 := X1.out; unfold mt; rw [if_neg (by have := G0.out; omega), if_neg (by omega)]; exact if_neg (by omega)]; rfl, bb⟩
 have E3 := shut e3
 by_cases x1 : C * D < 0
 ·have X1 := shut x1
  by_cases x2 : A * B < 0
  ·have X2 := shut x2
   go_wp2
   go_ret
   exact ⟨by rw [hR.out, show mt C D A B tC tD tA tB = 1 from by have g0 := E0.out; have g1 := E1.out; have g2 := E2.out; have g3 := E3.out; have := X1.out; have := X2.out; unfold mt; rw [if_neg (by have := G0.out; omega), if_neg (by omega)]; exact if_pos (by omega)]; rfl, bb⟩
  ·have X2 := shut x2
   go_wp2
   go_ret
   exact ⟨by rw [hR.out, show mt C D A B tC tD tA tB = 0 from by have g0 := E0.out; have g1 := E1.out; have g2 := E2.out; have g3 := E3.out; have x2 := X2.out; unfold mt; rw [if_neg (by have := G0.out; omega), if_neg (by omega)]; exact if_neg (by omega)]; rfl, bb⟩
 ·have X1 := shut x1
  go_wp2
  go_ret
  exact ⟨by rw [hR.out, show mt C D A B tC tD tA tB = 0 from by have g0 := E0.out; have g1 := E1.out; have g2 := E2.out; have g3 := E3.out; have x1 := X1.out; unfold mt; rw [if_neg (by have := G0.out; omega), if_neg (by omega)]; exact if_neg (by omega)]; rfl, bb⟩
end Go.Proofs.YtiiigiggcbbgjaaGreatDoor
