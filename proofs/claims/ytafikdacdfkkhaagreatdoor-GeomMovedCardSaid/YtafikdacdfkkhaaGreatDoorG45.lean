/-
  gussetlaw04: VecScales, of any point and number.
  gussetref05: Orient, Disc, Circle of rational numbers.
  Rational numbers in their one form: how long sums and products get; the reference's calls over them.
  Package geom, walked.
  gussetlaw05: brief, moved.
  gussetlaw05: GeomMoved, walked.
-/
import Derived.Test.YtafikdacdfkkhaaGreatDoorG40
import Derived.Test.YtafikdacdfkkhaaGreatDoorG44
namespace Go.Proofs.YtafikdacdfkkhaaGreatDoor
open Go.RowKit Go.Shelf

theorem rchk4_any (n0 n1 : Bool) (s0 d0 s1 d1 : ByteArray) (w : World) (z0 : s0.size ≤ 8000) (y0 : d0.size ≤ 8000) (z1 : s1.size ≤ 8000) (y1 : d1.size ≤ 8000) :
  Calls Tryz.prog 54 #[.agg #[.bool n0, .string s0, .string d0, .bool n1, .string s1, .string d1]] w fun e w' => e = .returned (.int .i64 (twoq n0 s0 d0 n1 s1 d1 : Nat)) ∧ Below w.heap.size w w' :=
 rchk4_walk n0 n1 s0 d0 s1 d1 _ w (fun w1 => bothq_any n0 n1 s0 d0 s1 d1 w1 z0 y0 z1 y1)
end Go.Proofs.YtafikdacdfkkhaaGreatDoor
namespace Go.Proofs.YtafikdacdfkkhaaGreatDoor
open Go.RowKit

theorem okq_form {n : Bool} {s d : ByteArray} (o : OkQ n s d) : ∃ x : Rat, n = nfZ x.num ∧ s = sfZ x.num ∧ d = strOf x.den := by
 have h : nfZ (qOf n s d).num = n ∧ sfZ (qOf n s d).num = s ∧ strOf (qOf n s d).den = d := o.parts
 exact ⟨qOf n s d, h.1.symm, h.2.1.symm, h.2.2.symm⟩
theorem qOf_one (x : Rat) : qOf (nfZ x.num) (sfZ x.num) (strOf x.den) = x := qOf_qI x
end Go.Proofs.YtafikdacdfkkhaaGreatDoor
namespace Go.Proofs.YtafikdacdfkkhaaGreatDoor
open Go.RowKit Go.Shelf

theorem rtimesI (x y : Rat) {K : Nat} (hK : K ≤ 4000) (bx : Bq x K) (bY : Bq y K) (w : World) :
  Calls Tryz.prog 79 #[.agg #[.bool (nfZ (x).num), .string (sfZ (x).num), .string (strOf (x).den)], .agg #[.bool (nfZ (y).num), .string (sfZ (y).num), .string (strOf (y).den)]] w fun e w' => e = .returned (.agg #[.bool (nfZ (x * y).num), .string (sfZ (x * y).num), .string (strOf (x * y).den)]) ∧ Below w.heap.size w w' := by
 have zx := bx.2.size
 have zy := bY.2.size
 have := rtimesq_any (nfZ x.num) (nfZ y.num) (sfZ x.num) (strOf x.den) (sfZ y.num) (strOf y.den) w (okQ_qI x) (okQ_qI y) hK bx.1.size (by simpa using zx) bY.1.size (by simpa using zy)
 rw [show qOf (nfZ x.num) (sfZ x.num) (strOf x.den) = x from qOf_qI x, show qOf (nfZ y.num) (sfZ y.num) (strOf y.den) = y from qOf_qI y] at this
 exact this
theorem rsumI (x y : Rat) {K : Nat} (hK : K ≤ 4000) (bx : Bq x K) (bY : Bq y K) (w : World) :
  Calls Tryz.prog 77 #[.agg #[.bool (nfZ (x).num), .string (sfZ (x).num), .string (strOf (x).den)], .agg #[.bool (nfZ (y).num), .string (sfZ (y).num), .string (strOf (y).den)]] w fun e w' => e = .returned (.agg #[.bool (nfZ (x + y).num), .string (sfZ (x + y).num), .string (strOf (x + y).den)]) ∧ Below w.heap.size w w' := by
 have zx := bx.2.size
 have zy := bY.2.size
 have := rsumq_any (nfZ x.num) (nfZ y.num) (sfZ x.num) (strOf x.den) (sfZ y.num) (strOf y.den) w (okQ_qI x) (okQ_qI y) hK bx.1.size (by simpa using zx) bY.1.size (by simpa using zy)
 rw [show qOf (nfZ x.num) (sfZ x.num) (strOf x.den) = x from qOf_qI x, show qOf (nfZ y.num) (sfZ y.num) (strOf y.den) = y from qOf_qI y] at this
 exact this
end Go.Proofs.YtafikdacdfkkhaaGreatDoor
namespace Go.Proofs.YtafikdacdfkkhaaGreatDoor
open Go.RowKit

theorem mk5 (w : World) (c0 c1 c2 c3 c4 : List Value) (t0 t1 t2 t3 t4 : TypeId) : ∃ w', w' = ((((w.alloc (.cells c0.toArray t0)).alloc (.cells c1.toArray t1)).alloc (.cells c2.toArray t2)).alloc (.cells c3.toArray t3)).alloc (.cells c4.toArray t4) ∧ Cel w' w.heap.size c0 t0 ∧ Cel w' (w.heap.size + 1) c1 t1 ∧ Cel w' (w.heap.size + 1 + 1) c2 t2 ∧ Cel w' (w.heap.size + 1 + 1 + 1) c3 t3 ∧ Cel w' (w.heap.size + 1 + 1 + 1 + 1) c4 t4 ∧ Below w.heap.size w w' := by
 obtain ⟨v, hv, k0, k1, k2, k3, b⟩ := mk4 w c0 c1 c2 c3 t0 t1 t2 t3
 obtain ⟨u, hu, k4, b'⟩ := mk1 v c4 t4
 have hs : v.heap.size = w.heap.size + 1 + 1 + 1 + 1 := by rw [hv]; simp
 refine ⟨u, by rw [hu, hv], k0.below b', k1.below b', k2.below b', k3.below b', by rw [← hs]; exact k4, Below.after b b'⟩
set_option maxRecDepth 100000 in
set_option maxHeartbeats 8000000 in
theorem gOrient_ok (n0 n1 n2 n3 n4 n5 : Bool) (s0 d0 s1 d1 s2 d2 s3 d3 s4 d4 s5 d5 : ByteArray) (G : Int) (w : World)
  (HC : Hid (∀ (w1 : World) (B : Nat), Below w.heap.size w w1 → Cel w1 B [.bool n0, .string s0, .string d0, .bool n1, .string s1, .string d1, .bool n2, .string s2, .string d2, .bool n3, .string s3, .string d3, .bool n4, .string s4, .string d4, .bool n5, .string s5, .string d5] 28 → Calls Tryz.prog 46 #[.slice (some ⟨B, 0, none⟩) 3 3] w1 fun e w' => e = .returned (.int .i64 0) ∧ Below w1.heap.size w1 w'))
  (H1 : Hid (∀ w1, Calls Tryz.prog 64 #[.agg #[.bool n0, .string s0, .string d0, .bool n1, .string s1, .string d1], .agg #[.bool n2, .string s2, .string d2, .bool n3, .string s3, .string d3], .agg #[.bool n4, .string s4, .string d4, .bool n5, .string s5, .string d5]] w1 fun e w' => e = .returned (.int .i64 (G)) ∧ Below w1.heap.size w1 w')) :
  Calls Tryz.prog 20 #[.agg #[.bool n0, .string s0, .string d0, .bool n1, .string s1, .string d1], .agg #[.bool n2, .string s2, .string d2, .bool n3, .string s3, .string d3], .agg #[.bool n4, .string s4, .string d4, .bool n5, .string s5, .string d5]] w fun e w' => e = .returned (.tuple #[.int .i64 G, .int .i64 0]) ∧ Below w.heap.size w w' := by
 go_enter Tryz.func20, Tryz.ntmps20
 go_wp2_with fail
 obtain ⟨w0, hw, ka, kb, kc, kl, bb⟩ := mk4 w [.bool n0, .string s0, .string d0, .bool n1, .string s1, .string d1] [.bool n2, .string s2, .string d2, .bool n3, .string s3, .string d3] [.bool n4, .string s4, .string d4, .bool n5, .string s5, .string d5] [.bool n0, .string s0, .string d0, .bool n1, .string s1, .string d1, .bool n2, .string s2, .string d2, .bool n3, .string s3, .string d3, .bool n4, .string s4, .string d4, .bool n5, .string s5, .string d5] 28 28 28 28
 rw [← hw]
 clear hw
 go_fit (HC.out _ _ bb kl)
 rintro e w1 ⟨rfl, b1⟩
 replace ka := ka.below b1
 replace kb := kb.below b1
 replace kc := kc.below b1
 replace bb := Below.after bb b1
 clear b1 kl
 have ca0 := cel6_0 ka
 have ca1 := cel6_1 ka
 have ca2 := cel6_2 ka
 have ca3 := cel6_3 ka
 have ca4 := cel6_4 ka
 have ca5 := cel6_5 ka
 have cb0 := cel6_0 kb
 have cb1 := cel6_1 kb
 have cb2 := cel6_2 kb
 have cb3 := cel6_3 kb
 have cb4 := cel6_4 kb
 have cb5 := cel6_5 kb
 have cc0 := cel6_0 kc
 have cc1 := cel6_1 kc
 have cc2 := cel6_2 kc
 have cc3 := cel6_3 kc
 have cc4 := cel6_4 kc
 have cc5 := cel6_5 kc
 go_wp2_with fail
 go_fit (H1.out _)
 rintro e w2 ⟨rfl, b1⟩
 replace bb := Below.after bb b1
 clear ca0 ca1 ca2 ca3 ca4 ca5 cb0 cb1 cb2 cb3 cb4 cb5 cc0 cc1 cc2 cc3 cc4 cc5
 go_wp2
 go_ret2
 exact ⟨rfl, bb⟩
set_option maxRecDepth 100000 in
set_option maxHeartbeats 8000000 in
theorem gCircle_flat (n0 n1 n2 n3 n4 n5 n6 n7 : Bool) (s0 d0 s1 d1 s2 d2 s3 d3 s4 d4 s5 d5 s6 d6 s7 d7 : ByteArray) (w : World)
  (HC : Hid (∀ (w1 : World) (B : Nat), Below w.heap.size w w1 → Cel w1 B [.bool n0, .string s0, .string d0, .bool n1, .string s1, .string d1, .bool n2, .string s2, .string d2, .bool n3, .string s3, .string d3, .bool n4, .string s4, .string d4, .bool n5, .string s5, .string d5, .bool n6, .string s6, .string d6, .bool n7, .string s7, .string d7] 28 → Calls Tryz.prog 46 #[.slice (some ⟨B, 0, none⟩) 4 4] w1 fun e w' => e = .returned (.int .i64 0) ∧ Below w1.heap.size w1 w'))
  (H1 : Hid (∀ w1, Calls Tryz.prog 64 #[.agg #[.bool n0, .string s0, .string d0, .bool n1, .string s1, .string d1], .agg #[.bool n2, .string s2, .string d2, .bool n3, .string s3, .string d3], .agg #[.bool n4, .string s4, .string d4, .bool n5, .string s5, .string d5]] w1 fun e w' => e = .returned (.int .i64 (0)) ∧ Below w1.heap.size w1 w')) :
  Calls Tryz.prog 21 #[.agg #[.bool n0, .string s0, .string d0, .bool n1, .string s1, .string d1], .agg #[.bool n2, .string s2, .string d2, .bool n3, .string s3, .string d3], .agg #[.bool n4, .string s4, .string d4, .bool n5, .string s5, .string d5], .agg #[.bool n6, .string s6, .string d6, .bool n7, .string s7, .string d7]] w fun e w' => e = .returned (.tuple #[.int .i64 0, .int .i64 6]) ∧ Below w.heap.size w w' := by
 go_enter Tryz.func21, Tryz.ntmps21
 go_wp2_with fail
 obtain ⟨w0, hw, ka, kb, kc, kd, kl, bb⟩ := mk5 w [.bool n0, .string s0, .string d0, .bool n1, .string s1, .string d1] [.bool n2, .string s2, .string d2, .bool n3, .string s3, .string d3] [.bool n4, .string s4, .string d4, .bool n5, .string s5, .string d5] [.bool n6, .string s6, .string d6, .bool n7, .string s7, .string d7] [.bool n0, .string s0, .string d0, .bool n1, .string s1, .string d1, .bool n2, .string s2, .string d2, .bool n3, .string s3, .string d3, .bool n4, .string s4, .string d4, .bool n5, .string s5, .string d5, .bool n6, .string s6, .string d6, .bool n7, .string s7, .string d7] 28 28 28 28 28
 rw [← hw]
 clear hw
 go_fit (HC.out _ _ bb kl)
 rintro e w1 ⟨rfl, b1⟩
 replace ka := ka.below b1
 replace kb := kb.below b1
 replace kc := kc.below b1
 replace kd := kd.below b1
 replace bb := Below.after bb b1
 clear b1 kl
 have ca0 := cel6_0 ka
 have ca1 := cel6_1 ka
 have ca2 := cel6_2 ka
 have ca3 := cel6_3 ka
 have ca4 := cel6_4 ka
 have ca5 := cel6_5 ka
 have cb0 := cel6_0 kb
 have cb1 := cel6_1 kb
 have cb2 := cel6_2 kb
 have cb3 := cel6_3 kb
 have cb4 := cel6_4 kb
 have cb5 := cel6_5 kb
 have cc0 := cel6_0 kc
 have cc1 := cel6_1 kc
 have cc2 := cel6_2 kc
 have cc3 := cel6_3 kc
 have cc4 := cel6_4 kc
 have cc5 := cel6_5 kc
 go_wp2_with fail
 go_fit (H1.out _)
 rintro e w2 ⟨rfl, b1⟩
 replace bb := Below.after bb b1
 clear ca0 ca1 ca2 ca3 ca4 ca5 cb0 cb1 cb2 cb3 cb4 cb5 cc0 cc1 cc2 cc3 cc4 cc5
 go_wp2
 go_ret2
 exact ⟨rfl, bb⟩
set_option maxRecDepth 100000 in
set_option maxHeartbeats 8000000 in
theorem gCircle_ok (n0 n1 n2 n3 n4 n5 n6 n7 : Bool) (s0 d0 s1 d1 s2 d2 s3 d3 s4 d4 s5 d5 s6 d6 s7 d7 : ByteArray) (G T : Int) (w : World) (hG : ¬ G = 0) (hw2 : IntKind.i64.wrap (G * T) = G * T)
  (HC : Hid (∀ (w1 : World) (B : Nat), Below w.heap.size w w1 → Cel w1 B [.bool n0, .string s0, .string d0, .bool n1, .string s1, .string d1, .bool n2, .string s2, .string d2, .bool n3, .string s3, .string d3, .bool n4, .string s4, .string d4, .bool n5, .string s5, .string d5, .bool n6, .string s6, .string d6, .bool n7, .string s7, .string d7] 28 → Calls Tryz.prog 46 #[.slice (some ⟨B, 0, none⟩) 4 4] w1 fun e w' => e = .returned (.int .i64 0) ∧ Below w1.heap.size w1 w'))
  (H1 : Hid (∀ w1, Calls Tryz.prog 64 #[.agg #[.bool n0, .string s0, .string d0, .bool n1, .string s1, .string d1], .agg #[.bool n2, .string s2, .string d2, .bool n3, .string s3, .string d3], .agg #[.bool n4, .string s4, .string d4, .bool n5, .string s5, .string d5]] w1 fun e w' => e = .returned (.int .i64 (G)) ∧ Below w1.heap.size w1 w'))
  (H2 : Hid (∀ w1, Calls Tryz.prog 65 #[.agg #[.bool n0, .string s0, .string d0, .bool n1, .string s1, .string d1], .agg #[.bool n2, .string s2, .string d2, .bool n3, .string s3, .string d3], .agg #[.bool n4, .string s4, .string d4, .bool n5, .string s5, .string d5], .agg #[.bool n6, .string s6, .string d6, .bool n7, .string s7, .string d7]] w1 fun e w' => e = .returned (.int .i64 (T)) ∧ Below w1.heap.size w1 w')) :
  Calls Tryz.prog 21 #[.agg #[.bool n0, .string s0, .string d0, .bool n1, .string s1, .string d1], .agg #[.bool n2, .string s2, .string d2, .bool n3, .string s3, .string d3], .agg #[.bool n4, .string s4, .string d4, .bool n5, .string s5, .string d5], .agg #[.bool n6, .string s6, .string d6, .bool n7, .string s7, .string d7]] w fun e w' => e = .returned (.tuple #[.int .i64 (G * T), .int .i64 0]) ∧ Below w.heap.size w w' := by
 go_enter Tryz.func21, Tryz.ntmps21
 go_wp2_with fail
 obtain ⟨w0, hw, ka, kb, kc, kd, kl, bb⟩ := mk5 w [.bool n0, .string s0, .string d0, .bool n1, .string s1, .string d1] [.bool n2, .string s2, .string d2, .bool n3, .string s3, .string d3] [.bool n4, .string s4, .string d4, .bool n5, .string s5, .string d5] [.bool n6, .string s6, .string d6, .bool n7, .string s7, .string d7] [.bool n0, .string s0, .string d0, .bool n1, .string s1, .string d1, .bool n2, .string s2, .string d2, .bool n3, .string s3, .string d3, .bool n4, .string s4, .string d4, .bool n5, .string s5, .string d5, .bool n6, .string s6, .string d6, .bool n7, .string s7, .string d7] 28 28 28 28 28
 rw [← hw]
 clear hw
 go_fit (HC.out _ _ bb kl)
 rintro e w1 ⟨rfl, b1⟩
 replace ka := ka.below b1
 replace kb := kb.below b1
 replace kc := kc.below b1
 replace kd := kd.below b1
 replace bb := Below.after bb b1
 clear b1 kl
 have ca0 := cel6_0 ka
 have ca1 := cel6_1 ka
 have ca2 := cel6_2 ka
 have ca3 := cel6_3 ka
 have ca4 := cel6_4 ka
 have ca5 := cel6_5 ka
 have cb0 := cel6_0 kb
 have cb1 := cel6_1 kb
 have cb2 := cel6_2 kb
 have cb3 := cel6_3 kb
 have cb4 := cel6_4 kb
 have cb5 := cel6_5 kb
 have cc0 := cel6_0 kc
 have cc1 := cel6_1 kc
 have cc2 := cel6_2 kc
 have cc3 := cel6_3 kc
 have cc4 := cel6_4 kc
 have cc5 := cel6_5 kc
 go_wp2_with fail
 go_fit (H1.out _)
 rintro e w2 ⟨rfl, b1⟩
 replace ka := ka.below b1
 replace kb := kb.below b1
 replace kc := kc.below b1
 replace kd := kd.below b1
 replace bb := Below.after bb b1
 clear b1
 clear ca0 ca1 ca2 ca3 ca4 ca5 cb0 cb1 cb2 cb3 cb4 cb5 cc0 cc1 cc2 cc3 cc4 cc5
 have ca0 := cel6_0 ka
 have ca1 := cel6_1 ka
 have ca2 := cel6_2 ka
 have ca3 := cel6_3 ka
 have ca4 := cel6_4 ka
 have ca5 := cel6_5 ka
 have cb0 := cel6_0 kb
 have cb1 := cel6_1 kb
 have cb2 := cel6_2 kb
 have cb3 := cel6_3 kb
 have cb4 := cel6_4 kb
 have cb5 := cel6_5 kb
 have cc0 := cel6_0 kc
 have cc1 := cel6_1 kc
 have cc2 := cel6_2 kc
 have cc3 := cel6_3 kc
 have cc4 := cel6_4 kc
 have cc5 := cel6_5 kc
 have cd0 := cel6_0 kd
 have cd1 := cel6_1 kd
 have cd2 := cel6_2 kd
 have cd3 := cel6_3 kd
 have cd4 := cel6_4 kd
 have cd5 := cel6_5 kd
 go_wp2_with fail
 go_fit (H2.out _)
 rintro e w3 ⟨rfl, b1⟩
 replace bb := Below.after bb b1
 clear ca0 ca1 ca2 ca3 ca4 ca5 cb0 cb1 cb2 cb3 cb4 cb5 cc0 cc1 cc2 cc3 cc4 cc5 cd0 cd1 cd2 cd3 cd4 cd5
 go_wp2
 go_ret2
 exact ⟨rfl, bb⟩
end Go.Proofs.YtafikdacdfkkhaaGreatDoor
namespace Go.Proofs.YtafikdacdfkkhaaGreatDoor
open Go.RowKit

/-- Few bytes. -/
def sb5 (s d : ByteArray) : Bool := decide (s.size ≤ 30 ∧ d.size ≤ 30)
set_option maxRecDepth 100000 in
set_option maxHeartbeats 2000000 in
theorem brief5_any (n : Bool) (s d : ByteArray) (w : World) :
  Calls Tryz.prog 16 #[.agg #[.bool n, .string s, .string d]] w fun e w' => e = .returned (.bool (sb5 s d)) ∧ Below w.heap.size w w' := by
 by_cases hs : s.size ≤ 30
 ·by_cases hd : d.size ≤ 30
  ·have e : Hid (sb5 s d = true) := decide_eq_true ⟨hs, hd⟩
   have i1 : (s.size : Int) ≤ 30 := by omega
   have i2 : (d.size : Int) ≤ 30 := by omega
   go_enter Tryz.func16, Tryz.ntmps16
   go_wp2
   go_ret
   exact ⟨by rw [e.out]; rfl, bel_al _ _⟩
  ·have e : Hid (sb5 s d = false) := decide_eq_false fun h => hd h.2
   have i1 : (s.size : Int) ≤ 30 := by omega
   have i2 : ¬ (d.size : Int) ≤ 30 := by omega
   go_enter Tryz.func16, Tryz.ntmps16
   go_wp2
   go_ret
   exact ⟨by rw [e.out]; rfl, bel_al _ _⟩
 ·have e : Hid (sb5 s d = false) := decide_eq_false fun h => hs h.1
  have i1 : ¬ (s.size : Int) ≤ 30 := by omega
  go_enter Tryz.func16, Tryz.ntmps16
  go_wp2
  go_ret
  exact ⟨by rw [e.out]; rfl, bel_al _ _⟩
set_option maxRecDepth 100000 in
set_option maxHeartbeats 8000000 in
theorem moved_walk (n0 n1 n2 n3 n4 n10 n11 n12 n13 : Bool) (s0 d0 s1 d1 s2 d2 s3 d3 s4 d4 s10 d10 s11 d11 s12 d12 s13 d13 : ByteArray) (w : World)
  (H1 : Hid (∀ w1, Calls Tryz.prog 59 #[.agg #[.bool n0, .string s0, .string d0, .bool n1, .string s1, .string d1], .agg #[.bool n4, .string s4, .string d4]] w1 fun e w' => e = .returned (.agg #[.bool n10, .string s10, .string d10, .bool n11, .string s11, .string d11]) ∧ Below w1.heap.size w1 w'))
  (H2 : Hid (∀ w1, Calls Tryz.prog 58 #[.agg #[.bool n10, .string s10, .string d10, .bool n11, .string s11, .string d11], .agg #[.bool n2, .string s2, .string d2, .bool n3, .string s3, .string d3]] w1 fun e w' => e = .returned (.agg #[.bool n12, .string s12, .string d12, .bool n13, .string s13, .string d13]) ∧ Below w1.heap.size w1 w')) :
  Calls Tryz.prog 19 #[.agg #[.bool n0, .string s0, .string d0, .bool n1, .string s1, .string d1], .agg #[.bool n2, .string s2, .string d2, .bool n3, .string s3, .string d3], .agg #[.bool n4, .string s4, .string d4]] w fun e w' => e = .returned (.agg #[.bool n12, .string s12, .string d12, .bool n13, .string s13, .string d13]) ∧ Below w.heap.size w w' := by
 go_enter Tryz.func19, Tryz.ntmps19
 go_wp2_with fail
 obtain ⟨w0, hw, ka, kb, kc, kr, bb⟩ := mk4 w [.bool n0, .string s0, .string d0, .bool n1, .string s1, .string d1] [.bool n2, .string s2, .string d2, .bool n3, .string s3, .string d3] [.bool n4, .string s4, .string d4] [.bool false, .string { data := #[] }, .string { data := #[] }, .bool false, .string { data := #[] }, .string { data := #[] }] 28 28 26 28
 rw [← hw]
 clear hw
 have tr := kr.lt
 have mkS : Hid (∀ w', Cel w' (w.heap.size) [.bool n0, .string s0, .string d0, .bool n1, .string s1, .string d1] 28 → Cel w' (w.heap.size + 1) [.bool n2, .string s2, .string d2, .bool n3, .string s3, .string d3] 28 → Cel w' (w.heap.size + 1 + 1) [.bool n4, .string s4, .string d4] 26 → (w'.cell? ⟨w.heap.size, 0, none⟩ = some (.bool n0) ∧ w'.cell? ⟨w.heap.size, 1, none⟩ = some (.string s0) ∧ w'.cell? ⟨w.heap.size, 2, none⟩ = some (.string d0) ∧ w'.cell? ⟨w.heap.size, 3, none⟩ = some (.bool n1) ∧ w'.cell? ⟨w.heap.size, 4, none⟩ = some (.string s1) ∧ w'.cell? ⟨w.heap.size, 5, none⟩ = some (.string d1) ∧ w'.cell? ⟨w.heap.size + 1, 0, none⟩ = some (.bool n2) ∧ w'.cell? ⟨w.heap.size + 1, 1, none⟩ = some (.string s2) ∧ w'.cell? ⟨w.heap.size + 1, 2, none⟩ = some (.string d2) ∧ w'.cell? ⟨w.heap.size + 1, 3, none⟩ = some (.bool n3) ∧ w'.cell? ⟨w.heap.size + 1, 4, none⟩ = some (.string s3) ∧ w'.cell? ⟨w.heap.size + 1, 5, none⟩ = some (.string d3) ∧ w'.cell? ⟨w.heap.size + 1 + 1, 0, none⟩ = some (.bool n4) ∧ w'.cell? ⟨w.heap.size + 1 + 1, 1, none⟩ = some (.string s4) ∧ w'.cell? ⟨w.heap.size + 1 + 1, 2, none⟩ = some (.string d4))) := fun w' ha hb hc => ⟨cel6_0 ha, cel6_1 ha, cel6_2 ha, cel6_3 ha, cel6_4 ha, cel6_5 ha, cel6_0 hb, cel6_1 hb, cel6_2 hb, cel6_3 hb, cel6_4 hb, cel6_5 hb, cel3_0 hc, cel3_1 hc, cel3_2 hc⟩
 have qar : w.heap.size ≠ w.heap.size + 1 + 1 + 1 := by omega
 have qbr : w.heap.size + 1 ≠ w.heap.size + 1 + 1 + 1 := by omega
 have qcr : w.heap.size + 1 + 1 ≠ w.heap.size + 1 + 1 + 1 := by omega
 go_region_held3 (fun w' => w'.cell? ⟨w.heap.size, 0, none⟩ = some (.bool n0) ∧ w'.cell? ⟨w.heap.size, 1, none⟩ = some (.string s0) ∧ w'.cell? ⟨w.heap.size, 2, none⟩ = some (.string d0) ∧ w'.cell? ⟨w.heap.size, 3, none⟩ = some (.bool n1) ∧ w'.cell? ⟨w.heap.size, 4, none⟩ = some (.string s1) ∧ w'.cell? ⟨w.heap.size, 5, none⟩ = some (.string d1) ∧ w'.cell? ⟨w.heap.size + 1, 0, none⟩ = some (.bool n2) ∧ w'.cell? ⟨w.heap.size + 1, 1, none⟩ = some (.string s2) ∧ w'.cell? ⟨w.heap.size + 1, 2, none⟩ = some (.string d2) ∧ w'.cell? ⟨w.heap.size + 1, 3, none⟩ = some (.bool n3) ∧ w'.cell? ⟨w.heap.size + 1, 4, none⟩ = some (.string s3) ∧ w'.cell? ⟨w.heap.size + 1, 5, none⟩ = some (.string d3) ∧ w'.cell? ⟨w.heap.size + 1 + 1, 0, none⟩ = some (.bool n4) ∧ w'.cell? ⟨w.heap.size + 1 + 1, 1, none⟩ = some (.string s4) ∧ w'.cell? ⟨w.heap.size + 1 + 1, 2, none⟩ = some (.string d4)) (first | with_reducible exact mkS.out _ ka kb kc | with_reducible exact mkS.out _ (Cel.other (Cel.other (Cel.other (Cel.other (Cel.other (Cel.other ka qar 0 _) qar 1 _) qar 2 _) qar 3 _) qar 4 _) qar 5 _) (Cel.other (Cel.other (Cel.other (Cel.other (Cel.other (Cel.other kb qbr 0 _) qbr 1 _) qbr 2 _) qbr 3 _) qbr 4 _) qbr 5 _) (Cel.other (Cel.other (Cel.other (Cel.other (Cel.other (Cel.other kc qcr 0 _) qcr 1 _) qcr 2 _) qcr 3 _) qcr 4 _) qcr 5 _) | exact mkS.out _ ka kb kc) (first | (go_at_call 59; go_fit (H1.out _); rintro e wn ⟨rfl, bn⟩; replace ka := ka.below ⟨bn.os, bn.tape, bn.output, bn.size, bn.block⟩; replace kb := kb.below ⟨bn.os, bn.tape, bn.output, bn.size, bn.block⟩; replace kc := kc.below ⟨bn.os, bn.tape, bn.output, bn.size, bn.block⟩; replace kr := kr.below ⟨bn.os, bn.tape, bn.output, bn.size, bn.block⟩; replace bb := Below.after bb ⟨bn.os, bn.tape, bn.output, bn.size, bn.block⟩) | (go_at_call 58; go_fit (H2.out _); rintro e wn ⟨rfl, bn⟩; replace ka := ka.below ⟨bn.os, bn.tape, bn.output, bn.size, bn.block⟩; replace kb := kb.below ⟨bn.os, bn.tape, bn.output, bn.size, bn.block⟩; replace kc := kc.below ⟨bn.os, bn.tape, bn.output, bn.size, bn.block⟩; replace kr := kr.below ⟨bn.os, bn.tape, bn.output, bn.size, bn.block⟩; replace bb := Below.after bb ⟨bn.os, bn.tape, bn.output, bn.size, bn.block⟩; have er0 := cel6_0 kr; have fr0 := Cel.frozen kr 0; have er1 := cel6_1 kr; have fr1 := Cel.frozen kr 1; have er2 := cel6_2 kr; have fr2 := Cel.frozen kr 2; have er3 := cel6_3 kr; have fr3 := Cel.frozen kr 3; have er4 := cel6_4 kr; have fr4 := Cel.frozen kr 4; have er5 := cel6_5 kr; have fr5 := Cel.frozen kr 5))
 go_wp2
 exact post_p (p := 6) (by kernel_rfl) rfl rfl (kr.set6 _ _ _ _ _ _) ⟨rfl, bset6 bb (by omega) _ _ _ _ _ _⟩
theorem movedI (x y a b k : Rat) {K : Nat} (hK : K + K + 1 ≤ 4000) (b0 : Bq x K) (b1 : Bq y K) (b2 : Bq a K) (b3 : Bq b K) (b4 : Bq k K) (w : World) : Calls Tryz.prog 19 #[.agg #[.bool (nfZ (x).num), .string (sfZ (x).num), .string (strOf (x).den), .bool (nfZ (y).num), .string (sfZ (y).num), .string (strOf (y).den)], .agg #[.bool (nfZ (a).num), .string (sfZ (a).num), .string (strOf (a).den), .bool (nfZ (b).num), .string (sfZ (b).num), .string (strOf (b).den)], .agg #[.bool (nfZ (k).num), .string (sfZ (k).num), .string (strOf (k).den)]] w fun e w' => e = .returned (.agg #[.bool (nfZ (x * k + a).num), .string (sfZ (x * k + a).num), .string (strOf (x * k + a).den), .bool (nfZ (y * k + b).num), .string (sfZ (y * k + b).num), .string (strOf (y * k + b).den)]) ∧ Below w.heap.size w w' :=
 moved_walk _ _ _ _ _ _ _ _ _ _ _ _ _ _ _ _ _ _ _ _ _ _ _ _ _ _ _ w (fun w1 => rscale_walk _ _ _ _ _ _ _ _ _ _ _ _ _ _ _ w1 (fun w2 => rtimesI x k (K := K) (by omega) b0 b4 w2) (fun w2 => rtimesI y k (K := K) (by omega) b1 b4 w2)) (fun w1 => rplus4_walk _ _ _ _ _ _ _ _ _ _ _ _ _ _ _ _ _ _ w1 (fun w2 => rsumI (x * k) a hK (vq_mul b0 b4) (b2.mono (by omega)) w2) (fun w2 => rsumI (y * k) b hK (vq_mul b1 b4) (b3.mono (by omega)) w2))
def f5 {α : Type} (x y z u v : α) (j : Nat) : α := if j = 0 then x else if j = 1 then y else if j = 2 then z else if j = 3 then u else v
theorem rdpt_5 {w : World} {B : Nat} {t : TypeId} {n0 n1 n2 n3 n4 n5 n6 n7 n8 n9 : Bool} {s0 d0 s1 d1 s2 d2 s3 d3 s4 d4 s5 d5 s6 d6 s7 d7 s8 d8 s9 d9 : ByteArray} (h : Cel w B [.bool n0, .string s0, .string d0, .bool n1, .string s1, .string d1, .bool n2, .string s2, .string d2, .bool n3, .string s3, .string d3, .bool n4, .string s4, .string d4, .bool n5, .string s5, .string d5, .bool n6, .string s6, .string d6, .bool n7, .string s7, .string d7, .bool n8, .string s8, .string d8, .bool n9, .string s9, .string d9] t) : RdPt w (some ⟨B, 0, none⟩) 5 (f5 n0 n2 n4 n6 n8) (f5 s0 s2 s4 s6 s8) (f5 d0 d2 d4 d6 d8) (f5 n1 n3 n5 n7 n9) (f5 s1 s3 s5 s7 s9) (f5 d1 d3 d5 d7 d9) := by
 intro j hj
 refine ⟨B, 0, rfl, ?_⟩
 match j, hj with
 | 0, _ => exact ⟨h.cell 0, h.cell 1, h.cell 2, h.cell 3, h.cell 4, h.cell 5⟩
 | 1, _ => exact ⟨h.cell 6, h.cell 7, h.cell 8, h.cell 9, h.cell 10, h.cell 11⟩
 | 2, _ => exact ⟨h.cell 12, h.cell 13, h.cell 14, h.cell 15, h.cell 16, h.cell 17⟩
 | 3, _ => exact ⟨h.cell 18, h.cell 19, h.cell 20, h.cell 21, h.cell 22, h.cell 23⟩
 | 4, _ => exact ⟨h.cell 24, h.cell 25, h.cell 26, h.cell 27, h.cell 28, h.cell 29⟩
theorem asked5 (B : Nat) (n0 n1 n2 n3 n4 n5 n6 n7 n8 n9 : Bool) (s0 d0 s1 d1 s2 d2 s3 d3 s4 d4 s5 d5 s6 d6 s7 d7 s8 d8 s9 d9 : ByteArray) (w : World) (h : Cel w B [.bool n0, .string s0, .string d0, .bool n1, .string s1, .string d1, .bool n2, .string s2, .string d2, .bool n3, .string s3, .string d3, .bool n4, .string s4, .string d4, .bool n5, .string s5, .string d5, .bool n6, .string s6, .string d6, .bool n7, .string s7, .string d7, .bool n8, .string s8, .string d8, .bool n9, .string s9, .string d9] 28) (z0 : s0.size ≤ 100 ∧ d0.size ≤ 100) (z1 : s1.size ≤ 100 ∧ d1.size ≤ 100) (z2 : s2.size ≤ 100 ∧ d2.size ≤ 100) (z3 : s3.size ≤ 100 ∧ d3.size ≤ 100) (z4 : s4.size ≤ 100 ∧ d4.size ≤ 100) (z5 : s5.size ≤ 100 ∧ d5.size ≤ 100) (z6 : s6.size ≤ 100 ∧ d6.size ≤ 100) (z7 : s7.size ≤ 100 ∧ d7.size ≤ 100) (z8 : s8.size ≤ 100 ∧ d8.size ≤ 100) (z9 : s9.size ≤ 100 ∧ d9.size ≤ 100) :
  Calls Tryz.prog 13 #[.slice (some ⟨B, 0, none⟩) 5 5] w fun e w' => e = .returned (.int .i64 (two (two (two (two (twoq n0 s0 d0 n1 s1 d1) (twoq n2 s2 d2 n3 s3 d3)) (twoq n4 s4 d4 n5 s5 d5)) (twoq n6 s6 d6 n7 s7 d7)) (twoq n8 s8 d8 n9 s9 d9) : Nat)) ∧ Below w.heap.size w w' := by
 refine asked_walk (some ⟨B, 0, none⟩) 5 5 _ _ _ _ _ _ (f5 (twoq n0 s0 d0 n1 s1 d1) (twoq n2 s2 d2 n3 s3 d3) (twoq n4 s4 d4 n5 s5 d5) (twoq n6 s6 d6 n7 s7 d7) (twoq n8 s8 d8 n9 s9 d9)) w (by omega) (rdpt_5 h) (fun j hj => ?_) (fun j w1 hj => ?_)
 ·match j, hj with
  | 0, _ => exact ⟨z0.1, z0.2, z1.1, z1.2⟩
  | 1, _ => exact ⟨z2.1, z2.2, z3.1, z3.2⟩
  | 2, _ => exact ⟨z4.1, z4.2, z5.1, z5.2⟩
  | 3, _ => exact ⟨z6.1, z6.2, z7.1, z7.2⟩
  | 4, _ => exact ⟨z8.1, z8.2, z9.1, z9.2⟩
 ·match j, hj with
  | 0, _ => exact rchk4_any n0 n1 s0 d0 s1 d1 w1 (by omega) (by omega) (by omega) (by omega)
  | 1, _ => exact rchk4_any n2 n3 s2 d2 s3 d3 w1 (by omega) (by omega) (by omega) (by omega)
  | 2, _ => exact rchk4_any n4 n5 s4 d4 s5 d5 w1 (by omega) (by omega) (by omega) (by omega)
  | 3, _ => exact rchk4_any n6 n7 s6 d6 s7 d7 w1 (by omega) (by omega) (by omega) (by omega)
  | 4, _ => exact rchk4_any n8 n9 s8 d8 s9 d9 w1 (by omega) (by omega) (by omega) (by omega)
end Go.Proofs.YtafikdacdfkkhaaGreatDoor
namespace Go.Proofs.YtafikdacdfkkhaaGreatDoor
open Go.RowKit

set_option maxRecDepth 100000 in
set_option maxHeartbeats 32000000 in
theorem moved5_a (n0 n1 n2 n3 n4 n5 n6 n7 n8 n9 n10 : Bool) (s0 d0 s1 d1 s2 d2 s3 d3 s4 d4 s5 d5 s6 d6 s7 d7 s8 d8 s9 d9 s10 d10 : ByteArray) (E : Int) (w : World) (hE : ¬ E = 0)
  (HL : Hid (∀ w1, Below w.heap.size w w1 → Calls Tryz.prog 10 #[] w1 fun e w' => e = .returned (.bool true) ∧ Below w1.heap.size w1 w'))
  (S0 : Hid (∀ w1, Calls Tryz.prog 16 #[.agg #[.bool n0, .string s0, .string d0]] w1 fun e w' => e = .returned (.bool true) ∧ Below w1.heap.size w1 w'))
  (S1 : Hid (∀ w1, Calls Tryz.prog 16 #[.agg #[.bool n1, .string s1, .string d1]] w1 fun e w' => e = .returned (.bool true) ∧ Below w1.heap.size w1 w'))
  (S2 : Hid (∀ w1, Calls Tryz.prog 16 #[.agg #[.bool n2, .string s2, .string d2]] w1 fun e w' => e = .returned (.bool true) ∧ Below w1.heap.size w1 w'))
  (S3 : Hid (∀ w1, Calls Tryz.prog 16 #[.agg #[.bool n3, .string s3, .string d3]] w1 fun e w' => e = .returned (.bool true) ∧ Below w1.heap.size w1 w'))
  (S4 : Hid (∀ w1, Calls Tryz.prog 16 #[.agg #[.bool n4, .string s4, .string d4]] w1 fun e w' => e = .returned (.bool true) ∧ Below w1.heap.size w1 w'))
  (S5 : Hid (∀ w1, Calls Tryz.prog 16 #[.agg #[.bool n5, .string s5, .string d5]] w1 fun e w' => e = .returned (.bool true) ∧ Below w1.heap.size w1 w'))
  (S6 : Hid (∀ w1, Calls Tryz.prog 16 #[.agg #[.bool n6, .string s6, .string d6]] w1 fun e w' => e = .returned (.bool true) ∧ Below w1.heap.size w1 w'))
  (S7 : Hid (∀ w1, Calls Tryz.prog 16 #[.agg #[.bool n7, .string s7, .string d7]] w1 fun e w' => e = .returned (.bool true) ∧ Below w1.heap.size w1 w'))
  (S8 : Hid (∀ w1, Calls Tryz.prog 16 #[.agg #[.bool n8, .string s8, .string d8]] w1 fun e w' => e = .returned (.bool true) ∧ Below w1.heap.size w1 w'))
  (S9 : Hid (∀ w1, Calls Tryz.prog 16 #[.agg #[.bool n9, .string s9, .string d9]] w1 fun e w' => e = .returned (.bool true) ∧ Below w1.heap.size w1 w'))
  (S10 : Hid (∀ w1, Calls Tryz.prog 16 #[.agg #[.bool n10, .string s10, .string d10]] w1 fun e w' => e = .returned (.bool true) ∧ Below w1.heap.size w1 w'))
  (HA : Hid (∀ (w1 : World) (B : Nat), Below w.heap.size w w1 → Cel w1 B [.bool n0, .string s0, .string d0, .bool n1, .string s1, .string d1, .bool n2, .string s2, .string d2, .bool n3, .string s3, .string d3, .bool n4, .string s4, .string d4, .bool n5, .string s5, .string d5, .bool n6, .string s6, .string d6, .bool n7, .string s7, .string d7, .bool n8, .string s8, .string d8, .bool n9, .string s9, .string d9] 28 → Calls Tryz.prog 13 #[.slice (some ⟨B, 0, none⟩) 5 5] w1 fun e w' => e = .returned (.int .i64 (E)) ∧ Below w1.heap.size w1 w')) :
  Calls Tryz.prog 4 #[.agg #[.bool n0, .string s0, .string d0, .bool n1, .string s1, .string d1, .bool n2, .string s2, .string d2, .bool n3, .string s3, .string d3, .bool n4, .string s4, .string d4, .bool n5, .string s5, .string d5, .bool n6, .string s6, .string d6, .bool n7, .string s7, .string d7], .agg #[.bool n8, .string s8, .string d8, .bool n9, .string s9, .string d9], .agg #[.bool n10, .string s10, .string d10]] w fun e w' => e = .returned (.bool true) ∧ Below w.heap.size w w' := by
 go_enter Tryz.func4, Tryz.ntmps4
 go_wp2_with fail
 go_fit (S0.out _)
 rintro e w1 ⟨rfl, b1⟩
 obtain ⟨kf, kp, kr, bb⟩ := al3 b1
 clear b1
 obtain ⟨c0, c1, c2, c3, c4, c5, c6, c7, c8, c9, c10, c11, c12, c13, c14, c15, c16, c17, c18, c19, c20, c21, c22, c23⟩ := c24 kf
 have p0 := cel6_0 kp
 have p1 := cel6_1 kp
 have p2 := cel6_2 kp
 have p3 := cel6_3 kp
 have p4 := cel6_4 kp
 have p5 := cel6_5 kp
 have r0 := cel3_0 kr
 have r1 := cel3_1 kr
 have r2 := cel3_2 kr
 go_wp2_with fail
 go_fit (S1.out _)
 rintro e w2 ⟨rfl, b1⟩
 replace kf := kf.below b1
 replace kp := kp.below b1
 replace kr := kr.below b1
 replace bb := Below.after bb b1
 clear b1
 clear c0 c1 c2 c3 c4 c5 c6 c7 c8 c9 c10 c11 c12 c13 c14 c15 c16 c17 c18 c19 c20 c21 c22 c23 p0 p1 p2 p3 p4 p5 r0 r1 r2
 obtain ⟨c0, c1, c2, c3, c4, c5, c6, c7, c8, c9, c10, c11, c12, c13, c14, c15, c16, c17, c18, c19, c20, c21, c22, c23⟩ := c24 kf
 have p0 := cel6_0 kp
 have p1 := cel6_1 kp
 have p2 := cel6_2 kp
 have p3 := cel6_3 kp
 have p4 := cel6_4 kp
 have p5 := cel6_5 kp
 have r0 := cel3_0 kr
 have r1 := cel3_1 kr
 have r2 := cel3_2 kr
 go_wp2_with fail
 go_fit (S2.out _)
 rintro e w3 ⟨rfl, b1⟩
 replace kf := kf.below b1
 replace kp := kp.below b1
 replace kr := kr.below b1
 replace bb := Below.after bb b1
 clear b1
 clear c0 c1 c2 c3 c4 c5 c6 c7 c8 c9 c10 c11 c12 c13 c14 c15 c16 c17 c18 c19 c20 c21 c22 c23 p0 p1 p2 p3 p4 p5 r0 r1 r2
 obtain ⟨c0, c1, c2, c3, c4, c5, c6, c7, c8, c9, c10, c11, c12, c13, c14, c15, c16, c17, c18, c19, c20, c21, c22, c23⟩ := c24 kf
 have p0 := cel6_0 kp
 have p1 := cel6_1 kp
 have p2 := cel6_2 kp
 have p3 := cel6_3 kp
 have p4 := cel6_4 kp
 have p5 := cel6_5 kp
 have r0 := cel3_0 kr
 have r1 := cel3_1 kr
 have r2 := cel3_2 kr
 go_wp2_with fail
 go_fit (S3.out _)
 rintro e w4 ⟨rfl, b1⟩
 replace kf := kf.below b1
 replace kp := kp.below b1
 replace kr := kr.below b1
 replace bb := Below.after bb b1
 clear b1
 clear c0 c1 c2 c3 c4 c5 c6 c7 c8 c9 c10 c11 c12 c13 c14 c15 c16 c17 c18 c19 c20 c21 c22 c23 p0 p1 p2 p3 p4 p5 r0 r1 r2
 obtain ⟨c0, c1, c2, c3, c4, c5, c6, c7, c8, c9, c10, c11, c12, c13, c14, c15, c16, c17, c18, c19, c20, c21, c22, c23⟩ := c24 kf
 have p0 := cel6_0 kp
 have p1 := cel6_1 kp
 have p2 := cel6_2 kp
 have p3 := cel6_3 kp
 have p4 := cel6_4 kp
 have p5 := cel6_5 kp
 have r0 := cel3_0 kr
 have r1 := cel3_1 kr
 have r2 := cel3_2 kr
 go_wp2_with fail
 go_fit (S4.out _)
 rintro e w5 ⟨rfl, b1⟩
 replace kf := kf.below b1
 replace kp := kp.below b1
 replace kr := kr.below b1
 replace bb := Below.after bb b1
 clear b1
 clear c0 c1 c2 c3 c4 c5 c6 c7 c8 c9 c10 c11 c12 c13 c14 c15 c16 c17 c18 c19 c20 c21 c22 c23 p0 p1 p2 p3 p4 p5 r0 r1 r2
 obtain ⟨c0, c1, c2, c3, c4, c5, c6, c7, c8, c9, c10, c11, c12, c13, c14, c15, c16, c17, c18, c19, c20, c21, c22, c23⟩ := c24 kf
 have p0 := cel6_0 kp
 have p1 := cel6_1 kp
 have p2 := cel6_2 kp
 have p3 := cel6_3 kp
 have p4 := cel6_4 kp
 have p5 := cel6_5 kp
 have r0 := cel3_0 kr
 have r1 := cel3_1 kr
 have r2 := cel3_2 kr
 go_wp2_with fail
 go_fit (S5.out _)
 rintro e w6 ⟨rfl, b1⟩
 replace kf := kf.below b1
 replace kp := kp.below b1
 replace kr := kr.below b1
 replace bb := Below.after bb b1
 clear b1
 clear c0 c1 c2 c3 c4 c5 c6 c7 c8 c9 c10 c11 c12 c13 c14 c15 c16 c17 c18 c19 c20 c21 c22 c23 p0 p1 p2 p3 p4 p5 r0 r1 r2
 obtain ⟨c0, c1, c2, c3, c4, c5, c6, c7, c8, c9, c10, c11, c12, c13, c14, c15, c16, c17, c18, c19, c20, c21, c22, c23⟩ := c24 kf
 have p0 := cel6_0 kp
 have p1 := cel6_1 kp
 have p2 := cel6_2 kp
 have p3 := cel6_3 kp
 have p4 := cel6_4 kp
 have p5 := cel6_5 kp
 have r0 := cel3_0 kr
 have r1 := cel3_1 kr
 have r2 := cel3_2 kr
 go_wp2_with fail
 go_fit (S6.out _)
 rintro e w7 ⟨rfl, b1⟩
 replace kf := kf.below b1
 replace kp := kp.below b1
 replace kr := kr.below b1
 replace bb := Below.after bb b1
 clear b1
 clear c0 c1 c2 c3 c4 c5 c6 c7 c8 c9 c10 c11 c12 c13 c14 c15 c16 c17 c18 c19 c20 c21 c22 c23 p0 p1 p2 p3 p4 p5 r0 r1 r2
 obtain ⟨c0, c1, c2, c3, c4, c5, c6, c7, c8, c9, c10, c11, c12, c13, c14, c15, c16, c17, c18, c19, c20, c21, c22, c23⟩ := c24 kf
 have p0 := cel6_0 kp
 have p1 := cel6_1 kp
 have p2 := cel6_2 kp
 have p3 := cel6_3 kp
 have p4 := cel6_4 kp
 have p5 := cel6_5 kp
 have r0 := cel3_0 kr
 have r1 := cel3_1 kr
 have r2 := cel3_2 kr
 go_wp2_with fail
 go_fit (S7.out _)
 rintro e w8 ⟨rfl, b1⟩
 replace kf := kf.below b1
 replace kp := kp.below b1
 replace kr := kr.below b1
 replace bb := Below.after bb b1
 clear b1
 clear c0 c1 c2 c3 c4 c5 c6 c7 c8 c9 c10 c11 c12 c13 c14 c15 c16 c17 c18 c19 c20 c21 c22 c23 p0 p1 p2 p3 p4 p5 r0 r1 r2
 obtain ⟨c0, c1, c2, c3, c4, c5, c6, c7, c8, c9, c10, c11, c12, c13, c14, c15, c16, c17, c18, c19, c20, c21, c22, c23⟩ := c24 kf
 have p0 := cel6_0 kp
 have p1 := cel6_1 kp
 have p2 := cel6_2 kp
 have p3 := cel6_3 kp
 have p4 := cel6_4 kp
 have p5 := cel6_5 kp
 have r0 := cel3_0 kr
 have r1 := cel3_1 kr
 have r2 := cel3_2 kr
 go_wp2_with fail
 go_fit (S8.out _)
 rintro e w9 ⟨rfl, b1⟩
 replace kf := kf.below b1
 replace kp := kp.below b1
 replace kr := kr.below b1
 replace bb := Below.after bb b1
 clear b1
 clear c0 c1 c2 c3 c4 c5 c6 c7 c8 c9 c10 c11 c12 c13 c14 c15 c16 c17 c18 c19 c20 c21 c22 c23 p0 p1 p2 p3 p4 p5 r0 r1 r2
 obtain ⟨c0, c1, c2, c3, c4, c5, c6, c7, c8, c9, c10, c11, c12, c13, c14, c15, c16, c17, c18, c19, c20, c21, c22, c23⟩ := c24 kf
 have p0 := cel6_0 kp
 have p1 := cel6_1 kp
 have p2 := cel6_2 kp
 have p3 := cel6_3 kp
 have p4 := cel6_4 kp
 have p5 := cel6_5 kp
 have r0 := cel3_0 kr
 have r1 := cel3_1 kr
 have r2 := cel3_2 kr
 go_wp2_with fail
 go_fit (S9.out _)
 rintro e w10 ⟨rfl, b1⟩
 replace kf := kf.below b1
 replace kp := kp.below b1
 replace kr := kr.below b1
 replace bb := Below.after bb b1
 clear b1
 clear c0 c1 c2 c3 c4 c5 c6 c7 c8 c9 c10 c11 c12 c13 c14 c15 c16 c17 c18 c19 c20 c21 c22 c23 p0 p1 p2 p3 p4 p5 r0 r1 r2
 obtain ⟨c0, c1, c2, c3, c4, c5, c6, c7, c8, c9, c10, c11, c12, c13, c14, c15, c16, c17, c18, c19, c20, c21, c22, c23⟩ := c24 kf
 have p0 := cel6_0 kp
 have p1 := cel6_1 kp
 have p2 := cel6_2 kp
 have p3 := cel6_3 kp
 have p4 := cel6_4 kp
 have p5 := cel6_5 kp
 have r0 := cel3_0 kr
 have r1 := cel3_1 kr
 have r2 := cel3_2 kr
 go_wp2_with fail
 go_fit (S10.out _)
 rintro e w11 ⟨rfl, b1⟩
 replace kf := kf.below b1
 replace kp := kp.below b1
 replace kr := kr.below b1
 replace bb := Below.after bb b1
 clear b1
 clear c0 c1 c2 c3 c4 c5 c6 c7 c8 c9 c10 c11 c12 c13 c14 c15 c16 c17 c18 c19 c20 c21 c22 c23 p0 p1 p2 p3 p4 p5 r0 r1 r2
 obtain ⟨c0, c1, c2, c3, c4, c5, c6, c7, c8, c9, c10, c11, c12, c13, c14, c15, c16, c17, c18, c19, c20, c21, c22, c23⟩ := c24 kf
 have p0 := cel6_0 kp
 have p1 := cel6_1 kp
 have p2 := cel6_2 kp
 have p3 := cel6_3 kp
 have p4 := cel6_4 kp
 have p5 := cel6_5 kp
 have r0 := cel3_0 kr
 have r1 := cel3_1 kr
 have r2 := cel3_2 kr
 go_wp2_with fail
 obtain ⟨w12, hw, kl, b1⟩ := mk1 w11 [.bool n0, .string s0, .string d0, .bool n1, .string s1, .string d1, .bool n2, .string s2, .string d2, .bool n3, .string s3, .string d3, .bool n4, .string s4, .string d4, .bool n5, .string s5, .string d5, .bool n6, .string s6, .string d6, .bool n7, .string s7, .string d7, .bool n8, .string s8, .string d8, .bool n9, .string s9, .string d9] 28
 rw [← hw]
 clear hw
 replace kf := kf.below b1
 replace kp := kp.below b1
 replace kr := kr.below b1
 replace bb := Below.after bb b1
 clear b1
 clear c0 c1 c2 c3 c4 c5 c6 c7 c8 c9 c10 c11 c12 c13 c14 c15 c16 c17 c18 c19 c20 c21 c22 c23 p0 p1 p2 p3 p4 p5 r0 r1 r2
 go_fit (HA.out _ _ bb kl)
 rintro e w13 ⟨rfl, b1⟩
 replace kf := kf.below b1
 replace kp := kp.below b1
 replace kr := kr.below b1
 replace bb := Below.after bb b1
 clear b1
 clear kl
 go_wp2_with fail
 go_fit (HL.out _ bb)
 rintro e w14 ⟨rfl, b1⟩
 replace kf := kf.below b1
 replace kp := kp.below b1
 replace kr := kr.below b1
 replace bb := Below.after bb b1
 clear b1
 go_wp2
 go_ret
 exact ⟨rfl, bb⟩
end Go.Proofs.YtafikdacdfkkhaaGreatDoor
