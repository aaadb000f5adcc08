/-
  Package geom: Orient, Disc, Circle, Meet of any points of at most 100 bytes.
  gussetlaw05: live.
  gussetlaw05: GeomMoved holds of any points.
-/
import Derived.Test.YtafikdacdfkkhaaGreatDoorG45
import Derived.Test.YtafikdacdfkkhaaGreatDoorG46
import Derived.Test.YtafikdacdfkkhaaGreatDoorG49
import Derived.Test.YtafikdacdfkkhaaGreatDoorG50
namespace Go.Proofs.YtafikdacdfkkhaaGreatDoor
open Go.RowKit

set_option maxRecDepth 100000 in
set_option maxHeartbeats 8000000 in
theorem gMeet_ok (n0 n1 n2 n3 n4 n5 n6 n7 : Bool) (s0 d0 s1 d1 s2 d2 s3 d3 s4 d4 s5 d5 s6 d6 s7 d7 : ByteArray) (G : Int) (w : World)
  (HC : Hid (∀ (w1 : World) (B : Nat), Below w.heap.size w w1 → Cel w1 B [.bool n0, .string s0, .string d0, .bool n1, .string s1, .string d1, .bool n2, .string s2, .string d2, .bool n3, .string s3, .string d3, .bool n4, .string s4, .string d4, .bool n5, .string s5, .string d5, .bool n6, .string s6, .string d6, .bool n7, .string s7, .string d7] 28 → Calls Tryz.prog 46 #[.slice (some ⟨B, 0, none⟩) 4 4] w1 fun e w' => e = .returned (.int .i64 0) ∧ Below w1.heap.size w1 w'))
  (H1 : Hid (∀ w1, Calls Tryz.prog 47 #[.agg #[.bool n0, .string s0, .string d0, .bool n1, .string s1, .string d1], .agg #[.bool n2, .string s2, .string d2, .bool n3, .string s3, .string d3], .agg #[.bool n4, .string s4, .string d4, .bool n5, .string s5, .string d5], .agg #[.bool n6, .string s6, .string d6, .bool n7, .string s7, .string d7]] w1 fun e w' => e = .returned (.int .i64 (G)) ∧ Below w1.heap.size w1 w')) :
  Calls Tryz.prog 11 #[.agg #[.bool n0, .string s0, .string d0, .bool n1, .string s1, .string d1], .agg #[.bool n2, .string s2, .string d2, .bool n3, .string s3, .string d3], .agg #[.bool n4, .string s4, .string d4, .bool n5, .string s5, .string d5], .agg #[.bool n6, .string s6, .string d6, .bool n7, .string s7, .string d7]] w fun e w' => e = .returned (.tuple #[.int .i64 G, .int .i64 0]) ∧ Below w.heap.size w w' := by
 go_enter Tryz.func11, Tryz.ntmps11
 go_wp2_with fail
 obtain ⟨w0, hw, ka, kb, kc, kd, kl, bb⟩ := mk5 w [.bool n0, .string s0, .string d0, .bool n1, .string s1, .string d1] [.bool n2, .string s2, .string d2, .bool n3, .string s3, .string d3] [.bool n4, .string s4, .string d4, .bool n5, .string s5, .string d5] [.bool n6, .string s6, .string d6, .bool n7, .string s7, .string d7] [.bool n0, .string s0, .string d0, .bool n1, .string s1, .string d1, .bool n2, .string s2, .string d2, .bool n3, .string s3, .string d3, .bool n4, .string s4, .string d4, .bool n5, .string s5, .string d5, .bool n6, .string s6, .string d6, .bool n7, .string s7, .string d7] 28 28 28 28 28
 rw [← hw]
 clear hw
 go_fit (HC.out _ _ bb kl)
 rintro e w1 ⟨rfl, b1⟩
 replace ka := ka.below b1
 replace kb := kb.below b1
 replace kc := kc.below b1
 replace kd := kd.below b1
 replace bb := Below.after bb b1
 clear b1 kl
 have ca0 := cel6_0 ka
 have ca1 := cel6_1 ka
 have ca2 := cel6_2 ka
 have ca3 := cel6_3 ka
 have ca4 := cel6_4 ka
 have ca5 := cel6_5 ka
 have cb0 := cel6_0 kb
 have cb1 := cel6_1 kb
 have cb2 := cel6_2 kb
 have cb3 := cel6_3 kb
 have cb4 := cel6_4 kb
 have cb5 := cel6_5 kb
 have cc0 := cel6_0 kc
 have cc1 := cel6_1 kc
 have cc2 := cel6_2 kc
 have cc3 := cel6_3 kc
 have cc4 := cel6_4 kc
 have cc5 := cel6_5 kc
 have cd0 := cel6_0 kd
 have cd1 := cel6_1 kd
 have cd2 := cel6_2 kd
 have cd3 := cel6_3 kd
 have cd4 := cel6_4 kd
 have cd5 := cel6_5 kd
 go_wp2_with fail
 go_fit (H1.out _)
 rintro e w2 ⟨rfl, b1⟩
 replace bb := Below.after bb b1
 clear ca0 ca1 ca2 ca3 ca4 ca5 cb0 cb1 cb2 cb3 cb4 cb5 cc0 cc1 cc2 cc3 cc4 cc5 cd0 cd1 cd2 cd3 cd4 cd5
 go_wp2
 go_ret2
 exact ⟨rfl, bb⟩
theorem sg_wrap (r s : Rat) : IntKind.i64.wrap (Gm.sg r * Gm.sg s) = Gm.sg r * Gm.sg s := by
 rw [IntKind.wrap_i64]
 rcases sg_small r with h | h | h <;> rcases sg_small s with h' | h' | h' <;> rw [h, h'] <;> rfl
theorem gOrient_an (n0 n1 n2 n3 n4 n5 : Bool) (s0 d0 s1 d1 s2 d2 s3 d3 s4 d4 s5 d5 : ByteArray) (w : World) (hT : Tab w) (z0 : s0.size ≤ 100 ∧ d0.size ≤ 100) (z1 : s1.size ≤ 100 ∧ d1.size ≤ 100) (z2 : s2.size ≤ 100 ∧ d2.size ≤ 100) (z3 : s3.size ≤ 100 ∧ d3.size ≤ 100) (z4 : s4.size ≤ 100 ∧ d4.size ≤ 100) (z5 : s5.size ≤ 100 ∧ d5.size ≤ 100) (hE : two (two (twoq n0 s0 d0 n1 s1 d1) (twoq n2 s2 d2 n3 s3 d3)) (twoq n4 s4 d4 n5 s5 d5) = 0) :
  Calls Tryz.prog 20 #[.agg #[.bool n0, .string s0, .string d0, .bool n1, .string s1, .string d1], .agg #[.bool n2, .string s2, .string d2, .bool n3, .string s3, .string d3], .agg #[.bool n4, .string s4, .string d4, .bool n5, .string s5, .string d5]] w fun e w' => e = .returned (.tuple #[.int .i64 (Gm.sg (Gm.cr (qOf n0 s0 d0) (qOf n1 s1 d1) (qOf n2 s2 d2) (qOf n3 s3 d3) (qOf n4 s4 d4) (qOf n5 s5 d5))), .int .i64 0]) ∧ Below w.heap.size w w' := by
 have hE' := hE
 have ho : OkQ n0 s0 d0 ∧ OkQ n1 s1 d1 ∧ OkQ n2 s2 d2 ∧ OkQ n3 s3 d3 ∧ OkQ n4 s4 d4 ∧ OkQ n5 s5 d5 := by
  simp only [two_zero, twoq_zero] at hE
  obtain ⟨⟨⟨a0, a1⟩, a2, a3⟩, a4, a5⟩ := hE
  exact ⟨(chkq_zero a0).1, (chkq_zero a1).1, (chkq_zero a2).1, (chkq_zero a3).1, (chkq_zero a4).1, (chkq_zero a5).1⟩
 obtain ⟨o0, o1, o2, o3, o4, o5⟩ := ho
 exact gOrient_ok n0 n1 n2 n3 n4 n5 s0 d0 s1 d1 s2 d2 s3 d3 s4 d4 s5 d5 _ w (fun w1 B b h => by have := scheck3 B n0 n1 n2 n3 n4 n5 s0 d0 s1 d1 s2 d2 s3 d3 s4 d4 s5 d5 w1 (hT.below b) h z0 z1 z2 z3 z4 z5; rwa [hE'] at this) (fun w1 => sturn_any n0 n1 n2 n3 n4 n5 s0 d0 s1 d1 s2 d2 s3 d3 s4 d4 s5 d5 w1 o0 o1 o2 o3 o4 o5 z0 z1 z2 z3 z4 z5)
theorem gCircle_an (n0 n1 n2 n3 n4 n5 n6 n7 : Bool) (s0 d0 s1 d1 s2 d2 s3 d3 s4 d4 s5 d5 s6 d6 s7 d7 : ByteArray) (w : World) (hT : Tab w) (z0 : s0.size ≤ 100 ∧ d0.size ≤ 100) (z1 : s1.size ≤ 100 ∧ d1.size ≤ 100) (z2 : s2.size ≤ 100 ∧ d2.size ≤ 100) (z3 : s3.size ≤ 100 ∧ d3.size ≤ 100) (z4 : s4.size ≤ 100 ∧ d4.size ≤ 100) (z5 : s5.size ≤ 100 ∧ d5.size ≤ 100) (z6 : s6.size ≤ 100 ∧ d6.size ≤ 100) (z7 : s7.size ≤ 100 ∧ d7.size ≤ 100) (hE : two (two (two (twoq n0 s0 d0 n1 s1 d1) (twoq n2 s2 d2 n3 s3 d3)) (twoq n4 s4 d4 n5 s5 d5)) (twoq n6 s6 d6 n7 s7 d7) = 0) :
  Calls Tryz.prog 21 #[.agg #[.bool n0, .string s0, .string d0, .bool n1, .string s1, .string d1], .agg #[.bool n2, .string s2, .string d2, .bool n3, .string s3, .string d3], .agg #[.bool n4, .string s4, .string d4, .bool n5, .string s5, .string d5], .agg #[.bool n6, .string s6, .string d6, .bool n7, .string s7, .string d7]] w fun e w' => e = .returned (if Gm.sg (Gm.cr (qOf n0 s0 d0) (qOf n1 s1 d1) (qOf n2 s2 d2) (qOf n3 s3 d3) (qOf n4 s4 d4) (qOf n5 s5 d5)) = 0 then .tuple #[.int .i64 0, .int .i64 6] else .tuple #[.int .i64 (Gm.sg (Gm.cr (qOf n0 s0 d0) (qOf n1 s1 d1) (qOf n2 s2 d2) (qOf n3 s3 d3) (qOf n4 s4 d4) (qOf n5 s5 d5)) * Gm.sg (Gm.ci (qOf n0 s0 d0) (qOf n1 s1 d1) (qOf n2 s2 d2) (qOf n3 s3 d3) (qOf n4 s4 d4) (qOf n5 s5 d5) (qOf n6 s6 d6) (qOf n7 s7 d7))), .int .i64 0]) ∧ Below w.heap.size w w' := by
 have hE' := hE
 have ho : OkQ n0 s0 d0 ∧ OkQ n1 s1 d1 ∧ OkQ n2 s2 d2 ∧ OkQ n3 s3 d3 ∧ OkQ n4 s4 d4 ∧ OkQ n5 s5 d5 ∧ OkQ n6 s6 d6 ∧ OkQ n7 s7 d7 := by
  simp only [two_zero, twoq_zero] at hE
  obtain ⟨⟨⟨⟨a0, a1⟩, a2, a3⟩, a4, a5⟩, a6, a7⟩ := hE
  exact ⟨(chkq_zero a0).1, (chkq_zero a1).1, (chkq_zero a2).1, (chkq_zero a3).1, (chkq_zero a4).1, (chkq_zero a5).1, (chkq_zero a6).1, (chkq_zero a7).1⟩
 obtain ⟨o0, o1, o2, o3, o4, o5, o6, o7⟩ := ho
 by_cases h0 : Gm.sg (Gm.cr (qOf n0 s0 d0) (qOf n1 s1 d1) (qOf n2 s2 d2) (qOf n3 s3 d3) (qOf n4 s4 d4) (qOf n5 s5 d5)) = 0
 ·rw [if_pos h0]
  exact gCircle_flat n0 n1 n2 n3 n4 n5 n6 n7 s0 d0 s1 d1 s2 d2 s3 d3 s4 d4 s5 d5 s6 d6 s7 d7 w (fun w1 B b h => by have := scheck4 B n0 n1 n2 n3 n4 n5 n6 n7 s0 d0 s1 d1 s2 d2 s3 d3 s4 d4 s5 d5 s6 d6 s7 d7 w1 (hT.below b) h z0 z1 z2 z3 z4 z5 z6 z7; rwa [hE'] at this) (fun w1 => by have := sturn_any n0 n1 n2 n3 n4 n5 s0 d0 s1 d1 s2 d2 s3 d3 s4 d4 s5 d5 w1 o0 o1 o2 o3 o4 o5 z0 z1 z2 z3 z4 z5; rwa [h0] at this)
 ·rw [if_neg h0]
  exact gCircle_ok n0 n1 n2 n3 n4 n5 n6 n7 s0 d0 s1 d1 s2 d2 s3 d3 s4 d4 s5 d5 s6 d6 s7 d7 _ _ w h0 (sg_wrap _ _) (fun w1 B b h => by have := scheck4 B n0 n1 n2 n3 n4 n5 n6 n7 s0 d0 s1 d1 s2 d2 s3 d3 s4 d4 s5 d5 s6 d6 s7 d7 w1 (hT.below b) h z0 z1 z2 z3 z4 z5 z6 z7; rwa [hE'] at this) (fun w1 => sturn_any n0 n1 n2 n3 n4 n5 s0 d0 s1 d1 s2 d2 s3 d3 s4 d4 s5 d5 w1 o0 o1 o2 o3 o4 o5 z0 z1 z2 z3 z4 z5) (fun w1 => scircle_any n0 n1 n2 n3 n4 n5 n6 n7 s0 d0 s1 d1 s2 d2 s3 d3 s4 d4 s5 d5 s6 d6 s7 d7 w1 o0 o1 o2 o3 o4 o5 o6 o7 z0 z1 z2 z3 z4 z5 z6 z7)
theorem gMeet_an (n0 n1 n2 n3 n4 n5 n6 n7 : Bool) (s0 d0 s1 d1 s2 d2 s3 d3 s4 d4 s5 d5 s6 d6 s7 d7 : ByteArray) (w : World) (hT : Tab w) (z0 : s0.size ≤ 100 ∧ d0.size ≤ 100) (z1 : s1.size ≤ 100 ∧ d1.size ≤ 100) (z2 : s2.size ≤ 100 ∧ d2.size ≤ 100) (z3 : s3.size ≤ 100 ∧ d3.size ≤ 100) (z4 : s4.size ≤ 100 ∧ d4.size ≤ 100) (z5 : s5.size ≤ 100 ∧ d5.size ≤ 100) (z6 : s6.size ≤ 100 ∧ d6.size ≤ 100) (z7 : s7.size ≤ 100 ∧ d7.size ≤ 100) (hE : two (two (two (twoq n0 s0 d0 n1 s1 d1) (twoq n2 s2 d2 n3 s3 d3)) (twoq n4 s4 d4 n5 s5 d5)) (twoq n6 s6 d6 n7 s7 d7) = 0) :
  Calls Tryz.prog 11 #[.agg #[.bool n0, .string s0, .string d0, .bool n1, .string s1, .string d1], .agg #[.bool n2, .string s2, .string d2, .bool n3, .string s3, .string d3], .agg #[.bool n4, .string s4, .string d4, .bool n5, .string s5, .string d5], .agg #[.bool n6, .string s6, .string d6, .bool n7, .string s7, .string d7]] w fun e w' => e = .returned (.tuple #[.int .i64 (mt (Gm.sg (Gm.cr (qOf n0 s0 d0) (qOf n1 s1 d1) (qOf n2 s2 d2) (qOf n3 s3 d3) (qOf n4 s4 d4) (qOf n5 s5 d5))) (Gm.sg (Gm.cr (qOf n0 s0 d0) (qOf n1 s1 d1) (qOf n2 s2 d2) (qOf n3 s3 d3) (qOf n6 s6 d6) (qOf n7 s7 d7))) (Gm.sg (Gm.cr (qOf n4 s4 d4) (qOf n5 s5 d5) (qOf n6 s6 d6) (qOf n7 s7 d7) (qOf n0 s0 d0) (qOf n1 s1 d1))) (Gm.sg (Gm.cr (qOf n4 s4 d4) (qOf n5 s5 d5) (qOf n6 s6 d6) (qOf n7 s7 d7) (qOf n2 s2 d2) (qOf n3 s3 d3))) (-(Gm.sg (Gm.dt (qOf n0 s0 d0) (qOf n1 s1 d1) (qOf n2 s2 d2) (qOf n3 s3 d3) (qOf n4 s4 d4) (qOf n5 s5 d5)))) (-(Gm.sg (Gm.dt (qOf n0 s0 d0) (qOf n1 s1 d1) (qOf n2 s2 d2) (qOf n3 s3 d3) (qOf n6 s6 d6) (qOf n7 s7 d7)))) (-(Gm.sg (Gm.dt (qOf n4 s4 d4) (qOf n5 s5 d5) (qOf n6 s6 d6) (qOf n7 s7 d7) (qOf n0 s0 d0) (qOf n1 s1 d1)))) (-(Gm.sg (Gm.dt (qOf n4 s4 d4) (qOf n5 s5 d5) (qOf n6 s6 d6) (qOf n7 s7 d7) (qOf n2 s2 d2) (qOf n3 s3 d3))))), .int .i64 0]) ∧ Below w.heap.size w w' := by
 have hE' := hE
 have ho : OkQ n0 s0 d0 ∧ OkQ n1 s1 d1 ∧ OkQ n2 s2 d2 ∧ OkQ n3 s3 d3 ∧ OkQ n4 s4 d4 ∧ OkQ n5 s5 d5 ∧ OkQ n6 s6 d6 ∧ OkQ n7 s7 d7 := by
  simp only [two_zero, twoq_zero] at hE
  obtain ⟨⟨⟨⟨a0, a1⟩, a2, a3⟩, a4, a5⟩, a6, a7⟩ := hE
  exact ⟨(chkq_zero a0).1, (chkq_zero a1).1, (chkq_zero a2).1, (chkq_zero a3).1, (chkq_zero a4).1, (chkq_zero a5).1, (chkq_zero a6).1, (chkq_zero a7).1⟩
 obtain ⟨o0, o1, o2, o3, o4, o5, o6, o7⟩ := ho
 exact gMeet_ok n0 n1 n2 n3 n4 n5 n6 n7 s0 d0 s1 d1 s2 d2 s3 d3 s4 d4 s5 d5 s6 d6 s7 d7 _ w (fun w1 B b h => by have := scheck4 B n0 n1 n2 n3 n4 n5 n6 n7 s0 d0 s1 d1 s2 d2 s3 d3 s4 d4 s5 d5 s6 d6 s7 d7 w1 (hT.below b) h z0 z1 z2 z3 z4 z5 z6 z7; rwa [hE'] at this) (fun w1 => meeting_walk n0 n1 n2 n3 n4 n5 n6 n7 s0 d0 s1 d1 s2 d2 s3 d3 s4 d4 s5 d5 s6 d6 s7 d7 _ _ _ _ _ _ _ _ w1 (sg_wrap _ _) (sg_wrap _ _) (fun w1 => sturn_any n0 n1 n2 n3 n4 n5 s0 d0 s1 d1 s2 d2 s3 d3 s4 d4 s5 d5 w1 o0 o1 o2 o3 o4 o5 z0 z1 z2 z3 z4 z5) (fun w1 => sturn_any n0 n1 n2 n3 n6 n7 s0 d0 s1 d1 s2 d2 s3 d3 s6 d6 s7 d7 w1 o0 o1 o2 o3 o6 o7 z0 z1 z2 z3 z6 z7) (fun w1 => sturn_any n4 n5 n6 n7 n0 n1 s4 d4 s5 d5 s6 d6 s7 d7 s0 d0 s1 d1 w1 o4 o5 o6 o7 o0 o1 z4 z5 z6 z7 z0 z1) (fun w1 => sturn_any n4 n5 n6 n7 n2 n3 s4 d4 s5 d5 s6 d6 s7 d7 s2 d2 s3 d3 w1 o4 o5 o6 o7 o2 o3 z4 z5 z6 z7 z2 z3) (fun w1 => about_any n0 n1 n2 n3 n4 n5 s0 d0 s1 d1 s2 d2 s3 d3 s4 d4 s5 d5 w1 o0 o1 o2 o3 o4 o5 z0 z1 z2 z3 z4 z5) (fun w1 => about_any n0 n1 n2 n3 n6 n7 s0 d0 s1 d1 s2 d2 s3 d3 s6 d6 s7 d7 w1 o0 o1 o2 o3 o6 o7 z0 z1 z2 z3 z6 z7) (fun w1 => about_any n4 n5 n6 n7 n0 n1 s4 d4 s5 d5 s6 d6 s7 d7 s0 d0 s1 d1 w1 o4 o5 o6 o7 o0 o1 z4 z5 z6 z7 z0 z1) (fun w1 => about_any n4 n5 n6 n7 n2 n3 s4 d4 s5 d5 s6 d6 s7 d7 s2 d2 s3 d3 w1 o4 o5 o6 o7 o2 o3 z4 z5 z6 z7 z2 z3))
end Go.Proofs.YtafikdacdfkkhaaGreatDoor
namespace Go.Proofs.YtafikdacdfkkhaaGreatDoor
open Go.RowKit

set_option maxRecDepth 100000 in
set_option maxHeartbeats 8000000 in
theorem live5_walk (n10 n11 n12 n13 n14 n15 n16 n17 n18 n19 n20 n21 n22 n23 : Bool) (s10 d10 s11 d11 s12 d12 s13 d13 s14 d14 s15 d15 s16 d16 s17 d17 s18 d18 s19 d19 s20 d20 s21 d21 s22 d22 s23 d23 : ByteArray) (w : World)
  (A00 : Hid (∀ w1, Calls Tryz.prog 45 #[.int .i64 0, .int .i64 0] w1 fun e w' => e = .returned (.agg #[.bool n10, .string s10, .string d10, .bool n11, .string s11, .string d11]) ∧ Below w1.heap.size w1 w'))
  (A20 : Hid (∀ w1, Calls Tryz.prog 45 #[.int .i64 2, .int .i64 0] w1 fun e w' => e = .returned (.agg #[.bool n12, .string s12, .string d12, .bool n13, .string s13, .string d13]) ∧ Below w1.heap.size w1 w'))
  (A02 : Hid (∀ w1, Calls Tryz.prog 45 #[.int .i64 0, .int .i64 2] w1 fun e w' => e = .returned (.agg #[.bool n14, .string s14, .string d14, .bool n15, .string s15, .string d15]) ∧ Below w1.heap.size w1 w'))
  (A11 : Hid (∀ w1, Calls Tryz.prog 45 #[.int .i64 1, .int .i64 1] w1 fun e w' => e = .returned (.agg #[.bool n16, .string s16, .string d16, .bool n17, .string s17, .string d17]) ∧ Below w1.heap.size w1 w'))
  (A22 : Hid (∀ w1, Calls Tryz.prog 45 #[.int .i64 2, .int .i64 2] w1 fun e w' => e = .returned (.agg #[.bool n18, .string s18, .string d18, .bool n19, .string s19, .string d19]) ∧ Below w1.heap.size w1 w'))
  (A10 : Hid (∀ w1, Calls Tryz.prog 45 #[.int .i64 1, .int .i64 0] w1 fun e w' => e = .returned (.agg #[.bool n20, .string s20, .string d20, .bool n21, .string s21, .string d21]) ∧ Below w1.heap.size w1 w'))
  (A01 : Hid (∀ w1, Calls Tryz.prog 45 #[.int .i64 0, .int .i64 1] w1 fun e w' => e = .returned (.agg #[.bool n22, .string s22, .string d22, .bool n23, .string s23, .string d23]) ∧ Below w1.heap.size w1 w'))
  (C1 : Hid (∀ w1, Below w.heap.size w w1 → Calls Tryz.prog 21 #[.agg #[.bool n10, .string s10, .string d10, .bool n11, .string s11, .string d11], .agg #[.bool n12, .string s12, .string d12, .bool n13, .string s13, .string d13], .agg #[.bool n14, .string s14, .string d14, .bool n15, .string s15, .string d15], .agg #[.bool n16, .string s16, .string d16, .bool n17, .string s17, .string d17]] w1 fun e w' => e = .returned (.tuple #[.int .i64 1, .int .i64 0]) ∧ Below w1.heap.size w1 w'))
  (C2 : Hid (∀ w1, Below w.heap.size w w1 → Calls Tryz.prog 11 #[.agg #[.bool n10, .string s10, .string d10, .bool n11, .string s11, .string d11], .agg #[.bool n18, .string s18, .string d18, .bool n19, .string s19, .string d19], .agg #[.bool n14, .string s14, .string d14, .bool n15, .string s15, .string d15], .agg #[.bool n12, .string s12, .string d12, .bool n13, .string s13, .string d13]] w1 fun e w' => e = .returned (.tuple #[.int .i64 1, .int .i64 0]) ∧ Below w1.heap.size w1 w'))
  (C3 : Hid (∀ w1, Below w.heap.size w w1 → Calls Tryz.prog 21 #[.agg #[.bool n10, .string s10, .string d10, .bool n11, .string s11, .string d11], .agg #[.bool n20, .string s20, .string d20, .bool n21, .string s21, .string d21], .agg #[.bool n12, .string s12, .string d12, .bool n13, .string s13, .string d13], .agg #[.bool n16, .string s16, .string d16, .bool n17, .string s17, .string d17]] w1 fun e w' => e = .returned (.tuple #[.int .i64 0, .int .i64 6]) ∧ Below w1.heap.size w1 w'))
  (C4 : Hid (∀ w1, Below w.heap.size w w1 → Calls Tryz.prog 20 #[.agg #[.bool n10, .string s10, .string d10, .bool n11, .string s11, .string d11], .agg #[.bool n20, .string s20, .string d20, .bool n21, .string s21, .string d21], .agg #[.bool n22, .string s22, .string d22, .bool n23, .string s23, .string d23]] w1 fun e w' => e = .returned (.tuple #[.int .i64 1, .int .i64 0]) ∧ Below w1.heap.size w1 w')) :
  Calls Tryz.prog 10 #[] w fun e w' => e = .returned (.bool true) ∧ Below w.heap.size w w' := by
 go_enter Tryz.func10, Tryz.ntmps10
 have bb := Below.refl w.heap.size w
 go_wp2_with fail
 go_fit (A00.out _)
 rintro e w1 ⟨rfl, b1⟩
 replace bb := Below.after bb b1
 clear b1
 go_wp2_with fail
 go_fit (A20.out _)
 rintro e w2 ⟨rfl, b1⟩
 replace bb := Below.after bb b1
 clear b1
 go_wp2_with fail
 go_fit (A02.out _)
 rintro e w3 ⟨rfl, b1⟩
 replace bb := Below.after bb b1
 clear b1
 go_wp2_with fail
 go_fit (A11.out _)
 rintro e w4 ⟨rfl, b1⟩
 replace bb := Below.after bb b1
 clear b1
 go_wp2_with fail
 go_fit (C1.out _ bb)
 rintro e w5 ⟨rfl, b1⟩
 replace bb := Below.after bb b1
 clear b1
 go_wp2_with fail
 go_fit (A00.out _)
 rintro e w6 ⟨rfl, b1⟩
 replace bb := Below.after bb b1
 clear b1
 go_wp2_with fail
 go_fit (A22.out _)
 rintro e w7 ⟨rfl, b1⟩
 replace bb := Below.after bb b1
 clear b1
 go_wp2_with fail
 go_fit (A02.out _)
 rintro e w8 ⟨rfl, b1⟩
 replace bb := Below.after bb b1
 clear b1
 go_wp2_with fail
 go_fit (A20.out _)
 rintro e w9 ⟨rfl, b1⟩
 replace bb := Below.after bb b1
 clear b1
 go_wp2_with fail
 go_fit (C2.out _ bb)
 rintro e w10 ⟨rfl, b1⟩
 replace bb := Below.after bb b1
 clear b1
 go_wp2_with fail
 go_fit (A00.out _)
 rintro e w11 ⟨rfl, b1⟩
 replace bb := Below.after bb b1
 clear b1
 go_wp2_with fail
 go_fit (A10.out _)
 rintro e w12 ⟨rfl, b1⟩
 replace bb := Below.after bb b1
 clear b1
 go_wp2_with fail
 go_fit (A20.out _)
 rintro e w13 ⟨rfl, b1⟩
 replace bb := Below.after bb b1
 clear b1
 go_wp2_with fail
 go_fit (A11.out _)
 rintro e w14 ⟨rfl, b1⟩
 replace bb := Below.after bb b1
 clear b1
 go_wp2_with fail
 go_fit (C3.out _ bb)
 rintro e w15 ⟨rfl, b1⟩
 replace bb := Below.after bb b1
 clear b1
 go_wp2_with fail
 go_fit (A00.out _)
 rintro e w16 ⟨rfl, b1⟩
 replace bb := Below.after bb b1
 clear b1
 go_wp2_with fail
 go_fit (A10.out _)
 rintro e w17 ⟨rfl, b1⟩
 replace bb := Below.after bb b1
 clear b1
 go_wp2_with fail
 go_fit (A01.out _)
 rintro e w18 ⟨rfl, b1⟩
 replace bb := Below.after bb b1
 clear b1
 go_wp2_with fail
 go_fit (C4.out _ bb)
 rintro e w19 ⟨rfl, b1⟩
 replace bb := Below.after bb b1
 clear b1
 go_wp2
 go_ret
 exact ⟨rfl, bb⟩
theorem sz5_int (z : Int) (h1 : -200 ≤ z) (h2 : z ≤ 200) : (sfZ z).size ≤ 100 ∧ (⟨#[1]⟩ : ByteArray).size ≤ 100 := by
 refine ⟨Nat.le_trans (Bd.size (k := 1) ?_) (by omega), by decide⟩
 unfold Bd
 simp
 omega
theorem live5_any (w : World) (hT : Tab w) : Calls Tryz.prog 10 #[] w fun e w' => e = .returned (.bool true) ∧ Below w.heap.size w w' := by
 refine live5_walk (nfZ 0) (nfZ 0) (nfZ 2) (nfZ 0) (nfZ 0) (nfZ 2) (nfZ 1) (nfZ 1) (nfZ 2) (nfZ 2) (nfZ 1) (nfZ 0) (nfZ 0) (nfZ 1) (sfZ 0) ⟨#[1]⟩ (sfZ 0) ⟨#[1]⟩ (sfZ 2) ⟨#[1]⟩ (sfZ 0) ⟨#[1]⟩ (sfZ 0) ⟨#[1]⟩ (sfZ 2) ⟨#[1]⟩ (sfZ 1) ⟨#[1]⟩ (sfZ 1) ⟨#[1]⟩ (sfZ 2) ⟨#[1]⟩ (sfZ 2) ⟨#[1]⟩ (sfZ 1) ⟨#[1]⟩ (sfZ 0) ⟨#[1]⟩ (sfZ 0) ⟨#[1]⟩ (sfZ 1) ⟨#[1]⟩ w ?_ ?_ ?_ ?_ ?_ ?_ ?_ ?_ ?_ ?_ ?_
 ·exact fun w1 => lat5_any 0 0 (by omega) (by omega) (by omega) (by omega) w1
 ·exact fun w1 => lat5_any 2 0 (by omega) (by omega) (by omega) (by omega) w1
 ·exact fun w1 => lat5_any 0 2 (by omega) (by omega) (by omega) (by omega) w1
 ·exact fun w1 => lat5_any 1 1 (by omega) (by omega) (by omega) (by omega) w1
 ·exact fun w1 => lat5_any 2 2 (by omega) (by omega) (by omega) (by omega) w1
 ·exact fun w1 => lat5_any 1 0 (by omega) (by omega) (by omega) (by omega) w1
 ·exact fun w1 => lat5_any 0 1 (by omega) (by omega) (by omega) (by omega) w1
 ·intro w1 b
  have := gCircle_an (nfZ 0) (nfZ 0) (nfZ 2) (nfZ 0) (nfZ 0) (nfZ 2) (nfZ 1) (nfZ 1) (sfZ 0) ⟨#[1]⟩ (sfZ 0) ⟨#[1]⟩ (sfZ 2) ⟨#[1]⟩ (sfZ 0) ⟨#[1]⟩ (sfZ 0) ⟨#[1]⟩ (sfZ 2) ⟨#[1]⟩ (sfZ 1) ⟨#[1]⟩ (sfZ 1) ⟨#[1]⟩ w1 (hT.below b) (sz5_int 0 (by omega) (by omega)) (sz5_int 0 (by omega) (by omega)) (sz5_int 2 (by omega) (by omega)) (sz5_int 0 (by omega) (by omega)) (sz5_int 0 (by omega) (by omega)) (sz5_int 2 (by omega) (by omega)) (sz5_int 1 (by omega) (by omega)) (sz5_int 1 (by omega) (by omega)) (two_zero.2 ⟨(two_zero.2 ⟨(two_zero.2 ⟨(twoq_zero.2 ⟨chk_int 0 (by omega) (by omega), chk_int 0 (by omega) (by omega)⟩), twoq_zero.2 ⟨chk_int 2 (by omega) (by omega), chk_int 0 (by omega) (by omega)⟩⟩), twoq_zero.2 ⟨chk_int 0 (by omega) (by omega), chk_int 2 (by omega) (by omega)⟩⟩), twoq_zero.2 ⟨chk_int 1 (by omega) (by omega), chk_int 1 (by omega) (by omega)⟩⟩)
  simp only [qOf_int] at this
  rw [if_neg (show ¬ Gm.sg (Gm.cr ((0 : Int) : Rat) ((0 : Int) : Rat) ((2 : Int) : Rat) ((0 : Int) : Rat) ((0 : Int) : Rat) ((2 : Int) : Rat)) = 0 by decide +kernel), show Gm.sg (Gm.cr ((0 : Int) : Rat) ((0 : Int) : Rat) ((2 : Int) : Rat) ((0 : Int) : Rat) ((0 : Int) : Rat) ((2 : Int) : Rat)) = 1 by decide +kernel, show Gm.sg (Gm.ci ((0 : Int) : Rat) ((0 : Int) : Rat) ((2 : Int) : Rat) ((0 : Int) : Rat) ((0 : Int) : Rat) ((2 : Int) : Rat) ((1 : Int) : Rat) ((1 : Int) : Rat)) = 1 by decide +kernel] at this
  exact this
 ·intro w1 b
  have := gMeet_an (nfZ 0) (nfZ 0) (nfZ 2) (nfZ 2) (nfZ 0) (nfZ 2) (nfZ 2) (nfZ 0) (sfZ 0) ⟨#[1]⟩ (sfZ 0) ⟨#[1]⟩ (sfZ 2) ⟨#[1]⟩ (sfZ 2) ⟨#[1]⟩ (sfZ 0) ⟨#[1]⟩ (sfZ 2) ⟨#[1]⟩ (sfZ 2) ⟨#[1]⟩ (sfZ 0) ⟨#[1]⟩ w1 (hT.below b) (sz5_int 0 (by omega) (by omega)) (sz5_int 0 (by omega) (by omega)) (sz5_int 2 (by omega) (by omega)) (sz5_int 2 (by omega) (by omega)) (sz5_int 0 (by omega) (by omega)) (sz5_int 2 (by omega) (by omega)) (sz5_int 2 (by omega) (by omega)) (sz5_int 0 (by omega) (by omega)) (two_zero.2 ⟨(two_zero.2 ⟨(two_zero.2 ⟨(twoq_zero.2 ⟨chk_int 0 (by omega) (by omega), chk_int 0 (by omega) (by omega)⟩), twoq_zero.2 ⟨chk_int 2 (by omega) (by omega), chk_int 2 (by omega) (by omega)⟩⟩), twoq_zero.2 ⟨chk_int 0 (by omega) (by omega), chk_int 2 (by omega) (by omega)⟩⟩), twoq_zero.2 ⟨chk_int 2 (by omega) (by omega), chk_int 0 (by omega) (by omega)⟩⟩)
  simp only [qOf_int] at this
  rw [show mt (Gm.sg (Gm.cr ((0 : Int) : Rat) ((0 : Int) : Rat) ((2 : Int) : Rat) ((2 : Int) : Rat) ((0 : Int) : Rat) ((2 : Int) : Rat))) (Gm.sg (Gm.cr ((0 : Int) : Rat) ((0 : Int) : Rat) ((2 : Int) : Rat) ((2 : Int) : Rat) ((2 : Int) : Rat) ((0 : Int) : Rat))) (Gm.sg (Gm.cr ((0 : Int) : Rat) ((2 : Int) : Rat) ((2 : Int) : Rat) ((0 : Int) : Rat) ((0 : Int) : Rat) ((0 : Int) : Rat))) (Gm.sg (Gm.cr ((0 : Int) : Rat) ((2 : Int) : Rat) ((2 : Int) : Rat) ((0 : Int) : Rat) ((2 : Int) : Rat) ((2 : Int) : Rat))) (-(Gm.sg (Gm.dt ((0 : Int) : Rat) ((0 : Int) : Rat) ((2 : Int) : Rat) ((2 : Int) : Rat) ((0 : Int) : Rat) ((2 : Int) : Rat)))) (-(Gm.sg (Gm.dt ((0 : Int) : Rat) ((0 : Int) : Rat) ((2 : Int) : Rat) ((2 : Int) : Rat) ((2 : Int) : Rat) ((0 : Int) : Rat)))) (-(Gm.sg (Gm.dt ((0 : Int) : Rat) ((2 : Int) : Rat) ((2 : Int) : Rat) ((0 : Int) : Rat) ((0 : Int) : Rat) ((0 : Int) : Rat)))) (-(Gm.sg (Gm.dt ((0 : Int) : Rat) ((2 : Int) : Rat) ((2 : Int) : Rat) ((0 : Int) : Rat) ((2 : Int) : Rat) ((2 : Int) : Rat)))) = 1 by decide +kernel] at this
  exact this
 ·intro w1 b
  have := gCircle_an (nfZ 0) (nfZ 0) (nfZ 1) (nfZ 0) (nfZ 2) (nfZ 0) (nfZ 1) (nfZ 1) (sfZ 0) ⟨#[1]⟩ (sfZ 0) ⟨#[1]⟩ (sfZ 1) ⟨#[1]⟩ (sfZ 0) ⟨#[1]⟩ (sfZ 2) ⟨#[1]⟩ (sfZ 0) ⟨#[1]⟩ (sfZ 1) ⟨#[1]⟩ (sfZ 1) ⟨#[1]⟩ w1 (hT.below b) (sz5_int 0 (by omega) (by omega)) (sz5_int 0 (by omega) (by omega)) (sz5_int 1 (by omega) (by omega)) (sz5_int 0 (by omega) (by omega)) (sz5_int 2 (by omega) (by omega)) (sz5_int 0 (by omega) (by omega)) (sz5_int 1 (by omega) (by omega)) (sz5_int 1 (by omega) (by omega)) (two_zero.2 ⟨(two_zero.2 ⟨(two_zero.2 ⟨(twoq_zero.2 ⟨chk_int 0 (by omega) (by omega), chk_int 0 (by omega) (by omega)⟩), twoq_zero.2 ⟨chk_int 1 (by omega) (by omega), chk_int 0 (by omega) (by omega)⟩⟩), twoq_zero.2 ⟨chk_int 2 (by omega) (by omega), chk_int 0 (by omega) (by omega)⟩⟩), twoq_zero.2 ⟨chk_int 1 (by omega) (by omega), chk_int 1 (by omega) (by omega)⟩⟩)
  simp only [qOf_int] at this
  rw [if_pos (show Gm.sg (Gm.cr ((0 : Int) : Rat) ((0 : Int) : Rat) ((1 : Int) : Rat) ((0 : Int) : Rat) ((2 : Int) : Rat) ((0 : Int) : Rat)) = 0 by decide +kernel)] at this
  exact this
 ·intro w1 b
  have := gOrient_an (nfZ 0) (nfZ 0) (nfZ 1) (nfZ 0) (nfZ 0) (nfZ 1) (sfZ 0) ⟨#[1]⟩ (sfZ 0) ⟨#[1]⟩ (sfZ 1) ⟨#[1]⟩ (sfZ 0) ⟨#[1]⟩ (sfZ 0) ⟨#[1]⟩ (sfZ 1) ⟨#[1]⟩ w1 (hT.below b) (sz5_int 0 (by omega) (by omega)) (sz5_int 0 (by omega) (by omega)) (sz5_int 1 (by omega) (by omega)) (sz5_int 0 (by omega) (by omega)) (sz5_int 0 (by omega) (by omega)) (sz5_int 1 (by omega) (by omega)) (two_zero.2 ⟨(two_zero.2 ⟨(twoq_zero.2 ⟨chk_int 0 (by omega) (by omega), chk_int 0 (by omega) (by omega)⟩), twoq_zero.2 ⟨chk_int 1 (by omega) (by omega), chk_int 0 (by omega) (by omega)⟩⟩), twoq_zero.2 ⟨chk_int 0 (by omega) (by omega), chk_int 1 (by omega) (by omega)⟩⟩)
  simp only [qOf_int] at this
  rw [show Gm.sg (Gm.cr ((0 : Int) : Rat) ((0 : Int) : Rat) ((1 : Int) : Rat) ((0 : Int) : Rat) ((0 : Int) : Rat) ((1 : Int) : Rat)) = 1 by decide +kernel] at this
  exact this
end Go.Proofs.YtafikdacdfkkhaaGreatDoor
namespace Go.Proofs.YtafikdacdfkkhaaGreatDoor
open Go.RowKit

theorem vq_add2 {a b : Rat} {j k : Nat} (ha : Bq a j) (hb : Bq b k) : Bq (a + b) (j + k + 1) := by
 rw [Rat.add_def']
 exact vq_mk (Nat.mul_pos a.den_pos b.den_pos) ((ha.1.mul hb.2).add ((hb.1.mul ha.2).mono (by omega))) ((vd_cast _ _ ha.2 hb.2).mono (by omega))
theorem vq_mul2 {a b : Rat} {j k : Nat} (ha : Bq a j) (hb : Bq b k) : Bq (a * b) (j + k) := by
 rw [Rat.mul_def']
 exact vq_mk (Nat.mul_pos a.den_pos b.den_pos) (ha.1.mul hb.1) (vd_cast _ _ ha.2 hb.2)
theorem bq_moved {x k a : Rat} {K : Nat} (hx : Bq x K) (hk : Bq k K) (ha : Bq a K) : Bq (x * k + a) (K + K + K + 1) := vq_add2 (vq_mul2 hx hk) ha
theorem bq_size {x : Rat} {K : Nat} (h : Bq x K) (hK : K ≤ 100) : (sfZ x.num).size ≤ 100 ∧ (strOf x.den).size ≤ 100 := ⟨Nat.le_trans h.1.size hK, by have := h.2.size; simp at this; omega⟩
theorem tw_one {x y : Rat} (h : (sfZ x.num).size ≤ 100 ∧ (strOf x.den).size ≤ 100) (h' : (sfZ y.num).size ≤ 100 ∧ (strOf y.den).size ≤ 100) : twoq (nfZ x.num) (sfZ x.num) (strOf x.den) (nfZ y.num) (sfZ y.num) (strOf y.den) = 0 :=
 twoq_zero.2 ⟨chkq_ok (okQ_qI x) (by omega) (by omega), chkq_ok (okQ_qI y) (by omega) (by omega)⟩
theorem moved5_law (n0 n1 n2 n3 n4 n5 n6 n7 n8 n9 n10 : Bool) (s0 d0 s1 d1 s2 d2 s3 d3 s4 d4 s5 d5 s6 d6 s7 d7 s8 d8 s9 d9 s10 d10 : ByteArray) (w : World) (hT : Tab w) :
  Calls Tryz.prog 4 #[.agg #[.bool n0, .string s0, .string d0, .bool n1, .string s1, .string d1, .bool n2, .string s2, .string d2, .bool n3, .string s3, .string d3, .bool n4, .string s4, .string d4, .bool n5, .string s5, .string d5, .bool n6, .string s6, .string d6, .bool n7, .string s7, .string d7], .agg #[.bool n8, .string s8, .string d8, .bool n9, .string s9, .string d9], .agg #[.bool n10, .string s10, .string d10]] w fun e w' => e = .returned (.bool true) ∧ Below w.heap.size w w' := by
 have HL : Hid (∀ w1, Below w.heap.size w w1 → Calls Tryz.prog 10 #[] w1 fun e w' => e = .returned (.bool true) ∧ Below w1.heap.size w1 w') := fun w1 b => live5_any w1 (hT.below b)
 cases hb : (sb5 s0 d0 && sb5 s1 d1 && sb5 s2 d2 && sb5 s3 d3 && sb5 s4 d4 && sb5 s5 d5 && sb5 s6 d6 && sb5 s7 d7 && sb5 s8 d8 && sb5 s9 d9 && sb5 s10 d10)
 ·exact moved5_l n0 n1 n2 n3 n4 n5 n6 n7 n8 n9 n10 s0 d0 s1 d1 s2 d2 s3 d3 s4 d4 s5 d5 s6 d6 s7 d7 s8 d8 s9 d9 s10 d10 (sb5 s0 d0) (sb5 s1 d1) (sb5 s2 d2) (sb5 s3 d3) (sb5 s4 d4) (sb5 s5 d5) (sb5 s6 d6) (sb5 s7 d7) (sb5 s8 d8) (sb5 s9 d9) (sb5 s10 d10) w hb HL (fun w1 => brief5_any n0 s0 d0 w1) (fun w1 => brief5_any n1 s1 d1 w1) (fun w1 => brief5_any n2 s2 d2 w1) (fun w1 => brief5_any n3 s3 d3 w1) (fun w1 => brief5_any n4 s4 d4 w1) (fun w1 => brief5_any n5 s5 d5 w1) (fun w1 => brief5_any n6 s6 d6 w1) (fun w1 => brief5_any n7 s7 d7 w1) (fun w1 => brief5_any n8 s8 d8 w1) (fun w1 => brief5_any n9 s9 d9 w1) (fun w1 => brief5_any n10 s10 d10 w1)
 simp only [Bool.and_eq_true] at hb
 obtain ⟨⟨⟨⟨⟨⟨⟨⟨⟨⟨h0, h1⟩, h2⟩, h3⟩, h4⟩, h5⟩, h6⟩, h7⟩, h8⟩, h9⟩, h10⟩ := hb
 have S0 : Hid (∀ w1, Calls Tryz.prog 16 #[.agg #[.bool n0, .string s0, .string d0]] w1 fun e w' => e = .returned (.bool true) ∧ Below w1.heap.size w1 w') := fun w1 => by have := brief5_any n0 s0 d0 w1; rwa [h0] at this
 have y0 : s0.size ≤ 30 ∧ d0.size ≤ 30 := of_decide_eq_true h0
 have z0 : s0.size ≤ 100 ∧ d0.size ≤ 100 := ⟨Nat.le_trans y0.1 (by omega), Nat.le_trans y0.2 (by omega)⟩
 have S1 : Hid (∀ w1, Calls Tryz.prog 16 #[.agg #[.bool n1, .string s1, .string d1]] w1 fun e w' => e = .returned (.bool true) ∧ Below w1.heap.size w1 w') := fun w1 => by have := brief5_any n1 s1 d1 w1; rwa [h1] at this
 have y1 : s1.size ≤ 30 ∧ d1.size ≤ 30 := of_decide_eq_true h1
 have z1 : s1.size ≤ 100 ∧ d1.size ≤ 100 := ⟨Nat.le_trans y1.1 (by omega), Nat.le_trans y1.2 (by omega)⟩
 have S2 : Hid (∀ w1, Calls Tryz.prog 16 #[.agg #[.bool n2, .string s2, .string d2]] w1 fun e w' => e = .returned (.bool true) ∧ Below w1.heap.size w1 w') := fun w1 => by have := brief5_any n2 s2 d2 w1; rwa [h2] at this
 have y2 : s2.size ≤ 30 ∧ d2.size ≤ 30 := of_decide_eq_true h2
 have z2 : s2.size ≤ 100 ∧ d2.size ≤ 100 := ⟨Nat.le_trans y2.1 (by omega), Nat.le_trans y2.2 (by omega)⟩
 have S3 : Hid (∀ w1, Calls Tryz.prog 16 #[.agg #[.bool n3, .string s3, .string d3]] w1 fun e w' => e = .returned (.bool true) ∧ Below w1.heap.size w1 w') := fun w1 => by have := brief5_any n3 s3 d3 w1; rwa [h3] at this
 have y3 : s3.size ≤ 30 ∧ d3.size ≤ 30 := of_decide_eq_true h3
 have z3 : s3.size ≤ 100 ∧ d3.size ≤ 100 := ⟨Nat.le_trans y3.1 (by omega), Nat.le_trans y3.2 (by omega)⟩
 have S4 : Hid (∀ w1, Calls Tryz.prog 16 #[.agg #[.bool n4, .string s4, .string d4]] w1 fun e w' => e = .returned (.bool true) ∧ Below w1.heap.size w1 w') := fun w1 => by have := brief5_any n4 s4 d4 w1; rwa [h4] at this
 have y4 : s4.size ≤ 30 ∧ d4.size ≤ 30 := of_decide_eq_true h4
 have z4 : s4.size ≤ 100 ∧ d4.size ≤ 100 := ⟨Nat.le_trans y4.1 (by omega), Nat.le_trans y4.2 (by omega)⟩
 have S5 : Hid (∀ w1, Calls Tryz.prog 16 #[.agg #[.bool n5, .string s5, .string d5]] w1 fun e w' => e = .returned (.bool true) ∧ Below w1.heap.size w1 w') := fun w1 => by have := brief5_any n5 s5 d5 w1; rwa [h5] at this
 have y5 : s5.size ≤ 30 ∧ d5.size ≤ 30 := of_decide_eq_true h5
 have z5 : s5.size ≤ 100 ∧ d5.size ≤ 100 := ⟨Nat.le_trans y5.1 (by omega), Nat.le_trans y5.2 (by omega)⟩
 have S6 : Hid (∀ w1, Calls Tryz.prog 16 #[.agg #[.bool n6, .string s6, .string d6]] w1 fun e w' => e = .returned (.bool true) ∧ Below w1.heap.size w1 w') := fun w1 => by have := brief5_any n6 s6 d6 w1; rwa [h6] at this
 have y6 : s6.size ≤ 30 ∧ d6.size ≤ 30 := of_decide_eq_true h6
 have z6 : s6.size ≤ 100 ∧ d6.size ≤ 100 := ⟨Nat.le_trans y6.1 (by omega), Nat.le_trans y6.2 (by omega)⟩
 have S7 : Hid (∀ w1, Calls Tryz.prog 16 #[.agg #[.bool n7, .string s7, .string d7]] w1 fun e w' => e = .returned (.bool true) ∧ Below w1.heap.size w1 w') := fun w1 => by have := brief5_any n7 s7 d7 w1; rwa [h7] at this
 have y7 : s7.size ≤ 30 ∧ d7.size ≤ 30 := of_decide_eq_true h7
 have z7 : s7.size ≤ 100 ∧ d7.size ≤ 100 := ⟨Nat.le_trans y7.1 (by omega), Nat.le_trans y7.2 (by omega)⟩
 have S8 : Hid (∀ w1, Calls Tryz.prog 16 #[.agg #[.bool n8, .string s8, .string d8]] w1 fun e w' => e = .returned (.bool true) ∧ Below w1.heap.size w1 w') := fun w1 => by have := brief5_any n8 s8 d8 w1; rwa [h8] at this
 have y8 : s8.size ≤ 30 ∧ d8.size ≤ 30 := of_decide_eq_true h8
 have z8 : s8.size ≤ 100 ∧ d8.size ≤ 100 := ⟨Nat.le_trans y8.1 (by omega), Nat.le_trans y8.2 (by omega)⟩
 have S9 : Hid (∀ w1, Calls Tryz.prog 16 #[.agg #[.bool n9, .string s9, .string d9]] w1 fun e w' => e = .returned (.bool true) ∧ Below w1.heap.size w1 w') := fun w1 => by have := brief5_any n9 s9 d9 w1; rwa [h9] at this
 have y9 : s9.size ≤ 30 ∧ d9.size ≤ 30 := of_decide_eq_true h9
 have z9 : s9.size ≤ 100 ∧ d9.size ≤ 100 := ⟨Nat.le_trans y9.1 (by omega), Nat.le_trans y9.2 (by omega)⟩
 have S10 : Hid (∀ w1, Calls Tryz.prog 16 #[.agg #[.bool n10, .string s10, .string d10]] w1 fun e w' => e = .returned (.bool true) ∧ Below w1.heap.size w1 w') := fun w1 => by have := brief5_any n10 s10 d10 w1; rwa [h10] at this
 have y10 : s10.size ≤ 30 ∧ d10.size ≤ 30 := of_decide_eq_true h10
 have z10 : s10.size ≤ 100 ∧ d10.size ≤ 100 := ⟨Nat.le_trans y10.1 (by omega), Nat.le_trans y10.2 (by omega)⟩
 have HA : ∀ (w1 : World) (B : Nat), Below w.heap.size w w1 → Cel w1 B [.bool n0, .string s0, .string d0, .bool n1, .string s1, .string d1, .bool n2, .string s2, .string d2, .bool n3, .string s3, .string d3, .bool n4, .string s4, .string d4, .bool n5, .string s5, .string d5, .bool n6, .string s6, .string d6, .bool n7, .string s7, .string d7, .bool n8, .string s8, .string d8, .bool n9, .string s9, .string d9] 28 → Calls Tryz.prog 13 #[.slice (some ⟨B, 0, none⟩) 5 5] w1 fun e w' => e = .returned (.int .i64 (two (two (two (two (twoq n0 s0 d0 n1 s1 d1) (twoq n2 s2 d2 n3 s3 d3)) (twoq n4 s4 d4 n5 s5 d5)) (twoq n6 s6 d6 n7 s7 d7)) (twoq n8 s8 d8 n9 s9 d9) : Nat)) ∧ Below w1.heap.size w1 w' := fun w1 B _ h => asked5 B n0 n1 n2 n3 n4 n5 n6 n7 n8 n9 s0 d0 s1 d1 s2 d2 s3 d3 s4 d4 s5 d5 s6 d6 s7 d7 s8 d8 s9 d9 w1 h z0 z1 z2 z3 z4 z5 z6 z7 z8 z9
 by_cases hE : two (two (two (two (twoq n0 s0 d0 n1 s1 d1) (twoq n2 s2 d2 n3 s3 d3)) (twoq n4 s4 d4 n5 s5 d5)) (twoq n6 s6 d6 n7 s7 d7)) (twoq n8 s8 d8 n9 s9 d9) = 0
 case neg => exact moved5_a n0 n1 n2 n3 n4 n5 n6 n7 n8 n9 n10 s0 d0 s1 d1 s2 d2 s3 d3 s4 d4 s5 d5 s6 d6 s7 d7 s8 d8 s9 d9 s10 d10 _ w (by omega) HL S0 S1 S2 S3 S4 S5 S6 S7 S8 S9 S10 HA
 rw [hE] at HA
 have HK : ∀ w1, Calls Tryz.prog 17 #[.agg #[.bool n10, .string s10, .string d10]] w1 fun e w' => e = .returned (.int .i64 (chkq n10 s10 d10 : Nat)) ∧ Below w1.heap.size w1 w' := fun w1 => refc_any n10 s10 d10 w1 (by omega) (by omega)
 by_cases hk : chkq n10 s10 d10 = 0
 case neg => exact moved5_c n0 n1 n2 n3 n4 n5 n6 n7 n8 n9 n10 s0 d0 s1 d1 s2 d2 s3 d3 s4 d4 s5 d5 s6 d6 s7 d7 s8 d8 s9 d9 s10 d10 _ w (by omega) HL S0 S1 S2 S3 S4 S5 S6 S7 S8 S9 S10 HA HK
 rw [hk] at HK
 rw [two_zero, two_zero, two_zero, two_zero] at hE
 obtain ⟨⟨⟨⟨tA, tB⟩, tC⟩, tD⟩, tE⟩ := hE
 have wA := twoq_zero.1 tA
 have o0 := (chkq_zero wA.1).1
 have o1 := (chkq_zero wA.2).1
 clear wA tA
 have wB := twoq_zero.1 tB
 have o2 := (chkq_zero wB.1).1
 have o3 := (chkq_zero wB.2).1
 clear wB tB
 have wC := twoq_zero.1 tC
 have o4 := (chkq_zero wC.1).1
 have o5 := (chkq_zero wC.2).1
 clear wC tC
 have wD := twoq_zero.1 tD
 have o6 := (chkq_zero wD.1).1
 have o7 := (chkq_zero wD.2).1
 clear wD tD
 have wE := twoq_zero.1 tE
 have o8 := (chkq_zero wE.1).1
 have o9 := (chkq_zero wE.2).1
 clear wE tE
 have o10 := (chkq_zero hk).1
 clear hk
 clear h0 h1 h2 h3 h4 h5 h6 h7 h8 h9 h10
 obtain ⟨r0, rfl, rfl, rfl⟩ := okq_form o0
 have B0 : Bq r0 30 := by have := (okQ_qI r0).bq y0.1 y0.2; rwa [qOf_qI] at this
 clear o0 y0
 obtain ⟨r1, rfl, rfl, rfl⟩ := okq_form o1
 have B1 : Bq r1 30 := by have := (okQ_qI r1).bq y1.1 y1.2; rwa [qOf_qI] at this
 clear o1 y1
 obtain ⟨r2, rfl, rfl, rfl⟩ := okq_form o2
 have B2 : Bq r2 30 := by have := (okQ_qI r2).bq y2.1 y2.2; rwa [qOf_qI] at this
 clear o2 y2
 obtain ⟨r3, rfl, rfl, rfl⟩ := okq_form o3
 have B3 : Bq r3 30 := by have := (okQ_qI r3).bq y3.1 y3.2; rwa [qOf_qI] at this
 clear o3 y3
 obtain ⟨r4, rfl, rfl, rfl⟩ := okq_form o4
 have B4 : Bq r4 30 := by have := (okQ_qI r4).bq y4.1 y4.2; rwa [qOf_qI] at this
 clear o4 y4
 obtain ⟨r5, rfl, rfl, rfl⟩ := okq_form o5
 have B5 : Bq r5 30 := by have := (okQ_qI r5).bq y5.1 y5.2; rwa [qOf_qI] at this
 clear o5 y5
 obtain ⟨r6, rfl, rfl, rfl⟩ := okq_form o6
 have B6 : Bq r6 30 := by have := (okQ_qI r6).bq y6.1 y6.2; rwa [qOf_qI] at this
 clear o6 y6
 obtain ⟨r7, rfl, rfl, rfl⟩ := okq_form o7
 have B7 : Bq r7 30 := by have := (okQ_qI r7).bq y7.1 y7.2; rwa [qOf_qI] at this
 clear o7 y7
 obtain ⟨r8, rfl, rfl, rfl⟩ := okq_form o8
 have B8 : Bq r8 30 := by have := (okQ_qI r8).bq y8.1 y8.2; rwa [qOf_qI] at this
 clear o8 y8
 obtain ⟨r9, rfl, rfl, rfl⟩ := okq_form o9
 have B9 : Bq r9 30 := by have := (okQ_qI r9).bq y9.1 y9.2; rwa [qOf_qI] at this
 clear o9 y9
 obtain ⟨r10, rfl, rfl, rfl⟩ := okq_form o10
 have B10 : Bq r10 30 := by have := (okQ_qI r10).bq y10.1 y10.2; rwa [qOf_qI] at this
 clear o10 y10
 have HG := fun w1 => rsignI r10 w1
 by_cases hp : Gm.sg r10 ≤ 0
 ·exact moved5_s (nfZ (r0).num) (nfZ (r1).num) (nfZ (r2).num) (nfZ (r3).num) (nfZ (r4).num) (nfZ (r5).num) (nfZ (r6).num) (nfZ (r7).num) (nfZ (r8).num) (nfZ (r9).num) (nfZ (r10).num) (sfZ (r0).num) (strOf (r0).den) (sfZ (r1).num) (strOf (r1).den) (sfZ (r2).num) (strOf (r2).den) (sfZ (r3).num) (strOf (r3).den) (sfZ (r4).num) (strOf (r4).den) (sfZ (r5).num) (strOf (r5).den) (sfZ (r6).num) (strOf (r6).den) (sfZ (r7).num) (strOf (r7).den) (sfZ (r8).num) (strOf (r8).den) (sfZ (r9).num) (strOf (r9).den) (sfZ (r10).num) (strOf (r10).den) _ w hp HL S0 S1 S2 S3 S4 S5 S6 S7 S8 S9 S10 HA HK HG
 have h1 : Gm.sg r10 = 1 := by
  rcases sg_small r10 with h | h | h <;> omega
 have hpos : 0 < r10 := by
  rcases Gm.sg_cases r10 with ⟨h, e⟩ | ⟨h, e⟩ | ⟨h, e⟩
  ·omega
  ·exact h
  ·omega
 have hkk : 0 < r10 * r10 := Rat.mul_pos hpos hpos
 have hk4 : 0 < (r10 * r10) * (r10 * r10) := Rat.mul_pos hkk hkk
 rw [h1] at HG
 have u0 := bq_size (bq_moved B0 B10 B8) (by omega)
 have u1 := bq_size (bq_moved B1 B10 B9) (by omega)
 have u2 := bq_size (bq_moved B2 B10 B8) (by omega)
 have u3 := bq_size (bq_moved B3 B10 B9) (by omega)
 have u4 := bq_size (bq_moved B4 B10 B8) (by omega)
 have u5 := bq_size (bq_moved B5 B10 B9) (by omega)
 have u6 := bq_size (bq_moved B6 B10 B8) (by omega)
 have u7 := bq_size (bq_moved B7 B10 B9) (by omega)
 by_cases h0 : Gm.sg (Gm.cr r0 r1 r2 r3 r4 r5) = 0
 ·refine moved5_ok (nfZ (r0).num) (nfZ (r1).num) (nfZ (r2).num) (nfZ (r3).num) (nfZ (r4).num) (nfZ (r5).num) (nfZ (r6).num) (nfZ (r7).num) (nfZ (r8).num) (nfZ (r9).num) (nfZ (r10).num) (nfZ (r0 * r10 + r8).num) (nfZ (r1 * r10 + r9).num) (nfZ (r2 * r10 + r8).num) (nfZ (r3 * r10 + r9).num) (nfZ (r4 * r10 + r8).num) (nfZ (r5 * r10 + r9).num) (nfZ (r6 * r10 + r8).num) (nfZ (r7 * r10 + r9).num) (sfZ (r0).num) (strOf (r0).den) (sfZ (r1).num) (strOf (r1).den) (sfZ (r2).num) (strOf (r2).den) (sfZ (r3).num) (strOf (r3).den) (sfZ (r4).num) (strOf (r4).den) (sfZ (r5).num) (strOf (r5).den) (sfZ (r6).num) (strOf (r6).den) (sfZ (r7).num) (strOf (r7).den) (sfZ (r8).num) (strOf (r8).den) (sfZ (r9).num) (strOf (r9).den) (sfZ (r10).num) (strOf (r10).den) (sfZ (r0 * r10 + r8).num) (strOf (r0 * r10 + r8).den) (sfZ (r1 * r10 + r9).num) (strOf (r1 * r10 + r9).den) (sfZ (r2 * r10 + r8).num) (strOf (r2 * r10 + r8).den) (sfZ (r3 * r10 + r9).num) (strOf (r3 * r10 + r9).den) (sfZ (r4 * r10 + r8).num) (strOf (r4 * r10 + r8).den) (sfZ (r5 * r10 + r9).num) (strOf (r5 * r10 + r9).den) (sfZ (r6 * r10 + r8).num) (strOf (r6 * r10 + r8).den) (sfZ (r7 * r10 + r9).num) (strOf (r7 * r10 + r9).den) (Gm.sg (Gm.cr r0 r1 r2 r3 r4 r5)) (0) 6 (mt (Gm.sg (Gm.cr r0 r1 r2 r3 r4 r5)) (Gm.sg (Gm.cr r0 r1 r2 r3 r6 r7)) (Gm.sg (Gm.cr r4 r5 r6 r7 r0 r1)) (Gm.sg (Gm.cr r4 r5 r6 r7 r2 r3)) (-(Gm.sg (Gm.dt r0 r1 r2 r3 r4 r5))) (-(Gm.sg (Gm.dt r0 r1 r2 r3 r6 r7))) (-(Gm.sg (Gm.dt r4 r5 r6 r7 r0 r1))) (-(Gm.sg (Gm.dt r4 r5 r6 r7 r2 r3)))) w HL S0 S1 S2 S3 S4 S5 S6 S7 S8 S9 S10 HA HK HG (fun w1 => movedI r0 r1 r8 r9 r10 (K := 30) (by omega) B0 B1 B8 B9 B10 w1) (fun w1 => movedI r2 r3 r8 r9 r10 (K := 30) (by omega) B2 B3 B8 B9 B10 w1) (fun w1 => movedI r4 r5 r8 r9 r10 (K := 30) (by omega) B4 B5 B8 B9 B10 w1) (fun w1 => movedI r6 r7 r8 r9 r10 (K := 30) (by omega) B6 B7 B8 B9 B10 w1) (fun w1 b => ?_) (fun w1 b => ?_) (fun w1 b => ?_) (fun w1 b => ?_) (fun w1 b => ?_) (fun w1 b => ?_)
  ·have := gOrient_an (nfZ (r0).num) (nfZ (r1).num) (nfZ (r2).num) (nfZ (r3).num) (nfZ (r4).num) (nfZ (r5).num) (sfZ (r0).num) (strOf (r0).den) (sfZ (r1).num) (strOf (r1).den) (sfZ (r2).num) (strOf (r2).den) (sfZ (r3).num) (strOf (r3).den) (sfZ (r4).num) (strOf (r4).den) (sfZ (r5).num) (strOf (r5).den) w1 (hT.below b) z0 z1 z2 z3 z4 z5 (two_zero.2 ⟨(two_zero.2 ⟨(tw_one z0 z1), tw_one z2 z3⟩), tw_one z4 z5⟩)
   simp only [qOf_one] at this
   exact this
  ·have := gOrient_an (nfZ (r0 * r10 + r8).num) (nfZ (r1 * r10 + r9).num) (nfZ (r2 * r10 + r8).num) (nfZ (r3 * r10 + r9).num) (nfZ (r4 * r10 + r8).num) (nfZ (r5 * r10 + r9).num) (sfZ (r0 * r10 + r8).num) (strOf (r0 * r10 + r8).den) (sfZ (r1 * r10 + r9).num) (strOf (r1 * r10 + r9).den) (sfZ (r2 * r10 + r8).num) (strOf (r2 * r10 + r8).den) (sfZ (r3 * r10 + r9).num) (strOf (r3 * r10 + r9).den) (sfZ (r4 * r10 + r8).num) (strOf (r4 * r10 + r8).den) (sfZ (r5 * r10 + r9).num) (strOf (r5 * r10 + r9).den) w1 (hT.below b) u0 u1 u2 u3 u4 u5 (two_zero.2 ⟨(two_zero.2 ⟨(tw_one u0 u1), tw_one u2 u3⟩), tw_one u4 u5⟩)
   simp only [qOf_one, Gm.cr_moved, Gm.sg_scale hkk] at this
   exact this
  ·have := gCircle_an (nfZ (r0).num) (nfZ (r1).num) (nfZ (r2).num) (nfZ (r3).num) (nfZ (r4).num) (nfZ (r5).num) (nfZ (r6).num) (nfZ (r7).num) (sfZ (r0).num) (strOf (r0).den) (sfZ (r1).num) (strOf (r1).den) (sfZ (r2).num) (strOf (r2).den) (sfZ (r3).num) (strOf (r3).den) (sfZ (r4).num) (strOf (r4).den) (sfZ (r5).num) (strOf (r5).den) (sfZ (r6).num) (strOf (r6).den) (sfZ (r7).num) (strOf (r7).den) w1 (hT.below b) z0 z1 z2 z3 z4 z5 z6 z7 (two_zero.2 ⟨(two_zero.2 ⟨(two_zero.2 ⟨(tw_one z0 z1), tw_one z2 z3⟩), tw_one z4 z5⟩), tw_one z6 z7⟩)
   simp only [qOf_one] at this
   rwa [if_pos h0] at this
  ·have := gCircle_an (nfZ (r0 * r10 + r8).num) (nfZ (r1 * r10 + r9).num) (nfZ (r2 * r10 + r8).num) (nfZ (r3 * r10 + r9).num) (nfZ (r4 * r10 + r8).num) (nfZ (r5 * r10 + r9).num) (nfZ (r6 * r10 + r8).num) (nfZ (r7 * r10 + r9).num) (sfZ (r0 * r10 + r8).num) (strOf (r0 * r10 + r8).den) (sfZ (r1 * r10 + r9).num) (strOf (r1 * r10 + r9).den) (sfZ (r2 * r10 + r8).num) (strOf (r2 * r10 + r8).den) (sfZ (r3 * r10 + r9).num) (strOf (r3 * r10 + r9).den) (sfZ (r4 * r10 + r8).num) (strOf (r4 * r10 + r8).den) (sfZ (r5 * r10 + r9).num) (strOf (r5 * r10 + r9).den) (sfZ (r6 * r10 + r8).num) (strOf (r6 * r10 + r8).den) (sfZ (r7 * r10 + r9).num) (strOf (r7 * r10 + r9).den) w1 (hT.below b) u0 u1 u2 u3 u4 u5 u6 u7 (two_zero.2 ⟨(two_zero.2 ⟨(two_zero.2 ⟨(tw_one u0 u1), tw_one u2 u3⟩), tw_one u4 u5⟩), tw_one u6 u7⟩)
   simp only [qOf_one, Gm.cr_moved, Gm.ci_moved, Gm.sg_scale hkk, Gm.sg_scale hk4] at this
   rwa [if_pos h0] at this
  ·have := gMeet_an (nfZ (r0).num) (nfZ (r1).num) (nfZ (r2).num) (nfZ (r3).num) (nfZ (r4).num) (nfZ (r5).num) (nfZ (r6).num) (nfZ (r7).num) (sfZ (r0).num) (strOf (r0).den) (sfZ (r1).num) (strOf (r1).den) (sfZ (r2).num) (strOf (r2).den) (sfZ (r3).num) (strOf (r3).den) (sfZ (r4).num) (strOf (r4).den) (sfZ (r5).num) (strOf (r5).den) (sfZ (r6).num) (strOf (r6).den) (sfZ (r7).num) (strOf (r7).den) w1 (hT.below b) z0 z1 z2 z3 z4 z5 z6 z7 (two_zero.2 ⟨(two_zero.2 ⟨(two_zero.2 ⟨(tw_one z0 z1), tw_one z2 z3⟩), tw_one z4 z5⟩), tw_one z6 z7⟩)
   simp only [qOf_one] at this
   exact this
  ·have := gMeet_an (nfZ (r0 * r10 + r8).num) (nfZ (r1 * r10 + r9).num) (nfZ (r2 * r10 + r8).num) (nfZ (r3 * r10 + r9).num) (nfZ (r4 * r10 + r8).num) (nfZ (r5 * r10 + r9).num) (nfZ (r6 * r10 + r8).num) (nfZ (r7 * r10 + r9).num) (sfZ (r0 * r10 + r8).num) (strOf (r0 * r10 + r8).den) (sfZ (r1 * r10 + r9).num) (strOf (r1 * r10 + r9).den) (sfZ (r2 * r10 + r8).num) (strOf (r2 * r10 + r8).den) (sfZ (r3 * r10 + r9).num) (strOf (r3 * r10 + r9).den) (sfZ (r4 * r10 + r8).num) (strOf (r4 * r10 + r8).den) (sfZ (r5 * r10 + r9).num) (strOf (r5 * r10 + r9).den) (sfZ (r6 * r10 + r8).num) (strOf (r6 * r10 + r8).den) (sfZ (r7 * r10 + r9).num) (strOf (r7 * r10 + r9).den) w1 (hT.below b) u0 u1 u2 u3 u4 u5 u6 u7 (two_zero.2 ⟨(two_zero.2 ⟨(two_zero.2 ⟨(tw_one u0 u1), tw_one u2 u3⟩), tw_one u4 u5⟩), tw_one u6 u7⟩)
   simp only [qOf_one, Gm.cr_moved, Gm.dt_moved, Gm.sg_scale hkk] at this
   exact this
 ·refine moved5_ok (nfZ (r0).num) (nfZ (r1).num) (nfZ (r2).num) (nfZ (r3).num) (nfZ (r4).num) (nfZ (r5).num) (nfZ (r6).num) (nfZ (r7).num) (nfZ (r8).num) (nfZ (r9).num) (nfZ (r10).num) (nfZ (r0 * r10 + r8).num) (nfZ (r1 * r10 + r9).num) (nfZ (r2 * r10 + r8).num) (nfZ (r3 * r10 + r9).num) (nfZ (r4 * r10 + r8).num) (nfZ (r5 * r10 + r9).num) (nfZ (r6 * r10 + r8).num) (nfZ (r7 * r10 + r9).num) (sfZ (r0).num) (strOf (r0).den) (sfZ (r1).num) (strOf (r1).den) (sfZ (r2).num) (strOf (r2).den) (sfZ (r3).num) (strOf (r3).den) (sfZ (r4).num) (strOf (r4).den) (sfZ (r5).num) (strOf (r5).den) (sfZ (r6).num) (strOf (r6).den) (sfZ (r7).num) (strOf (r7).den) (sfZ (r8).num) (strOf (r8).den) (sfZ (r9).num) (strOf (r9).den) (sfZ (r10).num) (strOf (r10).den) (sfZ (r0 * r10 + r8).num) (strOf (r0 * r10 + r8).den) (sfZ (r1 * r10 + r9).num) (strOf (r1 * r10 + r9).den) (sfZ (r2 * r10 + r8).num) (strOf (r2 * r10 + r8).den) (sfZ (r3 * r10 + r9).num) (strOf (r3 * r10 + r9).den) (sfZ (r4 * r10 + r8).num) (strOf (r4 * r10 + r8).den) (sfZ (r5 * r10 + r9).num) (strOf (r5 * r10 + r9).den) (sfZ (r6 * r10 + r8).num) (strOf (r6 * r10 + r8).den) (sfZ (r7 * r10 + r9).num) (strOf (r7 * r10 + r9).den) (Gm.sg (Gm.cr r0 r1 r2 r3 r4 r5)) (Gm.sg (Gm.cr r0 r1 r2 r3 r4 r5) * Gm.sg (Gm.ci r0 r1 r2 r3 r4 r5 r6 r7)) 0 (mt (Gm.sg (Gm.cr r0 r1 r2 r3 r4 r5)) (Gm.sg (Gm.cr r0 r1 r2 r3 r6 r7)) (Gm.sg (Gm.cr r4 r5 r6 r7 r0 r1)) (Gm.sg (Gm.cr r4 r5 r6 r7 r2 r3)) (-(Gm.sg (Gm.dt r0 r1 r2 r3 r4 r5))) (-(Gm.sg (Gm.dt r0 r1 r2 r3 r6 r7))) (-(Gm.sg (Gm.dt r4 r5 r6 r7 r0 r1))) (-(Gm.sg (Gm.dt r4 r5 r6 r7 r2 r3)))) w HL S0 S1 S2 S3 S4 S5 S6 S7 S8 S9 S10 HA HK HG (fun w1 => movedI r0 r1 r8 r9 r10 (K := 30) (by omega) B0 B1 B8 B9 B10 w1) (fun w1 => movedI r2 r3 r8 r9 r10 (K := 30) (by omega) B2 B3 B8 B9 B10 w1) (fun w1 => movedI r4 r5 r8 r9 r10 (K := 30) (by omega) B4 B5 B8 B9 B10 w1) (fun w1 => movedI r6 r7 r8 r9 r10 (K := 30) (by omega) B6 B7 B8 B9 B10 w1) (fun w1 b => ?_) (fun w1 b => ?_) (fun w1 b => ?_) (fun w1 b => ?_) (fun w1 b => ?_) (fun w1 b => ?_)
  ·have := gOrient_an (nfZ (r0).num) (nfZ (r1).num) (nfZ (r2).num) (nfZ (r3).num) (nfZ (r4).num) (nfZ (r5).num) (sfZ (r0).num) (strOf (r0).den) (sfZ (r1).num) (strOf (r1).den) (sfZ (r2).num) (strOf (r2).den) (sfZ (r3).num) (strOf (r3).den) (sfZ (r4).num) (strOf (r4).den) (sfZ (r5).num) (strOf (r5).den) w1 (hT.below b) z0 z1 z2 z3 z4 z5 (two_zero.2 ⟨(two_zero.2 ⟨(tw_one z0 z1), tw_one z2 z3⟩), tw_one z4 z5⟩)
   simp only [qOf_one] at this
   exact this
  ·have := gOrient_an (nfZ (r0 * r10 + r8).num) (nfZ (r1 * r10 + r9).num) (nfZ (r2 * r10 + r8).num) (nfZ (r3 * r10 + r9).num) (nfZ (r4 * r10 + r8).num) (nfZ (r5 * r10 + r9).num) (sfZ (r0 * r10 + r8).num) (strOf (r0 * r10 + r8).den) (sfZ (r1 * r10 + r9).num) (strOf (r1 * r10 + r9).den) (sfZ (r2 * r10 + r8).num) (strOf (r2 * r10 + r8).den) (sfZ (r3 * r10 + r9).num) (strOf (r3 * r10 + r9).den) (sfZ (r4 * r10 + r8).num) (strOf (r4 * r10 + r8).den) (sfZ (r5 * r10 + r9).num) (strOf (r5 * r10 + r9).den) w1 (hT.below b) u0 u1 u2 u3 u4 u5 (two_zero.2 ⟨(two_zero.2 ⟨(tw_one u0 u1), tw_one u2 u3⟩), tw_one u4 u5⟩)
   simp only [qOf_one, Gm.cr_moved, Gm.sg_scale hkk] at this
   exact this
  ·have := gCircle_an (nfZ (r0).num) (nfZ (r1).num) (nfZ (r2).num) (nfZ (r3).num) (nfZ (r4).num) (nfZ (r5).num) (nfZ (r6).num) (nfZ (r7).num) (sfZ (r0).num) (strOf (r0).den) (sfZ (r1).num) (strOf (r1).den) (sfZ (r2).num) (strOf (r2).den) (sfZ (r3).num) (strOf (r3).den) (sfZ (r4).num) (strOf (r4).den) (sfZ (r5).num) (strOf (r5).den) (sfZ (r6).num) (strOf (r6).den) (sfZ (r7).num) (strOf (r7).den) w1 (hT.below b) z0 z1 z2 z3 z4 z5 z6 z7 (two_zero.2 ⟨(two_zero.2 ⟨(two_zero.2 ⟨(tw_one z0 z1), tw_one z2 z3⟩), tw_one z4 z5⟩), tw_one z6 z7⟩)
   simp only [qOf_one] at this
   rwa [if_neg h0] at this
  ·have := gCircle_an (nfZ (r0 * r10 + r8).num) (nfZ (r1 * r10 + r9).num) (nfZ (r2 * r10 + r8).num) (nfZ (r3 * r10 + r9).num) (nfZ (r4 * r10 + r8).num) (nfZ (r5 * r10 + r9).num) (nfZ (r6 * r10 + r8).num) (nfZ (r7 * r10 + r9).num) (sfZ (r0 * r10 + r8).num) (strOf (r0 * r10 + r8).den) (sfZ (r1 * r10 + r9).num) (strOf (r1 * r10 + r9).den) (sfZ (r2 * r10 + r8).num) (strOf (r2 * r10 + r8).den) (sfZ (r3 * r10 + r9).num) (strOf (r3 * r10 + r9).den) (sfZ (r4 * r10 + r8).num) (strOf (r4 * r10 + r8).den) (sfZ (r5 * r10 + r9).num) (strOf (r5 * r10 + r9).den) (sfZ (r6 * r10 + r8).num) (strOf (r6 * r10 + r8).den) (sfZ (r7 * r10 + r9).num) (strOf (r7 * r10 + r9).den) w1 (hT.below b) u0 u1 u2 u3 u4 u5 u6 u7 (two_zero.2 ⟨(two_zero.2 ⟨(two_zero.2 ⟨(tw_one u0 u1), tw_one u2 u3⟩), tw_one u4 u5⟩), tw_one u6 u7⟩)
   simp only [qOf_one, Gm.cr_moved, Gm.ci_moved, Gm.sg_scale hkk, Gm.sg_scale hk4] at this
   rwa [if_neg h0] at this
  ·have := gMeet_an (nfZ (r0).num) (nfZ (r1).num) (nfZ (r2).num) (nfZ (r3).num) (nfZ (r4).num) (nfZ (r5).num) (nfZ (r6).num) (nfZ (r7).num) (sfZ (r0).num) (strOf (r0).den) (sfZ (r1).num) (strOf (r1).den) (sfZ (r2).num) (strOf (r2).den) (sfZ (r3).num) (strOf (r3).den) (sfZ (r4).num) (strOf (r4).den) (sfZ (r5).num) (strOf (r5).den) (sfZ (r6).num) (strOf (r6).den) (sfZ (r7).num) (strOf (r7).den) w1 (hT.below b) z0 z1 z2 z3 z4 z5 z6 z7 (two_zero.2 ⟨(two_zero.2 ⟨(two_zero.2 ⟨(tw_one z0 z1), tw_one z2 z3⟩), tw_one z4 z5⟩), tw_one z6 z7⟩)
   simp only [qOf_one] at this
   exact this
  ·have := gMeet_an (nfZ (r0 * r10 + r8).num) (nfZ (r1 * r10 + r9).num) (nfZ (r2 * r10 + r8).num) (nfZ (r3 * r10 + r9).num) (nfZ (r4 * r10 + r8).num) (nfZ (r5 * r10 + r9).num) (nfZ (r6 * r10 + r8).num) (nfZ (r7 * r10 + r9).num) (sfZ (r0 * r10 + r8).num) (strOf (r0 * r10 + r8).den) (sfZ (r1 * r10 + r9).num) (strOf (r1 * r10 + r9).den) (sfZ (r2 * r10 + r8).num) (strOf (r2 * r10 + r8).den) (sfZ (r3 * r10 + r9).num) (strOf (r3 * r10 + r9).den) (sfZ (r4 * r10 + r8).num) (strOf (r4 * r10 + r8).den) (sfZ (r5 * r10 + r9).num) (strOf (r5 * r10 + r9).den) (sfZ (r6 * r10 + r8).num) (strOf (r6 * r10 + r8).den) (sfZ (r7 * r10 + r9).num) (strOf (r7 * r10 + r9).den) w1 (hT.below b) u0 u1 u2 u3 u4 u5 u6 u7 (two_zero.2 ⟨(two_zero.2 ⟨(two_zero.2 ⟨(tw_one u0 u1), tw_one u2 u3⟩), tw_one u4 u5⟩), tw_one u6 u7⟩)
   simp only [qOf_one, Gm.cr_moved, Gm.dt_moved, Gm.sg_scale hkk] at this
   exact this
end Go.Proofs.YtafikdacdfkkhaaGreatDoor
