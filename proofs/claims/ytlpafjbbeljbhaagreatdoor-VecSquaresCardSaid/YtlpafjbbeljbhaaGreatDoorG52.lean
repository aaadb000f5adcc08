/-
  gussetref03: Square; gussetlaw04: VecSquares, walked.
-/
import Derived.Test.YtlpafjbbeljbhaaGreatDoorG51
namespace Go.Proofs.YtlpafjbbeljbhaaGreatDoor
open Go.RowKit Go.Shelf

set_option maxRecDepth 100000 in
set_option maxHeartbeats 4000000 in
theorem rsquare_walk (n0 xN : Bool) (s0 d0 xS xD : ByteArray) (w : World)
  (H1 : Hid (∀ w1, Calls Tryz.prog 37 #[.agg #[.bool n0, .string s0, .string d0], .agg #[.bool n0, .string s0, .string d0]] w1 fun e w' => e = .returned (.agg #[.bool xN, .string xS, .string xD]) ∧ Below w1.heap.size w1 w')) :
  Calls Tryz.prog 36 #[.agg #[.bool n0, .string s0, .string d0]] w fun e w' => e = .returned (.agg #[.bool xN, .string xS, .string xD]) ∧ Below w.heap.size w w' := by
 go_enter Tryz.func36, Tryz.ntmps36
 go_wp2_with fail
 go_fit (H1.out _)
 rintro e w1 ⟨rfl, b1⟩
 obtain ⟨ka, kr, b1⟩ := al2 b1
 have sz := b1.size
 have bb := b1
 clear b1
 have ta := ka.lt
 have tr := kr.lt
 have cr_0 := cel3_0 kr
 have fr_1 := Cel.frozen kr 0
 have cr_2 := cel3_1 kr
 have fr_3 := Cel.frozen kr 1
 have cr_4 := cel3_2 kr
 have fr_5 := Cel.frozen kr 2
 go_wp2
 exact post_q (p := 2) (by kernel_rfl) rfl rfl (((kr.set 0 _).set 1 _).set 2 _) ⟨rfl, bset (bset (bset bb (by omega) 0 _) (by omega) 1 _) (by omega) 2 _⟩
set_option maxRecDepth 100000 in
set_option maxHeartbeats 8000000 in
theorem squares_l1 (n0 n1 n2 n3 : Bool) (s0 d0 s1 d1 s2 d2 s3 d3 : ByteArray) (w : World)
  (HL : Hid (∀ w1, Below w.heap.size w w1 → Calls Tryz.prog 10 #[] w1 fun e w' => e = .returned (.bool true) ∧ Below w1.heap.size w1 w'))
  (S0 : Hid (∀ w1, Calls Tryz.prog 9 #[.agg #[.bool n0, .string s0, .string d0, .bool n1, .string s1, .string d1]] w1 fun e w' => e = .returned (.bool false) ∧ Below w1.heap.size w1 w')) :
  Calls Tryz.prog 8 #[.agg #[.bool n0, .string s0, .string d0, .bool n1, .string s1, .string d1], .agg #[.bool n2, .string s2, .string d2, .bool n3, .string s3, .string d3]] w fun e w' => e = .returned (.bool true) ∧ Below w.heap.size w w' := by
 go_enter Tryz.func8, Tryz.ntmps8
 go_wp2_with fail
 go_fit (S0.out _)
 rintro e w1 ⟨rfl, b1⟩
 obtain ⟨ka, kb, b1⟩ := al2 b1
 have sz := b1.size
 have bb := b1
 clear b1
 have ta := ka.lt
 have tb := kb.lt
 clear ta tb
 go_wp2_with fail
 go_fit (HL.out _ bb)
 rintro e w2 ⟨rfl, b1⟩
 have sz := b1.size
 replace ka := ka.below b1
 replace kb := kb.below b1
 replace bb := Below.after bb b1
 clear b1
 go_wp2
 go_ret
 exact ⟨rfl, bb⟩
set_option maxRecDepth 100000 in
set_option maxHeartbeats 8000000 in
theorem squares_l2 (n0 n1 n2 n3 : Bool) (s0 d0 s1 d1 s2 d2 s3 d3 : ByteArray) (w : World)
  (HL : Hid (∀ w1, Below w.heap.size w w1 → Calls Tryz.prog 10 #[] w1 fun e w' => e = .returned (.bool true) ∧ Below w1.heap.size w1 w'))
  (S0 : Hid (∀ w1, Calls Tryz.prog 9 #[.agg #[.bool n0, .string s0, .string d0, .bool n1, .string s1, .string d1]] w1 fun e w' => e = .returned (.bool true) ∧ Below w1.heap.size w1 w'))
  (S1 : Hid (∀ w1, Calls Tryz.prog 9 #[.agg #[.bool n2, .string s2, .string d2, .bool n3, .string s3, .string d3]] w1 fun e w' => e = .returned (.bool false) ∧ Below w1.heap.size w1 w')) :
  Calls Tryz.prog 8 #[.agg #[.bool n0, .string s0, .string d0, .bool n1, .string s1, .string d1], .agg #[.bool n2, .string s2, .string d2, .bool n3, .string s3, .string d3]] w fun e w' => e = .returned (.bool true) ∧ Below w.heap.size w w' := by
 go_enter Tryz.func8, Tryz.ntmps8
 go_wp2_with fail
 go_fit (S0.out _)
 rintro e w1 ⟨rfl, b1⟩
 obtain ⟨ka, kb, b1⟩ := al2 b1
 have sz := b1.size
 have bb := b1
 clear b1
 have ta := ka.lt
 have tb := kb.lt
 clear ta tb
 have ca_0 := cel6_0 ka
 have ca_1 := cel6_1 ka
 have ca_2 := cel6_2 ka
 have ca_3 := cel6_3 ka
 have ca_4 := cel6_4 ka
 have ca_5 := cel6_5 ka
 have cb_6 := cel6_0 kb
 have cb_7 := cel6_1 kb
 have cb_8 := cel6_2 kb
 have cb_9 := cel6_3 kb
 have cb_10 := cel6_4 kb
 have cb_11 := cel6_5 kb
 go_wp2_with fail
 clear ca_0 ca_1 ca_2 ca_3 ca_4 ca_5 cb_6 cb_7 cb_8 cb_9 cb_10 cb_11
 go_fit (S1.out _)
 rintro e w2 ⟨rfl, b1⟩
 have sz := b1.size
 replace ka := ka.below b1
 replace kb := kb.below b1
 replace bb := Below.after bb b1
 clear b1
 go_wp2_with fail
 go_fit (HL.out _ bb)
 rintro e w3 ⟨rfl, b1⟩
 have sz := b1.size
 replace ka := ka.below b1
 replace kb := kb.below b1
 replace bb := Below.after bb b1
 clear b1
 go_wp2
 go_ret
 exact ⟨rfl, bb⟩
set_option maxRecDepth 100000 in
set_option maxHeartbeats 8000000 in
theorem squares_l3 (n0 n1 n2 n3 : Bool) (s0 d0 s1 d1 s2 d2 s3 d3 : ByteArray) (E : Int) (hE : ¬ E = 0) (w : World)
  (HL : Hid (∀ w1, Below w.heap.size w w1 → Calls Tryz.prog 10 #[] w1 fun e w' => e = .returned (.bool true) ∧ Below w1.heap.size w1 w'))
  (S0 : Hid (∀ w1, Calls Tryz.prog 9 #[.agg #[.bool n0, .string s0, .string d0, .bool n1, .string s1, .string d1]] w1 fun e w' => e = .returned (.bool true) ∧ Below w1.heap.size w1 w'))
  (S1 : Hid (∀ w1, Calls Tryz.prog 9 #[.agg #[.bool n2, .string s2, .string d2, .bool n3, .string s3, .string d3]] w1 fun e w' => e = .returned (.bool true) ∧ Below w1.heap.size w1 w'))
  (HP : Hid (∀ (B : Nat) (w1 : World), Cel w1 B [.bool n0, .string s0, .string d0, .bool n1, .string s1, .string d1, .bool n2, .string s2, .string d2, .bool n3, .string s3, .string d3] 28 → Calls Tryz.prog 11 #[.slice (some ⟨B, 0, none⟩) 2 2] w1 fun e w' => e = .returned (.int .i64 E) ∧ Below w1.heap.size w1 w')) :
  Calls Tryz.prog 8 #[.agg #[.bool n0, .string s0, .string d0, .bool n1, .string s1, .string d1], .agg #[.bool n2, .string s2, .string d2, .bool n3, .string s3, .string d3]] w fun e w' => e = .returned (.bool true) ∧ Below w.heap.size w w' := by
 go_enter Tryz.func8, Tryz.ntmps8
 go_wp2_with fail
 go_fit (S0.out _)
 rintro e w1 ⟨rfl, b1⟩
 obtain ⟨ka, kb, b1⟩ := al2 b1
 have sz := b1.size
 have bb := b1
 clear b1
 have ta := ka.lt
 have tb := kb.lt
 clear ta tb
 have ca_0 := cel6_0 ka
 have ca_1 := cel6_1 ka
 have ca_2 := cel6_2 ka
 have ca_3 := cel6_3 ka
 have ca_4 := cel6_4 ka
 have ca_5 := cel6_5 ka
 have cb_6 := cel6_0 kb
 have cb_7 := cel6_1 kb
 have cb_8 := cel6_2 kb
 have cb_9 := cel6_3 kb
 have cb_10 := cel6_4 kb
 have cb_11 := cel6_5 kb
 go_wp2_with fail
 clear ca_0 ca_1 ca_2 ca_3 ca_4 ca_5 cb_6 cb_7 cb_8 cb_9 cb_10 cb_11
 go_fit (S1.out _)
 rintro e w2 ⟨rfl, b1⟩
 have sz := b1.size
 replace ka := ka.below b1
 replace kb := kb.below b1
 replace bb := Below.after bb b1
 clear b1
 have ca_0 := cel6_0 ka
 have ca_1 := cel6_1 ka
 have ca_2 := cel6_2 ka
 have ca_3 := cel6_3 ka
 have ca_4 := cel6_4 ka
 have ca_5 := cel6_5 ka
 have cb_6 := cel6_0 kb
 have cb_7 := cel6_1 kb
 have cb_8 := cel6_2 kb
 have cb_9 := cel6_3 kb
 have cb_10 := cel6_4 kb
 have cb_11 := cel6_5 kb
 have ca_12 := cel6_0 (ka.alloc (.cells #[.bool n0, .string s0, .string d0, .bool n1, .string s1, .string d1, .bool n2, .string s2, .string d2, .bool n3, .string s3, .string d3] 28))
 have ca_13 := cel6_1 (ka.alloc (.cells #[.bool n0, .string s0, .string d0, .bool n1, .string s1, .string d1, .bool n2, .string s2, .string d2, .bool n3, .string s3, .string d3] 28))
 have ca_14 := cel6_2 (ka.alloc (.cells #[.bool n0, .string s0, .string d0, .bool n1, .string s1, .string d1, .bool n2, .string s2, .string d2, .bool n3, .string s3, .string d3] 28))
 have ca_15 := cel6_3 (ka.alloc (.cells #[.bool n0, .string s0, .string d0, .bool n1, .string s1, .string d1, .bool n2, .string s2, .string d2, .bool n3, .string s3, .string d3] 28))
 have ca_16 := cel6_4 (ka.alloc (.cells #[.bool n0, .string s0, .string d0, .bool n1, .string s1, .string d1, .bool n2, .string s2, .string d2, .bool n3, .string s3, .string d3] 28))
 have ca_17 := cel6_5 (ka.alloc (.cells #[.bool n0, .string s0, .string d0, .bool n1, .string s1, .string d1, .bool n2, .string s2, .string d2, .bool n3, .string s3, .string d3] 28))
 have cb_18 := cel6_0 (kb.alloc (.cells #[.bool n0, .string s0, .string d0, .bool n1, .string s1, .string d1, .bool n2, .string s2, .string d2, .bool n3, .string s3, .string d3] 28))
 have cb_19 := cel6_1 (kb.alloc (.cells #[.bool n0, .string s0, .string d0, .bool n1, .string s1, .string d1, .bool n2, .string s2, .string d2, .bool n3, .string s3, .string d3] 28))
 have cb_20 := cel6_2 (kb.alloc (.cells #[.bool n0, .string s0, .string d0, .bool n1, .string s1, .string d1, .bool n2, .string s2, .string d2, .bool n3, .string s3, .string d3] 28))
 have cb_21 := cel6_3 (kb.alloc (.cells #[.bool n0, .string s0, .string d0, .bool n1, .string s1, .string d1, .bool n2, .string s2, .string d2, .bool n3, .string s3, .string d3] 28))
 have cb_22 := cel6_4 (kb.alloc (.cells #[.bool n0, .string s0, .string d0, .bool n1, .string s1, .string d1, .bool n2, .string s2, .string d2, .bool n3, .string s3, .string d3] 28))
 have cb_23 := cel6_5 (kb.alloc (.cells #[.bool n0, .string s0, .string d0, .bool n1, .string s1, .string d1, .bool n2, .string s2, .string d2, .bool n3, .string s3, .string d3] 28))
 go_wp2_with fail
 clear ca_0 ca_1 ca_2 ca_3 ca_4 ca_5 cb_6 cb_7 cb_8 cb_9 cb_10 cb_11 ca_12 ca_13 ca_14 ca_15 ca_16 ca_17 cb_18 cb_19 cb_20 cb_21 cb_22 cb_23
 go_fit (HP.out _ _ (Cel.new _ _ _))
 rintro e w3 ⟨rfl, b1⟩
 obtain ⟨kl, b1⟩ := al1 b1
 have sz := b1.size
 replace ka := ka.below b1
 replace kb := kb.below b1
 replace bb := Below.after bb b1
 clear b1
 have tl := kl.lt
 clear tl
 clear kl
 go_wp2_with fail
 go_fit (HL.out _ bb)
 rintro e w4 ⟨rfl, b1⟩
 have sz := b1.size
 replace ka := ka.below b1
 replace kb := kb.below b1
 replace bb := Below.after bb b1
 clear b1
 go_wp2
 go_ret
 exact ⟨rfl, bb⟩
set_option maxRecDepth 100000 in
set_option maxHeartbeats 16000000 in
theorem squares_ok (n0 n1 n2 n3 xN yN mN vN pN qN rN : Bool) (s0 d0 s1 d1 s2 d2 s3 d3 xS xD yS yD mS mD vS vD pS pD qS qD rS rD : ByteArray) (w : World)
  (HL : Hid (∀ w1, Below w.heap.size w w1 → Calls Tryz.prog 10 #[] w1 fun e w' => e = .returned (.bool true) ∧ Below w1.heap.size w1 w'))
  (S0 : Hid (∀ w1, Calls Tryz.prog 9 #[.agg #[.bool n0, .string s0, .string d0, .bool n1, .string s1, .string d1]] w1 fun e w' => e = .returned (.bool true) ∧ Below w1.heap.size w1 w'))
  (S1 : Hid (∀ w1, Calls Tryz.prog 9 #[.agg #[.bool n2, .string s2, .string d2, .bool n3, .string s3, .string d3]] w1 fun e w' => e = .returned (.bool true) ∧ Below w1.heap.size w1 w'))
  (HP : Hid (∀ (B : Nat) (w1 : World), Cel w1 B [.bool n0, .string s0, .string d0, .bool n1, .string s1, .string d1, .bool n2, .string s2, .string d2, .bool n3, .string s3, .string d3] 28 → Calls Tryz.prog 11 #[.slice (some ⟨B, 0, none⟩) 2 2] w1 fun e w' => e = .returned (.int .i64 0) ∧ Below w1.heap.size w1 w'))
  (H1 : Hid (∀ w1, Below w.heap.size w w1 → Calls Tryz.prog 14 #[.agg #[.bool n0, .string s0, .string d0, .bool n1, .string s1, .string d1], .agg #[.bool n2, .string s2, .string d2, .bool n3, .string s3, .string d3]] w1 fun e w' => e = .returned (.tuple #[.agg #[.bool xN, .string xS, .string xD], .int .i64 0]) ∧ Below w1.heap.size w1 w'))
  (H2 : Hid (∀ w1, Below w.heap.size w w1 → Calls Tryz.prog 15 #[.agg #[.bool n0, .string s0, .string d0, .bool n1, .string s1, .string d1], .agg #[.bool n2, .string s2, .string d2, .bool n3, .string s3, .string d3]] w1 fun e w' => e = .returned (.tuple #[.agg #[.bool yN, .string yS, .string yD], .int .i64 0]) ∧ Below w1.heap.size w1 w'))
  (H3 : Hid (∀ w1, Below w.heap.size w w1 → Calls Tryz.prog 16 #[.agg #[.bool n0, .string s0, .string d0, .bool n1, .string s1, .string d1]] w1 fun e w' => e = .returned (.tuple #[.agg #[.bool mN, .string mS, .string mD], .int .i64 0]) ∧ Below w1.heap.size w1 w'))
  (H4 : Hid (∀ w1, Below w.heap.size w w1 → Calls Tryz.prog 16 #[.agg #[.bool n2, .string s2, .string d2, .bool n3, .string s3, .string d3]] w1 fun e w' => e = .returned (.tuple #[.agg #[.bool vN, .string vS, .string vD], .int .i64 0]) ∧ Below w1.heap.size w1 w'))
  (H5 : Hid (∀ w1, Calls Tryz.prog 36 #[.agg #[.bool xN, .string xS, .string xD]] w1 fun e w' => e = .returned (.agg #[.bool pN, .string pS, .string pD]) ∧ Below w1.heap.size w1 w'))
  (H6 : Hid (∀ w1, Calls Tryz.prog 36 #[.agg #[.bool yN, .string yS, .string yD]] w1 fun e w' => e = .returned (.agg #[.bool qN, .string qS, .string qD]) ∧ Below w1.heap.size w1 w'))
  (H7 : Hid (∀ w1, Calls Tryz.prog 35 #[.agg #[.bool pN, .string pS, .string pD], .agg #[.bool qN, .string qS, .string qD]] w1 fun e w' => e = .returned (.agg #[.bool rN, .string rS, .string rD]) ∧ Below w1.heap.size w1 w'))
  (H8 : Hid (∀ w1, Calls Tryz.prog 37 #[.agg #[.bool mN, .string mS, .string mD], .agg #[.bool vN, .string vS, .string vD]] w1 fun e w' => e = .returned (.agg #[.bool rN, .string rS, .string rD]) ∧ Below w1.heap.size w1 w')) :
  Calls Tryz.prog 8 #[.agg #[.bool n0, .string s0, .string d0, .bool n1, .string s1, .string d1], .agg #[.bool n2, .string s2, .string d2, .bool n3, .string s3, .string d3]] w fun e w' => e = .returned (.bool true) ∧ Below w.heap.size w w' := by
 go_enter Tryz.func8, Tryz.ntmps8
 go_wp2_with fail
 go_fit (S0.out _)
 rintro e w1 ⟨rfl, b1⟩
 obtain ⟨ka, kb, b1⟩ := al2 b1
 have sz := b1.size
 have bb := b1
 clear b1
 have ta := ka.lt
 have tb := kb.lt
 clear ta tb
 have ca_0 := cel6_0 ka
 have ca_1 := cel6_1 ka
 have ca_2 := cel6_2 ka
 have ca_3 := cel6_3 ka
 have ca_4 := cel6_4 ka
 have ca_5 := cel6_5 ka
 have cb_6 := cel6_0 kb
 have cb_7 := cel6_1 kb
 have cb_8 := cel6_2 kb
 have cb_9 := cel6_3 kb
 have cb_10 := cel6_4 kb
 have cb_11 := cel6_5 kb
 go_wp2_with fail
 clear ca_0 ca_1 ca_2 ca_3 ca_4 ca_5 cb_6 cb_7 cb_8 cb_9 cb_10 cb_11
 go_fit (S1.out _)
 rintro e w2 ⟨rfl, b1⟩
 have sz := b1.size
 replace ka := ka.below b1
 replace kb := kb.below b1
 replace bb := Below.after bb b1
 clear b1
 have ca_0 := cel6_0 ka
 have ca_1 := cel6_1 ka
 have ca_2 := cel6_2 ka
 have ca_3 := cel6_3 ka
 have ca_4 := cel6_4 ka
 have ca_5 := cel6_5 ka
 have cb_6 := cel6_0 kb
 have cb_7 := cel6_1 kb
 have cb_8 := cel6_2 kb
 have cb_9 := cel6_3 kb
 have cb_10 := cel6_4 kb
 have cb_11 := cel6_5 kb
 have ca_12 := cel6_0 (ka.alloc (.cells #[.bool n0, .string s0, .string d0, .bool n1, .string s1, .string d1, .bool n2, .string s2, .string d2, .bool n3, .string s3, .string d3] 28))
 have ca_13 := cel6_1 (ka.alloc (.cells #[.bool n0, .string s0, .string d0, .bool n1, .string s1, .string d1, .bool n2, .string s2, .string d2, .bool n3, .string s3, .string d3] 28))
 have ca_14 := cel6_2 (ka.alloc (.cells #[.bool n0, .string s0, .string d0, .bool n1, .string s1, .string d1, .bool n2, .string s2, .string d2, .bool n3, .string s3, .string d3] 28))
 have ca_15 := cel6_3 (ka.alloc (.cells #[.bool n0, .string s0, .string d0, .bool n1, .string s1, .string d1, .bool n2, .string s2, .string d2, .bool n3, .string s3, .string d3] 28))
 have ca_16 := cel6_4 (ka.alloc (.cells #[.bool n0, .string s0, .string d0, .bool n1, .string s1, .string d1, .bool n2, .string s2, .string d2, .bool n3, .string s3, .string d3] 28))
 have ca_17 := cel6_5 (ka.alloc (.cells #[.bool n0, .string s0, .string d0, .bool n1, .string s1, .string d1, .bool n2, .string s2, .string d2, .bool n3, .string s3, .string d3] 28))
 have cb_18 := cel6_0 (kb.alloc (.cells #[.bool n0, .string s0, .string d0, .bool n1, .string s1, .string d1, .bool n2, .string s2, .string d2, .bool n3, .string s3, .string d3] 28))
 have cb_19 := cel6_1 (kb.alloc (.cells #[.bool n0, .string s0, .string d0, .bool n1, .string s1, .string d1, .bool n2, .string s2, .string d2, .bool n3, .string s3, .string d3] 28))
 have cb_20 := cel6_2 (kb.alloc (.cells #[.bool n0, .string s0, .string d0, .bool n1, .string s1, .string d1, .bool n2, .string s2, .string d2, .bool n3, .string s3, .string d3] 28))
 have cb_21 := cel6_3 (kb.alloc (.cells #[.bool n0, .string s0, .string d0, .bool n1, .string s1, .string d1, .bool n2, .string s2, .string d2, .bool n3, .string s3, .string d3] 28))
 have cb_22 := cel6_4 (kb.alloc (.cells #[.bool n0, .string s0, .string d0, .bool n1, .string s1, .string d1, .bool n2, .string s2, .string d2, .bool n3, .string s3, .string d3] 28))
 have cb_23 := cel6_5 (kb.alloc (.cells #[.bool n0, .string s0, .string d0, .bool n1, .string s1, .string d1, .bool n2, .string s2, .string d2, .bool n3, .string s3, .string d3] 28))
 go_wp2_with fail
 clear ca_0 ca_1 ca_2 ca_3 ca_4 ca_5 cb_6 cb_7 cb_8 cb_9 cb_10 cb_11 ca_12 ca_13 ca_14 ca_15 ca_16 ca_17 cb_18 cb_19 cb_20 cb_21 cb_22 cb_23
 go_fit (HP.out _ _ (Cel.new _ _ _))
 rintro e w3 ⟨rfl, b1⟩
 obtain ⟨kl, b1⟩ := al1 b1
 have sz := b1.size
 replace ka := ka.below b1
 replace kb := kb.below b1
 replace bb := Below.after bb b1
 clear b1
 have tl := kl.lt
 clear tl
 have ca_0 := cel6_0 ka
 have ca_1 := cel6_1 ka
 have ca_2 := cel6_2 ka
 have ca_3 := cel6_3 ka
 have ca_4 := cel6_4 ka
 have ca_5 := cel6_5 ka
 have cb_6 := cel6_0 kb
 have cb_7 := cel6_1 kb
 have cb_8 := cel6_2 kb
 have cb_9 := cel6_3 kb
 have cb_10 := cel6_4 kb
 have cb_11 := cel6_5 kb
 clear kl
 go_wp2_with fail
 clear ca_0 ca_1 ca_2 ca_3 ca_4 ca_5 cb_6 cb_7 cb_8 cb_9 cb_10 cb_11
 go_fit (H1.out _ bb)
 rintro e w4 ⟨rfl, b1⟩
 have sz := b1.size
 replace ka := ka.below b1
 replace kb := kb.below b1
 replace bb := Below.after bb b1
 clear b1
 have ca_0 := cel6_0 ka
 have ca_1 := cel6_1 ka
 have ca_2 := cel6_2 ka
 have ca_3 := cel6_3 ka
 have ca_4 := cel6_4 ka
 have ca_5 := cel6_5 ka
 have cb_6 := cel6_0 kb
 have cb_7 := cel6_1 kb
 have cb_8 := cel6_2 kb
 have cb_9 := cel6_3 kb
 have cb_10 := cel6_4 kb
 have cb_11 := cel6_5 kb
 have ca_12 := cel6_0 (ka.alloc (.cells #[.bool xN, .string xS, .string xD] 26))
 have ca_13 := cel6_1 (ka.alloc (.cells #[.bool xN, .string xS, .string xD] 26))
 have ca_14 := cel6_2 (ka.alloc (.cells #[.bool xN, .string xS, .string xD] 26))
 have ca_15 := cel6_3 (ka.alloc (.cells #[.bool xN, .string xS, .string xD] 26))
 have ca_16 := cel6_4 (ka.alloc (.cells #[.bool xN, .string xS, .string xD] 26))
 have ca_17 := cel6_5 (ka.alloc (.cells #[.bool xN, .string xS, .string xD] 26))
 have cb_18 := cel6_0 (kb.alloc (.cells #[.bool xN, .string xS, .string xD] 26))
 have cb_19 := cel6_1 (kb.alloc (.cells #[.bool xN, .string xS, .string xD] 26))
 have cb_20 := cel6_2 (kb.alloc (.cells #[.bool xN, .string xS, .string xD] 26))
 have cb_21 := cel6_3 (kb.alloc (.cells #[.bool xN, .string xS, .string xD] 26))
 have cb_22 := cel6_4 (kb.alloc (.cells #[.bool xN, .string xS, .string xD] 26))
 have cb_23 := cel6_5 (kb.alloc (.cells #[.bool xN, .string xS, .string xD] 26))
 go_wp2_with fail
 clear ca_0 ca_1 ca_2 ca_3 ca_4 ca_5 cb_6 cb_7 cb_8 cb_9 cb_10 cb_11 ca_12 ca_13 ca_14 ca_15 ca_16 ca_17 cb_18 cb_19 cb_20 cb_21 cb_22 cb_23
 go_fit (H2.out _ (ba bb _))
 rintro e w5 ⟨rfl, b1⟩
 obtain ⟨kx, b1⟩ := al1 b1
 have sz := b1.size
 replace ka := ka.below b1
 replace kb := kb.below b1
 replace bb := Below.after bb b1
 clear b1
 have tx := kx.lt
 clear tx
 have ca_0 := cel6_0 ka
 have ca_1 := cel6_1 ka
 have ca_2 := cel6_2 ka
 have ca_3 := cel6_3 ka
 have ca_4 := cel6_4 ka
 have ca_5 := cel6_5 ka
 have cb_6 := cel6_0 kb
 have cb_7 := cel6_1 kb
 have cb_8 := cel6_2 kb
 have cb_9 := cel6_3 kb
 have cb_10 := cel6_4 kb
 have cb_11 := cel6_5 kb
 have cx_12 := cel3_0 kx
 have cx_13 := cel3_1 kx
 have cx_14 := cel3_2 kx
 have ca_15 := cel6_0 (ka.alloc (.cells #[.bool yN, .string yS, .string yD] 26))
 have ca_16 := cel6_1 (ka.alloc (.cells #[.bool yN, .string yS, .string yD] 26))
 have ca_17 := cel6_2 (ka.alloc (.cells #[.bool yN, .string yS, .string yD] 26))
 have ca_18 := cel6_3 (ka.alloc (.cells #[.bool yN, .string yS, .string yD] 26))
 have ca_19 := cel6_4 (ka.alloc (.cells #[.bool yN, .string yS, .string yD] 26))
 have ca_20 := cel6_5 (ka.alloc (.cells #[.bool yN, .string yS, .string yD] 26))
 have cb_21 := cel6_0 (kb.alloc (.cells #[.bool yN, .string yS, .string yD] 26))
 have cb_22 := cel6_1 (kb.alloc (.cells #[.bool yN, .string yS, .string yD] 26))
 have cb_23 := cel6_2 (kb.alloc (.cells #[.bool yN, .string yS, .string yD] 26))
 have cb_24 := cel6_3 (kb.alloc (.cells #[.bool yN, .string yS, .string yD] 26))
 have cb_25 := cel6_4 (kb.alloc (.cells #[.bool yN, .string yS, .string yD] 26))
 have cb_26 := cel6_5 (kb.alloc (.cells #[.bool yN, .string yS, .string yD] 26))
 have cx_27 := cel3_0 (kx.alloc (.cells #[.bool yN, .string yS, .string yD] 26))
 have cx_28 := cel3_1 (kx.alloc (.cells #[.bool yN, .string yS, .string yD] 26))
 have cx_29 := cel3_2 (kx.alloc (.cells #[.bool yN, .string yS, .string yD] 26))
 go_wp2_with fail
 clear ca_0 ca_1 ca_2 ca_3 ca_4 ca_5 cb_6 cb_7 cb_8 cb_9 cb_10 cb_11 cx_12 cx_13 cx_14 ca_15 ca_16 ca_17 ca_18 ca_19 ca_20 cb_21 cb_22 cb_23 cb_24 cb_25 cb_26 cx_27 cx_28 cx_29
 go_fit (H3.out _ (ba bb _))
 rintro e w6 ⟨rfl, b1⟩
 obtain ⟨ky, b1⟩ := al1 b1
 have sz := b1.size
 replace ka := ka.below b1
 replace kb := kb.below b1
 replace kx := kx.below b1
 replace bb := Below.after bb b1
 clear b1
 have ty := ky.lt
 clear ty
 have ca_0 := cel6_0 ka
 have ca_1 := cel6_1 ka
 have ca_2 := cel6_2 ka
 have ca_3 := cel6_3 ka
 have ca_4 := cel6_4 ka
 have ca_5 := cel6_5 ka
 have cb_6 := cel6_0 kb
 have cb_7 := cel6_1 kb
 have cb_8 := cel6_2 kb
 have cb_9 := cel6_3 kb
 have cb_10 := cel6_4 kb
 have cb_11 := cel6_5 kb
 have cx_12 := cel3_0 kx
 have cx_13 := cel3_1 kx
 have cx_14 := cel3_2 kx
 have cy_15 := cel3_0 ky
 have cy_16 := cel3_1 ky
 have cy_17 := cel3_2 ky
 have ca_18 := cel6_0 (ka.alloc (.cells #[.bool mN, .string mS, .string mD] 26))
 have ca_19 := cel6_1 (ka.alloc (.cells #[.bool mN, .string mS, .string mD] 26))
 have ca_20 := cel6_2 (ka.alloc (.cells #[.bool mN, .string mS, .string mD] 26))
 have ca_21 := cel6_3 (ka.alloc (.cells #[.bool mN, .string mS, .string mD] 26))
 have ca_22 := cel6_4 (ka.alloc (.cells #[.bool mN, .string mS, .string mD] 26))
 have ca_23 := cel6_5 (ka.alloc (.cells #[.bool mN, .string mS, .string mD] 26))
 have cb_24 := cel6_0 (kb.alloc (.cells #[.bool mN, .string mS, .string mD] 26))
 have cb_25 := cel6_1 (kb.alloc (.cells #[.bool mN, .string mS, .string mD] 26))
 have cb_26 := cel6_2 (kb.alloc (.cells #[.bool mN, .string mS, .string mD] 26))
 have cb_27 := cel6_3 (kb.alloc (.cells #[.bool mN, .string mS, .string mD] 26))
 have cb_28 := cel6_4 (kb.alloc (.cells #[.bool mN, .string mS, .string mD] 26))
 have cb_29 := cel6_5 (kb.alloc (.cells #[.bool mN, .string mS, .string mD] 26))
 have cx_30 := cel3_0 (kx.alloc (.cells #[.bool mN, .string mS, .string mD] 26))
 have cx_31 := cel3_1 (kx.alloc (.cells #[.bool mN, .string mS, .string mD] 26))
 have cx_32 := cel3_2 (kx.alloc (.cells #[.bool mN, .string mS, .string mD] 26))
 have cy_33 := cel3_0 (ky.alloc (.cells #[.bool mN, .string mS, .string mD] 26))
 have cy_34 := cel3_1 (ky.alloc (.cells #[.bool mN, .string mS, .string mD] 26))
 have cy_35 := cel3_2 (ky.alloc (.cells #[.bool mN, .string mS, .string mD] 26))
 go_wp2_with fail
 clear ca_0 ca_1 ca_2 ca_3 ca_4 ca_5 cb_6 cb_7 cb_8 cb_9 cb_10 cb_11 cx_12 cx_13 cx_14 cy_15 cy_16 cy_17 ca_18 ca_19 ca_20 ca_21 ca_22 ca_23 cb_24 cb_25 cb_26 cb_27 cb_28 cb_29 cx_30 cx_31 cx_32 cy_33 cy_34 cy_35
 go_fit (H4.out _ (ba bb _))
 rintro e w7 ⟨rfl, b1⟩
 obtain ⟨km, b1⟩ := al1 b1
 have sz := b1.size
 replace ka := ka.below b1
 replace kb := kb.below b1
 replace kx := kx.below b1
 replace ky := ky.below b1
 replace bb := Below.after bb b1
 clear b1
 have tm := km.lt
 clear tm
 have ca_0 := cel6_0 ka
 have ca_1 := cel6_1 ka
 have ca_2 := cel6_2 ka
 have ca_3 := cel6_3 ka
 have ca_4 := cel6_4 ka
 have ca_5 := cel6_5 ka
 have cb_6 := cel6_0 kb
 have cb_7 := cel6_1 kb
 have cb_8 := cel6_2 kb
 have cb_9 := cel6_3 kb
 have cb_10 := cel6_4 kb
 have cb_11 := cel6_5 kb
 have cx_12 := cel3_0 kx
 have cx_13 := cel3_1 kx
 have cx_14 := cel3_2 kx
 have cy_15 := cel3_0 ky
 have cy_16 := cel3_1 ky
 have cy_17 := cel3_2 ky
 have cm_18 := cel3_0 km
 have cm_19 := cel3_1 km
 have cm_20 := cel3_2 km
 have ca_21 := cel6_0 (ka.alloc (.cells #[.bool vN, .string vS, .string vD] 26))
 have ca_22 := cel6_1 (ka.alloc (.cells #[.bool vN, .string vS, .string vD] 26))
 have ca_23 := cel6_2 (ka.alloc (.cells #[.bool vN, .string vS, .string vD] 26))
 have ca_24 := cel6_3 (ka.alloc (.cells #[.bool vN, .string vS, .string vD] 26))
 have ca_25 := cel6_4 (ka.alloc (.cells #[.bool vN, .string vS, .string vD] 26))
 have ca_26 := cel6_5 (ka.alloc (.cells #[.bool vN, .string vS, .string vD] 26))
 have cb_27 := cel6_0 (kb.alloc (.cells #[.bool vN, .string vS, .string vD] 26))
 have cb_28 := cel6_1 (kb.alloc (.cells #[.bool vN, .string vS, .string vD] 26))
 have cb_29 := cel6_2 (kb.alloc (.cells #[.bool vN, .string vS, .string vD] 26))
 have cb_30 := cel6_3 (kb.alloc (.cells #[.bool vN, .string vS, .string vD] 26))
 have cb_31 := cel6_4 (kb.alloc (.cells #[.bool vN, .string vS, .string vD] 26))
 have cb_32 := cel6_5 (kb.alloc (.cells #[.bool vN, .string vS, .string vD] 26))
 have cx_33 := cel3_0 (kx.alloc (.cells #[.bool vN, .string vS, .string vD] 26))
 have cx_34 := cel3_1 (kx.alloc (.cells #[.bool vN, .string vS, .string vD] 26))
 have cx_35 := cel3_2 (kx.alloc (.cells #[.bool vN, .string vS, .string vD] 26))
 have cy_36 := cel3_0 (ky.alloc (.cells #[.bool vN, .string vS, .string vD] 26))
 have cy_37 := cel3_1 (ky.alloc (.cells #[.bool vN, .string vS, .string vD] 26))
 have cy_38 := cel3_2 (ky.alloc (.cells #[.bool vN, .string vS, .string vD] 26))
 have cm_39 := cel3_0 (km.alloc (.cells #[.bool vN, .string vS, .string vD] 26))
 have cm_40 := cel3_1 (km.alloc (.cells #[.bool vN, .string vS, .string vD] 26))
 have cm_41 := cel3_2 (km.alloc (.cells #[.bool vN, .string vS, .string vD] 26))
 go_wp2_with fail
 obtain ⟨w8, hw, kv, b1⟩ := mk1 w7 [.bool vN, .string vS, .string vD] 26
 rw [← hw]
 clear ca_0 ca_1 ca_2 ca_3 ca_4 ca_5 cb_6 cb_7 cb_8 cb_9 cb_10 cb_11 cx_12 cx_13 cx_14 cy_15 cy_16 cy_17 cm_18 cm_19 cm_20 ca_21 ca_22 ca_23 ca_24 ca_25 ca_26 cb_27 cb_28 cb_29 cb_30 cb_31 cb_32 cx_33 cx_34 cx_35 cy_36 cy_37 cy_38 cm_39 cm_40 cm_41
 clear hw
 have sz := b1.size
 have tv := kv.lt
 replace ka := ka.below b1
 replace kb := kb.below b1
 replace kx := kx.below b1
 replace ky := ky.below b1
 replace km := km.below b1
 replace bb := Below.after bb b1
 clear b1
 clear sz tv
 clear ka
 clear kb
 have mkS : Hid (∀ w', Cel w' (w4.heap.size) [.bool xN, .string xS, .string xD] 26 → Cel w' (w5.heap.size) [.bool yN, .string yS, .string yD] 26 → Cel w' (w6.heap.size) [.bool mN, .string mS, .string mD] 26 → Cel w' (w7.heap.size) [.bool vN, .string vS, .string vD] 26 → (w'.cell? ⟨w4.heap.size, 0, none⟩ = some (.bool xN) ∧ w'.cell? ⟨w4.heap.size, 1, none⟩ = some (.string xS) ∧ w'.cell? ⟨w4.heap.size, 2, none⟩ = some (.string xD) ∧ w'.cell? ⟨w5.heap.size, 0, none⟩ = some (.bool yN) ∧ w'.cell? ⟨w5.heap.size, 1, none⟩ = some (.string yS) ∧ w'.cell? ⟨w5.heap.size, 2, none⟩ = some (.string yD) ∧ w'.cell? ⟨w6.heap.size, 0, none⟩ = some (.bool mN) ∧ w'.cell? ⟨w6.heap.size, 1, none⟩ = some (.string mS) ∧ w'.cell? ⟨w6.heap.size, 2, none⟩ = some (.string mD) ∧ w'.cell? ⟨w7.heap.size, 0, none⟩ = some (.bool vN) ∧ w'.cell? ⟨w7.heap.size, 1, none⟩ = some (.string vS) ∧ w'.cell? ⟨w7.heap.size, 2, none⟩ = some (.string vD))) := fun w' hx hy hm hv => ⟨cel3_0 hx, cel3_1 hx, cel3_2 hx, cel3_0 hy, cel3_1 hy, cel3_2 hy, cel3_0 hm, cel3_1 hm, cel3_2 hm, cel3_0 hv, cel3_1 hv, cel3_2 hv⟩
 go_region_held3 (fun w' => w'.cell? ⟨w4.heap.size, 0, none⟩ = some (.bool xN) ∧ w'.cell? ⟨w4.heap.size, 1, none⟩ = some (.string xS) ∧ w'.cell? ⟨w4.heap.size, 2, none⟩ = some (.string xD) ∧ w'.cell? ⟨w5.heap.size, 0, none⟩ = some (.bool yN) ∧ w'.cell? ⟨w5.heap.size, 1, none⟩ = some (.string yS) ∧ w'.cell? ⟨w5.heap.size, 2, none⟩ = some (.string yD) ∧ w'.cell? ⟨w6.heap.size, 0, none⟩ = some (.bool mN) ∧ w'.cell? ⟨w6.heap.size, 1, none⟩ = some (.string mS) ∧ w'.cell? ⟨w6.heap.size, 2, none⟩ = some (.string mD) ∧ w'.cell? ⟨w7.heap.size, 0, none⟩ = some (.bool vN) ∧ w'.cell? ⟨w7.heap.size, 1, none⟩ = some (.string vS) ∧ w'.cell? ⟨w7.heap.size, 2, none⟩ = some (.string vD)) (first | with_reducible exact mkS.out _ kx ky km kv | with_reducible exact mkS.out _ (kx.alloc _) (ky.alloc _) (km.alloc _) (kv.alloc _) | exact mkS.out _ kx ky km kv) (first | (go_at_call 36; go_fit (H5.out _); rintro e wn ⟨rfl, bn⟩; replace kx := kx.below ⟨bn.os, bn.tape, bn.output, bn.size, bn.block⟩; replace ky := ky.below ⟨bn.os, bn.tape, bn.output, bn.size, bn.block⟩; replace km := km.below ⟨bn.os, bn.tape, bn.output, bn.size, bn.block⟩; replace kv := kv.below ⟨bn.os, bn.tape, bn.output, bn.size, bn.block⟩; replace bb := Below.after bb ⟨bn.os, bn.tape, bn.output, bn.size, bn.block⟩) | (go_at_call 36; go_fit (H6.out _); rintro e wn ⟨rfl, bn⟩; replace kx := kx.below ⟨bn.os, bn.tape, bn.output, bn.size, bn.block⟩; replace ky := ky.below ⟨bn.os, bn.tape, bn.output, bn.size, bn.block⟩; replace km := km.below ⟨bn.os, bn.tape, bn.output, bn.size, bn.block⟩; replace kv := kv.below ⟨bn.os, bn.tape, bn.output, bn.size, bn.block⟩; replace bb := Below.after bb ⟨bn.os, bn.tape, bn.output, bn.size, bn.block⟩) | (go_at_call 35; go_fit (H7.out _); rintro e wn ⟨rfl, bn⟩; replace kx := kx.below ⟨bn.os, bn.tape, bn.output, bn.size, bn.block⟩; replace ky := ky.below ⟨bn.os, bn.tape, bn.output, bn.size, bn.block⟩; replace km := km.below ⟨bn.os, bn.tape, bn.output, bn.size, bn.block⟩; replace kv := kv.below ⟨bn.os, bn.tape, bn.output, bn.size, bn.block⟩; replace bb := Below.after bb ⟨bn.os, bn.tape, bn.output, bn.size, bn.block⟩) | (go_at_call 37; go_fit (H8.out _); rintro e wn ⟨rfl, bn⟩; replace kx := kx.below ⟨bn.os, bn.tape, bn.output, bn.size, bn.block⟩; replace ky := ky.below ⟨bn.os, bn.tape, bn.output, bn.size, bn.block⟩; replace km := km.below ⟨bn.os, bn.tape, bn.output, bn.size, bn.block⟩; replace kv := kv.below ⟨bn.os, bn.tape, bn.output, bn.size, bn.block⟩; replace bb := Below.after bb ⟨bn.os, bn.tape, bn.output, bn.size, bn.block⟩) | (go_at_call 10; go_fit (HL.out _ ?_); (first | exact bb | exact bb.drew); rintro e wn ⟨rfl, bn⟩; replace kx := kx.below ⟨bn.os, bn.tape, bn.output, bn.size, bn.block⟩; replace ky := ky.below ⟨bn.os, bn.tape, bn.output, bn.size, bn.block⟩; replace km := km.below ⟨bn.os, bn.tape, bn.output, bn.size, bn.block⟩; replace kv := kv.below ⟨bn.os, bn.tape, bn.output, bn.size, bn.block⟩; replace bb := Below.after bb ⟨bn.os, bn.tape, bn.output, bn.size, bn.block⟩))
 go_wp2
 go_ret
 exact ⟨rfl, bb⟩
end Go.Proofs.YtlpafjbbeljbhaaGreatDoor
