/-
  gussetlaw04: VecReckons, walked.
-/
import Derived.Test.YtlpafjbbeljbhaaGreatDoorG51
namespace Go.Proofs.YtlpafjbbeljbhaaGreatDoor
open Go.RowKit Go.Shelf

set_option maxRecDepth 100000 in
set_option maxHeartbeats 16000000 in
theorem reckons_ok (n0 n1 n2 n3 pN qN fN gN xN yN vN : Bool) (s0 d0 s1 d1 s2 d2 s3 d3 pS pD qS qD fS fD gS gD xS xD yS yD vS vD : ByteArray) (w : World)
  (HL : Hid (∀ w1, Below w.heap.size w w1 → Calls Tryz.prog 10 #[] w1 fun e w' => e = .returned (.bool true) ∧ Below w1.heap.size w1 w'))
  (S0 : Hid (∀ w1, Calls Tryz.prog 9 #[.agg #[.bool n0, .string s0, .string d0, .bool n1, .string s1, .string d1]] w1 fun e w' => e = .returned (.bool true) ∧ Below w1.heap.size w1 w'))
  (S1 : Hid (∀ w1, Calls Tryz.prog 9 #[.agg #[.bool n2, .string s2, .string d2, .bool n3, .string s3, .string d3]] w1 fun e w' => e = .returned (.bool true) ∧ Below w1.heap.size w1 w'))
  (HP : Hid (∀ (B : Nat) (w1 : World), Cel w1 B [.bool n0, .string s0, .string d0, .bool n1, .string s1, .string d1, .bool n2, .string s2, .string d2, .bool n3, .string s3, .string d3] 28 → Calls Tryz.prog 11 #[.slice (some ⟨B, 0, none⟩) 2 2] w1 fun e w' => e = .returned (.int .i64 0) ∧ Below w1.heap.size w1 w'))
  (H1 : Hid (∀ w1, Below w.heap.size w w1 → Calls Tryz.prog 12 #[.agg #[.bool n0, .string s0, .string d0, .bool n1, .string s1, .string d1], .agg #[.bool n2, .string s2, .string d2, .bool n3, .string s3, .string d3]] w1 fun e w' => e = .returned (.tuple #[.agg #[.bool pN, .string pS, .string pD, .bool qN, .string qS, .string qD], .int .i64 0]) ∧ Below w1.heap.size w1 w'))
  (H2 : Hid (∀ w1, Below w.heap.size w w1 → Calls Tryz.prog 13 #[.agg #[.bool n0, .string s0, .string d0, .bool n1, .string s1, .string d1], .agg #[.bool n2, .string s2, .string d2, .bool n3, .string s3, .string d3]] w1 fun e w' => e = .returned (.tuple #[.agg #[.bool fN, .string fS, .string fD, .bool gN, .string gS, .string gD], .int .i64 0]) ∧ Below w1.heap.size w1 w'))
  (H3 : Hid (∀ w1, Below w.heap.size w w1 → Calls Tryz.prog 14 #[.agg #[.bool n0, .string s0, .string d0, .bool n1, .string s1, .string d1], .agg #[.bool n2, .string s2, .string d2, .bool n3, .string s3, .string d3]] w1 fun e w' => e = .returned (.tuple #[.agg #[.bool xN, .string xS, .string xD], .int .i64 0]) ∧ Below w1.heap.size w1 w'))
  (H4 : Hid (∀ w1, Below w.heap.size w w1 → Calls Tryz.prog 15 #[.agg #[.bool n0, .string s0, .string d0, .bool n1, .string s1, .string d1], .agg #[.bool n2, .string s2, .string d2, .bool n3, .string s3, .string d3]] w1 fun e w' => e = .returned (.tuple #[.agg #[.bool yN, .string yS, .string yD], .int .i64 0]) ∧ Below w1.heap.size w1 w'))
  (H5 : Hid (∀ w1, Below w.heap.size w w1 → Calls Tryz.prog 16 #[.agg #[.bool n0, .string s0, .string d0, .bool n1, .string s1, .string d1]] w1 fun e w' => e = .returned (.tuple #[.agg #[.bool vN, .string vS, .string vD], .int .i64 0]) ∧ Below w1.heap.size w1 w'))
  (H6 : Hid (∀ w1, Calls Tryz.prog 17 #[.agg #[.bool n0, .string s0, .string d0, .bool n1, .string s1, .string d1]] w1 fun e w' => e = .returned (.int .i64 0) ∧ Below w1.heap.size w1 w'))
  (H7 : Hid (∀ w1, Below w.heap.size w w1 → Calls Tryz.prog 18 #[.agg #[.bool n0, .string s0, .string d0, .bool n1, .string s1, .string d1]] w1 fun e w' => e = .returned (.int .i64 0) ∧ Below w1.heap.size w1 w'))
  (K1 : Hid (∀ w1, Calls Tryz.prog 19 #[.agg #[.bool n0, .string s0, .string d0, .bool n1, .string s1, .string d1], .agg #[.bool n2, .string s2, .string d2, .bool n3, .string s3, .string d3]] w1 fun e w' => e = .returned (.agg #[.bool pN, .string pS, .string pD, .bool qN, .string qS, .string qD]) ∧ Below w1.heap.size w1 w'))
  (K2 : Hid (∀ w1, Calls Tryz.prog 20 #[.agg #[.bool n0, .string s0, .string d0, .bool n1, .string s1, .string d1], .agg #[.bool n2, .string s2, .string d2, .bool n3, .string s3, .string d3]] w1 fun e w' => e = .returned (.agg #[.bool fN, .string fS, .string fD, .bool gN, .string gS, .string gD]) ∧ Below w1.heap.size w1 w'))
  (K3 : Hid (∀ w1, Calls Tryz.prog 21 #[.agg #[.bool n0, .string s0, .string d0, .bool n1, .string s1, .string d1], .agg #[.bool n2, .string s2, .string d2, .bool n3, .string s3, .string d3]] w1 fun e w' => e = .returned (.agg #[.bool xN, .string xS, .string xD]) ∧ Below w1.heap.size w1 w'))
  (K4 : Hid (∀ w1, Calls Tryz.prog 22 #[.agg #[.bool n0, .string s0, .string d0, .bool n1, .string s1, .string d1], .agg #[.bool n2, .string s2, .string d2, .bool n3, .string s3, .string d3]] w1 fun e w' => e = .returned (.agg #[.bool yN, .string yS, .string yD]) ∧ Below w1.heap.size w1 w'))
  (K5 : Hid (∀ w1, Calls Tryz.prog 23 #[.agg #[.bool n0, .string s0, .string d0, .bool n1, .string s1, .string d1]] w1 fun e w' => e = .returned (.agg #[.bool vN, .string vS, .string vD]) ∧ Below w1.heap.size w1 w')) :
  Calls Tryz.prog 3 #[.agg #[.bool n0, .string s0, .string d0, .bool n1, .string s1, .string d1], .agg #[.bool n2, .string s2, .string d2, .bool n3, .string s3, .string d3]] w fun e w' => e = .returned (.bool true) ∧ Below w.heap.size w w' := by
 go_enter Tryz.func3, Tryz.ntmps3
 go_wp2_with fail
 go_fit (S0.out _)
 rintro e w1 ⟨rfl, b1⟩
 obtain ⟨ka, kb, b1⟩ := al2 b1
 have sz := b1.size
 have bb := b1
 clear b1
 have ta := ka.lt
 have tb := kb.lt
 clear ta tb
 have ca_0 := cel6_0 ka
 have ca_1 := cel6_1 ka
 have ca_2 := cel6_2 ka
 have ca_3 := cel6_3 ka
 have ca_4 := cel6_4 ka
 have ca_5 := cel6_5 ka
 have cb_6 := cel6_0 kb
 have cb_7 := cel6_1 kb
 have cb_8 := cel6_2 kb
 have cb_9 := cel6_3 kb
 have cb_10 := cel6_4 kb
 have cb_11 := cel6_5 kb
 go_wp2_with fail
 clear ca_0 ca_1 ca_2 ca_3 ca_4 ca_5 cb_6 cb_7 cb_8 cb_9 cb_10 cb_11
 go_fit (S1.out _)
 rintro e w2 ⟨rfl, b1⟩
 have sz := b1.size
 replace ka := ka.below b1
 replace kb := kb.below b1
 replace bb := Below.after bb b1
 clear b1
 have ca_0 := cel6_0 ka
 have ca_1 := cel6_1 ka
 have ca_2 := cel6_2 ka
 have ca_3 := cel6_3 ka
 have ca_4 := cel6_4 ka
 have ca_5 := cel6_5 ka
 have cb_6 := cel6_0 kb
 have cb_7 := cel6_1 kb
 have cb_8 := cel6_2 kb
 have cb_9 := cel6_3 kb
 have cb_10 := cel6_4 kb
 have cb_11 := cel6_5 kb
 go_wp2_with fail
 clear ca_0 ca_1 ca_2 ca_3 ca_4 ca_5 cb_6 cb_7 cb_8 cb_9 cb_10 cb_11
 go_fit (HP.out _ _ (Cel.new _ _ _))
 rintro e w3 ⟨rfl, b1⟩
 obtain ⟨kl, b1⟩ := al1 b1
 have sz := b1.size
 replace ka := ka.below b1
 replace kb := kb.below b1
 replace bb := Below.after bb b1
 clear b1
 have tl := kl.lt
 clear tl
 have ca_0 := cel6_0 ka
 have ca_1 := cel6_1 ka
 have ca_2 := cel6_2 ka
 have ca_3 := cel6_3 ka
 have ca_4 := cel6_4 ka
 have ca_5 := cel6_5 ka
 have cb_6 := cel6_0 kb
 have cb_7 := cel6_1 kb
 have cb_8 := cel6_2 kb
 have cb_9 := cel6_3 kb
 have cb_10 := cel6_4 kb
 have cb_11 := cel6_5 kb
 clear kl
 go_wp2_with fail
 clear ca_0 ca_1 ca_2 ca_3 ca_4 ca_5 cb_6 cb_7 cb_8 cb_9 cb_10 cb_11
 go_fit (H1.out _ bb)
 rintro e w4 ⟨rfl, b1⟩
 have sz := b1.size
 replace ka := ka.below b1
 replace kb := kb.below b1
 replace bb := Below.after bb b1
 clear b1
 have ca_0 := cel6_0 ka
 have ca_1 := cel6_1 ka
 have ca_2 := cel6_2 ka
 have ca_3 := cel6_3 ka
 have ca_4 := cel6_4 ka
 have ca_5 := cel6_5 ka
 have cb_6 := cel6_0 kb
 have cb_7 := cel6_1 kb
 have cb_8 := cel6_2 kb
 have cb_9 := cel6_3 kb
 have cb_10 := cel6_4 kb
 have cb_11 := cel6_5 kb
 have ca_12 := cel6_0 (ka.alloc (.cells #[.bool pN, .string pS, .string pD, .bool qN, .string qS, .string qD] 28))
 have ca_13 := cel6_1 (ka.alloc (.cells #[.bool pN, .string pS, .string pD, .bool qN, .string qS, .string qD] 28))
 have ca_14 := cel6_2 (ka.alloc (.cells #[.bool pN, .string pS, .string pD, .bool qN, .string qS, .string qD] 28))
 have ca_15 := cel6_3 (ka.alloc (.cells #[.bool pN, .string pS, .string pD, .bool qN, .string qS, .string qD] 28))
 have ca_16 := cel6_4 (ka.alloc (.cells #[.bool pN, .string pS, .string pD, .bool qN, .string qS, .string qD] 28))
 have ca_17 := cel6_5 (ka.alloc (.cells #[.bool pN, .string pS, .string pD, .bool qN, .string qS, .string qD] 28))
 have cb_18 := cel6_0 (kb.alloc (.cells #[.bool pN, .string pS, .string pD, .bool qN, .string qS, .string qD] 28))
 have cb_19 := cel6_1 (kb.alloc (.cells #[.bool pN, .string pS, .string pD, .bool qN, .string qS, .string qD] 28))
 have cb_20 := cel6_2 (kb.alloc (.cells #[.bool pN, .string pS, .string pD, .bool qN, .string qS, .string qD] 28))
 have cb_21 := cel6_3 (kb.alloc (.cells #[.bool pN, .string pS, .string pD, .bool qN, .string qS, .string qD] 28))
 have cb_22 := cel6_4 (kb.alloc (.cells #[.bool pN, .string pS, .string pD, .bool qN, .string qS, .string qD] 28))
 have cb_23 := cel6_5 (kb.alloc (.cells #[.bool pN, .string pS, .string pD, .bool qN, .string qS, .string qD] 28))
 go_wp2_with fail
 clear ca_0 ca_1 ca_2 ca_3 ca_4 ca_5 cb_6 cb_7 cb_8 cb_9 cb_10 cb_11 ca_12 ca_13 ca_14 ca_15 ca_16 ca_17 cb_18 cb_19 cb_20 cb_21 cb_22 cb_23
 go_fit (H2.out _ (ba bb _))
 rintro e w5 ⟨rfl, b1⟩
 obtain ⟨ks, b1⟩ := al1 b1
 have sz := b1.size
 replace ka := ka.below b1
 replace kb := kb.below b1
 replace bb := Below.after bb b1
 clear b1
 have ts := ks.lt
 clear ts
 have ca_0 := cel6_0 ka
 have ca_1 := cel6_1 ka
 have ca_2 := cel6_2 ka
 have ca_3 := cel6_3 ka
 have ca_4 := cel6_4 ka
 have ca_5 := cel6_5 ka
 have cb_6 := cel6_0 kb
 have cb_7 := cel6_1 kb
 have cb_8 := cel6_2 kb
 have cb_9 := cel6_3 kb
 have cb_10 := cel6_4 kb
 have cb_11 := cel6_5 kb
 have ca_12 := cel6_0 (ka.alloc (.cells #[.bool fN, .string fS, .string fD, .bool gN, .string gS, .string gD] 28))
 have ca_13 := cel6_1 (ka.alloc (.cells #[.bool fN, .string fS, .string fD, .bool gN, .string gS, .string gD] 28))
 have ca_14 := cel6_2 (ka.alloc (.cells #[.bool fN, .string fS, .string fD, .bool gN, .string gS, .string gD] 28))
 have ca_15 := cel6_3 (ka.alloc (.cells #[.bool fN, .string fS, .string fD, .bool gN, .string gS, .string gD] 28))
 have ca_16 := cel6_4 (ka.alloc (.cells #[.bool fN, .string fS, .string fD, .bool gN, .string gS, .string gD] 28))
 have ca_17 := cel6_5 (ka.alloc (.cells #[.bool fN, .string fS, .string fD, .bool gN, .string gS, .string gD] 28))
 have cb_18 := cel6_0 (kb.alloc (.cells #[.bool fN, .string fS, .string fD, .bool gN, .string gS, .string gD] 28))
 have cb_19 := cel6_1 (kb.alloc (.cells #[.bool fN, .string fS, .string fD, .bool gN, .string gS, .string gD] 28))
 have cb_20 := cel6_2 (kb.alloc (.cells #[.bool fN, .string fS, .string fD, .bool gN, .string gS, .string gD] 28))
 have cb_21 := cel6_3 (kb.alloc (.cells #[.bool fN, .string fS, .string fD, .bool gN, .string gS, .string gD] 28))
 have cb_22 := cel6_4 (kb.alloc (.cells #[.bool fN, .string fS, .string fD, .bool gN, .string gS, .string gD] 28))
 have cb_23 := cel6_5 (kb.alloc (.cells #[.bool fN, .string fS, .string fD, .bool gN, .string gS, .string gD] 28))
 go_wp2_with fail
 clear ca_0 ca_1 ca_2 ca_3 ca_4 ca_5 cb_6 cb_7 cb_8 cb_9 cb_10 cb_11 ca_12 ca_13 ca_14 ca_15 ca_16 ca_17 cb_18 cb_19 cb_20 cb_21 cb_22 cb_23
 go_fit (H3.out _ (ba bb _))
 rintro e w6 ⟨rfl, b1⟩
 obtain ⟨kd, b1⟩ := al1 b1
 have sz := b1.size
 replace ka := ka.below b1
 replace kb := kb.below b1
 replace ks := ks.below b1
 replace bb := Below.after bb b1
 clear b1
 have td := kd.lt
 clear td
 have ca_0 := cel6_0 ka
 have ca_1 := cel6_1 ka
 have ca_2 := cel6_2 ka
 have ca_3 := cel6_3 ka
 have ca_4 := cel6_4 ka
 have ca_5 := cel6_5 ka
 have cb_6 := cel6_0 kb
 have cb_7 := cel6_1 kb
 have cb_8 := cel6_2 kb
 have cb_9 := cel6_3 kb
 have cb_10 := cel6_4 kb
 have cb_11 := cel6_5 kb
 have ca_12 := cel6_0 (ka.alloc (.cells #[.bool xN, .string xS, .string xD] 26))
 have ca_13 := cel6_1 (ka.alloc (.cells #[.bool xN, .string xS, .string xD] 26))
 have ca_14 := cel6_2 (ka.alloc (.cells #[.bool xN, .string xS, .string xD] 26))
 have ca_15 := cel6_3 (ka.alloc (.cells #[.bool xN, .string xS, .string xD] 26))
 have ca_16 := cel6_4 (ka.alloc (.cells #[.bool xN, .string xS, .string xD] 26))
 have ca_17 := cel6_5 (ka.alloc (.cells #[.bool xN, .string xS, .string xD] 26))
 have cb_18 := cel6_0 (kb.alloc (.cells #[.bool xN, .string xS, .string xD] 26))
 have cb_19 := cel6_1 (kb.alloc (.cells #[.bool xN, .string xS, .string xD] 26))
 have cb_20 := cel6_2 (kb.alloc (.cells #[.bool xN, .string xS, .string xD] 26))
 have cb_21 := cel6_3 (kb.alloc (.cells #[.bool xN, .string xS, .string xD] 26))
 have cb_22 := cel6_4 (kb.alloc (.cells #[.bool xN, .string xS, .string xD] 26))
 have cb_23 := cel6_5 (kb.alloc (.cells #[.bool xN, .string xS, .string xD] 26))
 go_wp2_with fail
 clear ca_0 ca_1 ca_2 ca_3 ca_4 ca_5 cb_6 cb_7 cb_8 cb_9 cb_10 cb_11 ca_12 ca_13 ca_14 ca_15 ca_16 ca_17 cb_18 cb_19 cb_20 cb_21 cb_22 cb_23
 go_fit (H4.out _ (ba bb _))
 rintro e w7 ⟨rfl, b1⟩
 obtain ⟨kx, b1⟩ := al1 b1
 have sz := b1.size
 replace ka := ka.below b1
 replace kb := kb.below b1
 replace ks := ks.below b1
 replace kd := kd.below b1
 replace bb := Below.after bb b1
 clear b1
 have tx := kx.lt
 clear tx
 have ca_0 := cel6_0 ka
 have ca_1 := cel6_1 ka
 have ca_2 := cel6_2 ka
 have ca_3 := cel6_3 ka
 have ca_4 := cel6_4 ka
 have ca_5 := cel6_5 ka
 have cb_6 := cel6_0 kb
 have cb_7 := cel6_1 kb
 have cb_8 := cel6_2 kb
 have cb_9 := cel6_3 kb
 have cb_10 := cel6_4 kb
 have cb_11 := cel6_5 kb
 have ca_12 := cel6_0 (ka.alloc (.cells #[.bool yN, .string yS, .string yD] 26))
 have ca_13 := cel6_1 (ka.alloc (.cells #[.bool yN, .string yS, .string yD] 26))
 have ca_14 := cel6_2 (ka.alloc (.cells #[.bool yN, .string yS, .string yD] 26))
 have ca_15 := cel6_3 (ka.alloc (.cells #[.bool yN, .string yS, .string yD] 26))
 have ca_16 := cel6_4 (ka.alloc (.cells #[.bool yN, .string yS, .string yD] 26))
 have ca_17 := cel6_5 (ka.alloc (.cells #[.bool yN, .string yS, .string yD] 26))
 have cb_18 := cel6_0 (kb.alloc (.cells #[.bool yN, .string yS, .string yD] 26))
 have cb_19 := cel6_1 (kb.alloc (.cells #[.bool yN, .string yS, .string yD] 26))
 have cb_20 := cel6_2 (kb.alloc (.cells #[.bool yN, .string yS, .string yD] 26))
 have cb_21 := cel6_3 (kb.alloc (.cells #[.bool yN, .string yS, .string yD] 26))
 have cb_22 := cel6_4 (kb.alloc (.cells #[.bool yN, .string yS, .string yD] 26))
 have cb_23 := cel6_5 (kb.alloc (.cells #[.bool yN, .string yS, .string yD] 26))
 go_wp2_with fail
 clear ca_0 ca_1 ca_2 ca_3 ca_4 ca_5 cb_6 cb_7 cb_8 cb_9 cb_10 cb_11 ca_12 ca_13 ca_14 ca_15 ca_16 ca_17 cb_18 cb_19 cb_20 cb_21 cb_22 cb_23
 go_fit (H5.out _ (ba bb _))
 rintro e w8 ⟨rfl, b1⟩
 obtain ⟨ky, b1⟩ := al1 b1
 have sz := b1.size
 replace ka := ka.below b1
 replace kb := kb.below b1
 replace ks := ks.below b1
 replace kd := kd.below b1
 replace kx := kx.below b1
 replace bb := Below.after bb b1
 clear b1
 have ty := ky.lt
 clear ty
 have ca_0 := cel6_0 ka
 have ca_1 := cel6_1 ka
 have ca_2 := cel6_2 ka
 have ca_3 := cel6_3 ka
 have ca_4 := cel6_4 ka
 have ca_5 := cel6_5 ka
 have cb_6 := cel6_0 kb
 have cb_7 := cel6_1 kb
 have cb_8 := cel6_2 kb
 have cb_9 := cel6_3 kb
 have cb_10 := cel6_4 kb
 have cb_11 := cel6_5 kb
 have ca_12 := cel6_0 (ka.alloc (.cells #[.bool vN, .string vS, .string vD] 26))
 have ca_13 := cel6_1 (ka.alloc (.cells #[.bool vN, .string vS, .string vD] 26))
 have ca_14 := cel6_2 (ka.alloc (.cells #[.bool vN, .string vS, .string vD] 26))
 have ca_15 := cel6_3 (ka.alloc (.cells #[.bool vN, .string vS, .string vD] 26))
 have ca_16 := cel6_4 (ka.alloc (.cells #[.bool vN, .string vS, .string vD] 26))
 have ca_17 := cel6_5 (ka.alloc (.cells #[.bool vN, .string vS, .string vD] 26))
 have cb_18 := cel6_0 (kb.alloc (.cells #[.bool vN, .string vS, .string vD] 26))
 have cb_19 := cel6_1 (kb.alloc (.cells #[.bool vN, .string vS, .string vD] 26))
 have cb_20 := cel6_2 (kb.alloc (.cells #[.bool vN, .string vS, .string vD] 26))
 have cb_21 := cel6_3 (kb.alloc (.cells #[.bool vN, .string vS, .string vD] 26))
 have cb_22 := cel6_4 (kb.alloc (.cells #[.bool vN, .string vS, .string vD] 26))
 have cb_23 := cel6_5 (kb.alloc (.cells #[.bool vN, .string vS, .string vD] 26))
 go_wp2_with fail
 clear ca_0 ca_1 ca_2 ca_3 ca_4 ca_5 cb_6 cb_7 cb_8 cb_9 cb_10 cb_11 ca_12 ca_13 ca_14 ca_15 ca_16 ca_17 cb_18 cb_19 cb_20 cb_21 cb_22 cb_23
 go_fit (H6.out _)
 rintro e w9 ⟨rfl, b1⟩
 obtain ⟨kv, b1⟩ := al1 b1
 have sz := b1.size
 replace ka := ka.below b1
 replace kb := kb.below b1
 replace ks := ks.below b1
 replace kd := kd.below b1
 replace kx := kx.below b1
 replace ky := ky.below b1
 replace bb := Below.after bb b1
 clear b1
 have tv := kv.lt
 clear tv
 have ca_0 := cel6_0 ka
 have ca_1 := cel6_1 ka
 have ca_2 := cel6_2 ka
 have ca_3 := cel6_3 ka
 have ca_4 := cel6_4 ka
 have ca_5 := cel6_5 ka
 go_wp2_with fail
 clear ca_0 ca_1 ca_2 ca_3 ca_4 ca_5
 go_fit (H7.out _ bb)
 rintro e w10 ⟨rfl, b1⟩
 have sz := b1.size
 replace ka := ka.below b1
 replace kb := kb.below b1
 replace ks := ks.below b1
 replace kd := kd.below b1
 replace kx := kx.below b1
 replace ky := ky.below b1
 replace kv := kv.below b1
 replace bb := Below.after bb b1
 clear b1
 go_wp2_with fail
 have mkS : Hid (∀ w', Cel w' (w.heap.size) [.bool n0, .string s0, .string d0, .bool n1, .string s1, .string d1] 28 → Cel w' (w.heap.size + 1) [.bool n2, .string s2, .string d2, .bool n3, .string s3, .string d3] 28 → Cel w' (w4.heap.size) [.bool pN, .string pS, .string pD, .bool qN, .string qS, .string qD] 28 → Cel w' (w5.heap.size) [.bool fN, .string fS, .string fD, .bool gN, .string gS, .string gD] 28 → Cel w' (w6.heap.size) [.bool xN, .string xS, .string xD] 26 → Cel w' (w7.heap.size) [.bool yN, .string yS, .string yD] 26 → Cel w' (w8.heap.size) [.bool vN, .string vS, .string vD] 26 → (w'.cell? ⟨w.heap.size, 0, none⟩ = some (.bool n0) ∧ w'.cell? ⟨w.heap.size, 1, none⟩ = some (.string s0) ∧ w'.cell? ⟨w.heap.size, 2, none⟩ = some (.string d0) ∧ w'.cell? ⟨w.heap.size, 3, none⟩ = some (.bool n1) ∧ w'.cell? ⟨w.heap.size, 4, none⟩ = some (.string s1) ∧ w'.cell? ⟨w.heap.size, 5, none⟩ = some (.string d1) ∧ w'.cell? ⟨w.heap.size + 1, 0, none⟩ = some (.bool n2) ∧ w'.cell? ⟨w.heap.size + 1, 1, none⟩ = some (.string s2) ∧ w'.cell? ⟨w.heap.size + 1, 2, none⟩ = some (.string d2) ∧ w'.cell? ⟨w.heap.size + 1, 3, none⟩ = some (.bool n3) ∧ w'.cell? ⟨w.heap.size + 1, 4, none⟩ = some (.string s3) ∧ w'.cell? ⟨w.heap.size + 1, 5, none⟩ = some (.string d3) ∧ w'.cell? ⟨w4.heap.size, 0, none⟩ = some (.bool pN) ∧ w'.cell? ⟨w4.heap.size, 1, none⟩ = some (.string pS) ∧ w'.cell? ⟨w4.heap.size, 2, none⟩ = some (.string pD) ∧ w'.cell? ⟨w4.heap.size, 3, none⟩ = some (.bool qN) ∧ w'.cell? ⟨w4.heap.size, 4, none⟩ = some (.string qS) ∧ w'.cell? ⟨w4.heap.size, 5, none⟩ = some (.string qD) ∧ w'.cell? ⟨w5.heap.size, 0, none⟩ = some (.bool fN) ∧ w'.cell? ⟨w5.heap.size, 1, none⟩ = some (.string fS) ∧ w'.cell? ⟨w5.heap.size, 2, none⟩ = some (.string fD) ∧ w'.cell? ⟨w5.heap.size, 3, none⟩ = some (.bool gN) ∧ w'.cell? ⟨w5.heap.size, 4, none⟩ = some (.string gS) ∧ w'.cell? ⟨w5.heap.size, 5, none⟩ = some (.string gD) ∧ w'.cell? ⟨w6.heap.size, 0, none⟩ = some (.bool xN) ∧ w'.cell? ⟨w6.heap.size, 1, none⟩ = some (.string xS) ∧ w'.cell? ⟨w6.heap.size, 2, none⟩ = some (.string xD) ∧ w'.cell? ⟨w7.heap.size, 0, none⟩ = some (.bool yN) ∧ w'.cell? ⟨w7.heap.size, 1, none⟩ = some (.string yS) ∧ w'.cell? ⟨w7.heap.size, 2, none⟩ = some (.string yD) ∧ w'.cell? ⟨w8.heap.size, 0, none⟩ = some (.bool vN) ∧ w'.cell? ⟨w8.heap.size, 1, none⟩ = some (.string vS) ∧ w'.cell? ⟨w8.heap.size, 2, none⟩ = some (.string vD))) := fun w' ha hb hs hd hx hy hv => ⟨cel6_0 ha, cel6_1 ha, cel6_2 ha, cel6_3 ha, cel6_4 ha, cel6_5 ha, cel6_0 hb, cel6_1 hb, cel6_2 hb, cel6_3 hb, cel6_4 hb, cel6_5 hb, cel6_0 hs, cel6_1 hs, cel6_2 hs, cel6_3 hs, cel6_4 hs, cel6_5 hs, cel6_0 hd, cel6_1 hd, cel6_2 hd, cel6_3 hd, cel6_4 hd, cel6_5 hd, cel3_0 hx, cel3_1 hx, cel3_2 hx, cel3_0 hy, cel3_1 hy, cel3_2 hy, cel3_0 hv, cel3_1 hv, cel3_2 hv⟩
 go_region_held3 (fun w' => w'.cell? ⟨w.heap.size, 0, none⟩ = some (.bool n0) ∧ w'.cell? ⟨w.heap.size, 1, none⟩ = some (.string s0) ∧ w'.cell? ⟨w.heap.size, 2, none⟩ = some (.string d0) ∧ w'.cell? ⟨w.heap.size, 3, none⟩ = some (.bool n1) ∧ w'.cell? ⟨w.heap.size, 4, none⟩ = some (.string s1) ∧ w'.cell? ⟨w.heap.size, 5, none⟩ = some (.string d1) ∧ w'.cell? ⟨w.heap.size + 1, 0, none⟩ = some (.bool n2) ∧ w'.cell? ⟨w.heap.size + 1, 1, none⟩ = some (.string s2) ∧ w'.cell? ⟨w.heap.size + 1, 2, none⟩ = some (.string d2) ∧ w'.cell? ⟨w.heap.size + 1, 3, none⟩ = some (.bool n3) ∧ w'.cell? ⟨w.heap.size + 1, 4, none⟩ = some (.string s3) ∧ w'.cell? ⟨w.heap.size + 1, 5, none⟩ = some (.string d3) ∧ w'.cell? ⟨w4.heap.size, 0, none⟩ = some (.bool pN) ∧ w'.cell? ⟨w4.heap.size, 1, none⟩ = some (.string pS) ∧ w'.cell? ⟨w4.heap.size, 2, none⟩ = some (.string pD) ∧ w'.cell? ⟨w4.heap.size, 3, none⟩ = some (.bool qN) ∧ w'.cell? ⟨w4.heap.size, 4, none⟩ = some (.string qS) ∧ w'.cell? ⟨w4.heap.size, 5, none⟩ = some (.string qD) ∧ w'.cell? ⟨w5.heap.size, 0, none⟩ = some (.bool fN) ∧ w'.cell? ⟨w5.heap.size, 1, none⟩ = some (.string fS) ∧ w'.cell? ⟨w5.heap.size, 2, none⟩ = some (.string fD) ∧ w'.cell? ⟨w5.heap.size, 3, none⟩ = some (.bool gN) ∧ w'.cell? ⟨w5.heap.size, 4, none⟩ = some (.string gS) ∧ w'.cell? ⟨w5.heap.size, 5, none⟩ = some (.string gD) ∧ w'.cell? ⟨w6.heap.size, 0, none⟩ = some (.bool xN) ∧ w'.cell? ⟨w6.heap.size, 1, none⟩ = some (.string xS) ∧ w'.cell? ⟨w6.heap.size, 2, none⟩ = some (.string xD) ∧ w'.cell? ⟨w7.heap.size, 0, none⟩ = some (.bool yN) ∧ w'.cell? ⟨w7.heap.size, 1, none⟩ = some (.string yS) ∧ w'.cell? ⟨w7.heap.size, 2, none⟩ = some (.string yD) ∧ w'.cell? ⟨w8.heap.size, 0, none⟩ = some (.bool vN) ∧ w'.cell? ⟨w8.heap.size, 1, none⟩ = some (.string vS) ∧ w'.cell? ⟨w8.heap.size, 2, none⟩ = some (.string vD)) (first | with_reducible exact mkS.out _ ka kb ks kd kx ky kv | with_reducible exact mkS.out _ (ka.alloc _) (kb.alloc _) (ks.alloc _) (kd.alloc _) (kx.alloc _) (ky.alloc _) (kv.alloc _) | exact mkS.out _ ka kb ks kd kx ky kv) (first | (go_at_call 19; go_fit (K1.out _); rintro e wn ⟨rfl, bn⟩; replace ka := ka.below ⟨bn.os, bn.tape, bn.output, bn.size, bn.block⟩; replace kb := kb.below ⟨bn.os, bn.tape, bn.output, bn.size, bn.block⟩; replace ks := ks.below ⟨bn.os, bn.tape, bn.output, bn.size, bn.block⟩; replace kd := kd.below ⟨bn.os, bn.tape, bn.output, bn.size, bn.block⟩; replace kx := kx.below ⟨bn.os, bn.tape, bn.output, bn.size, bn.block⟩; replace ky := ky.below ⟨bn.os, bn.tape, bn.output, bn.size, bn.block⟩; replace kv := kv.below ⟨bn.os, bn.tape, bn.output, bn.size, bn.block⟩; replace bb := Below.after bb ⟨bn.os, bn.tape, bn.output, bn.size, bn.block⟩) | (go_at_call 20; go_fit (K2.out _); rintro e wn ⟨rfl, bn⟩; replace ka := ka.below ⟨bn.os, bn.tape, bn.output, bn.size, bn.block⟩; replace kb := kb.below ⟨bn.os, bn.tape, bn.output, bn.size, bn.block⟩; replace ks := ks.below ⟨bn.os, bn.tape, bn.output, bn.size, bn.block⟩; replace kd := kd.below ⟨bn.os, bn.tape, bn.output, bn.size, bn.block⟩; replace kx := kx.below ⟨bn.os, bn.tape, bn.output, bn.size, bn.block⟩; replace ky := ky.below ⟨bn.os, bn.tape, bn.output, bn.size, bn.block⟩; replace kv := kv.below ⟨bn.os, bn.tape, bn.output, bn.size, bn.block⟩; replace bb := Below.after bb ⟨bn.os, bn.tape, bn.output, bn.size, bn.block⟩) | (go_at_call 21; go_fit (K3.out _); rintro e wn ⟨rfl, bn⟩; replace ka := ka.below ⟨bn.os, bn.tape, bn.output, bn.size, bn.block⟩; replace kb := kb.below ⟨bn.os, bn.tape, bn.output, bn.size, bn.block⟩; replace ks := ks.below ⟨bn.os, bn.tape, bn.output, bn.size, bn.block⟩; replace kd := kd.below ⟨bn.os, bn.tape, bn.output, bn.size, bn.block⟩; replace kx := kx.below ⟨bn.os, bn.tape, bn.output, bn.size, bn.block⟩; replace ky := ky.below ⟨bn.os, bn.tape, bn.output, bn.size, bn.block⟩; replace kv := kv.below ⟨bn.os, bn.tape, bn.output, bn.size, bn.block⟩; replace bb := Below.after bb ⟨bn.os, bn.tape, bn.output, bn.size, bn.block⟩) | (go_at_call 22; go_fit (K4.out _); rintro e wn ⟨rfl, bn⟩; replace ka := ka.below ⟨bn.os, bn.tape, bn.output, bn.size, bn.block⟩; replace kb := kb.below ⟨bn.os, bn.tape, bn.output, bn.size, bn.block⟩; replace ks := ks.below ⟨bn.os, bn.tape, bn.output, bn.size, bn.block⟩; replace kd := kd.below ⟨bn.os, bn.tape, bn.output, bn.size, bn.block⟩; replace kx := kx.below ⟨bn.os, bn.tape, bn.output, bn.size, bn.block⟩; replace ky := ky.below ⟨bn.os, bn.tape, bn.output, bn.size, bn.block⟩; replace kv := kv.below ⟨bn.os, bn.tape, bn.output, bn.size, bn.block⟩; replace bb := Below.after bb ⟨bn.os, bn.tape, bn.output, bn.size, bn.block⟩) | (go_at_call 23; go_fit (K5.out _); rintro e wn ⟨rfl, bn⟩; replace ka := ka.below ⟨bn.os, bn.tape, bn.output, bn.size, bn.block⟩; replace kb := kb.below ⟨bn.os, bn.tape, bn.output, bn.size, bn.block⟩; replace ks := ks.below ⟨bn.os, bn.tape, bn.output, bn.size, bn.block⟩; replace kd := kd.below ⟨bn.os, bn.tape, bn.output, bn.size, bn.block⟩; replace kx := kx.below ⟨bn.os, bn.tape, bn.output, bn.size, bn.block⟩; replace ky := ky.below ⟨bn.os, bn.tape, bn.output, bn.size, bn.block⟩; replace kv := kv.below ⟨bn.os, bn.tape, bn.output, bn.size, bn.block⟩; replace bb := Below.after bb ⟨bn.os, bn.tape, bn.output, bn.size, bn.block⟩) | (go_at_call 10; go_fit (HL.out _ ?_); (first | exact bb | exact bb.drew); rintro e wn ⟨rfl, bn⟩; replace ka := ka.below ⟨bn.os, bn.tape, bn.output, bn.size, bn.block⟩; replace kb := kb.below ⟨bn.os, bn.tape, bn.output, bn.size, bn.block⟩; replace ks := ks.below ⟨bn.os, bn.tape, bn.output, bn.size, bn.block⟩; replace kd := kd.below ⟨bn.os, bn.tape, bn.output, bn.size, bn.block⟩; replace kx := kx.below ⟨bn.os, bn.tape, bn.output, bn.size, bn.block⟩; replace ky := ky.below ⟨bn.os, bn.tape, bn.output, bn.size, bn.block⟩; replace kv := kv.below ⟨bn.os, bn.tape, bn.output, bn.size, bn.block⟩; replace bb := Below.after bb ⟨bn.os, bn.tape, bn.output, bn.size, bn.block⟩))
 go_wp2
 go_ret
 exact ⟨rfl, bb⟩
end Go.Proofs.YtlpafjbbeljbhaaGreatDoor
