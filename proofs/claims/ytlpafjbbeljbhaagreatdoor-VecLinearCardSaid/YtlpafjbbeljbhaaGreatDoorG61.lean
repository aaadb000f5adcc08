/-
  gussetlaw04: VecLinear, walked.
-/
import Derived.Test.YtlpafjbbeljbhaaGreatDoorG51
namespace Go.Proofs.YtlpafjbbeljbhaaGreatDoor
open Go.RowKit Go.Shelf
set_option maxRecDepth 100000 in
set_option maxHeartbeats 32000000 in
theorem linear_ok2 (n0 n1 n2 n3 n4 n5 pN qN eN fN gN hN xN yN zN mN : Bool) (s0 d0 s1 d1 s2 d2 s3 d3 s4 d4 s5 d5 pS pD qS qD eS eD fS fD gS gD hS hD xS xD yS yD zS zD mS mD : ByteArray) (w : World)
  (HL : Hid (∀ w1, Below w.heap.size w w1 → Calls Tryz.prog 10 #[] w1 fun e w' => e = .returned (.bool true) ∧ Below w1.heap.size w1 w'))
  (S0 : Hid (∀ w1, Calls Tryz.prog 9 #[.agg #[.bool n0, .string s0, .string d0, .bool n1, .string s1, .string d1]] w1 fun e w' => e = .returned (.bool true) ∧ Below w1.heap.size w1 w'))
  (S1 : Hid (∀ w1, Calls Tryz.prog 9 #[.agg #[.bool n2, .string s2, .string d2, .bool n3, .string s3, .string d3]] w1 fun e w' => e = .returned (.bool true) ∧ Below w1.heap.size w1 w'))
  (S2 : Hid (∀ w1, Calls Tryz.prog 9 #[.agg #[.bool n4, .string s4, .string d4, .bool n5, .string s5, .string d5]] w1 fun e w' => e = .returned (.bool true) ∧ Below w1.heap.size w1 w'))
  (HP : Hid (∀ (B : Nat) (w1 : World), Cel w1 B [.bool n0, .string s0, .string d0, .bool n1, .string s1, .string d1, .bool n2, .string s2, .string d2, .bool n3, .string s3, .string d3, .bool n4, .string s4, .string d4, .bool n5, .string s5, .string d5] 28 → Calls Tryz.prog 11 #[.slice (some ⟨B, 0, none⟩) 3 3] w1 fun e w' => e = .returned (.int .i64 0) ∧ Below w1.heap.size w1 w'))
  (H1 : Hid (∀ w1, Below w.heap.size w w1 → Calls Tryz.prog 12 #[.agg #[.bool n0, .string s0, .string d0, .bool n1, .string s1, .string d1], .agg #[.bool n2, .string s2, .string d2, .bool n3, .string s3, .string d3]] w1 fun e w' => e = .returned (.tuple #[.agg #[.bool pN, .string pS, .string pD, .bool qN, .string qS, .string qD], .int .i64 0]) ∧ Below w1.heap.size w1 w'))
  (H2 : Hid (∀ w1, Below w.heap.size w w1 → Calls Tryz.prog 15 #[.agg #[.bool pN, .string pS, .string pD, .bool qN, .string qS, .string qD], .agg #[.bool n4, .string s4, .string d4, .bool n5, .string s5, .string d5]] w1 fun e w' => e = .returned (.tuple #[.agg #[.bool eN, .string eS, .string eD], .int .i64 0]) ∧ Below w1.heap.size w1 w'))
  (H3 : Hid (∀ w1, Below w.heap.size w w1 → Calls Tryz.prog 15 #[.agg #[.bool n0, .string s0, .string d0, .bool n1, .string s1, .string d1], .agg #[.bool n4, .string s4, .string d4, .bool n5, .string s5, .string d5]] w1 fun e w' => e = .returned (.tuple #[.agg #[.bool fN, .string fS, .string fD], .int .i64 0]) ∧ Below w1.heap.size w1 w'))
  (H4 : Hid (∀ w1, Below w.heap.size w w1 → Calls Tryz.prog 15 #[.agg #[.bool n2, .string s2, .string d2, .bool n3, .string s3, .string d3], .agg #[.bool n4, .string s4, .string d4, .bool n5, .string s5, .string d5]] w1 fun e w' => e = .returned (.tuple #[.agg #[.bool gN, .string gS, .string gD], .int .i64 0]) ∧ Below w1.heap.size w1 w'))
  (H5 : Hid (∀ w1, Below w.heap.size w w1 → Calls Tryz.prog 15 #[.agg #[.bool n4, .string s4, .string d4, .bool n5, .string s5, .string d5], .agg #[.bool pN, .string pS, .string pD, .bool qN, .string qS, .string qD]] w1 fun e w' => e = .returned (.tuple #[.agg #[.bool hN, .string hS, .string hD], .int .i64 0]) ∧ Below w1.heap.size w1 w'))
  (H6 : Hid (∀ w1, Below w.heap.size w w1 → Calls Tryz.prog 14 #[.agg #[.bool pN, .string pS, .string pD, .bool qN, .string qS, .string qD], .agg #[.bool n4, .string s4, .string d4, .bool n5, .string s5, .string d5]] w1 fun e w' => e = .returned (.tuple #[.agg #[.bool xN, .string xS, .string xD], .int .i64 0]) ∧ Below w1.heap.size w1 w'))
  (H7 : Hid (∀ w1, Below w.heap.size w w1 → Calls Tryz.prog 14 #[.agg #[.bool n0, .string s0, .string d0, .bool n1, .string s1, .string d1], .agg #[.bool n4, .string s4, .string d4, .bool n5, .string s5, .string d5]] w1 fun e w' => e = .returned (.tuple #[.agg #[.bool yN, .string yS, .string yD], .int .i64 0]) ∧ Below w1.heap.size w1 w'))
  (H8 : Hid (∀ w1, Below w.heap.size w w1 → Calls Tryz.prog 14 #[.agg #[.bool n2, .string s2, .string d2, .bool n3, .string s3, .string d3], .agg #[.bool n4, .string s4, .string d4, .bool n5, .string s5, .string d5]] w1 fun e w' => e = .returned (.tuple #[.agg #[.bool zN, .string zS, .string zD], .int .i64 0]) ∧ Below w1.heap.size w1 w'))
  (H9 : Hid (∀ w1, Below w.heap.size w w1 → Calls Tryz.prog 16 #[.agg #[.bool n0, .string s0, .string d0, .bool n1, .string s1, .string d1]] w1 fun e w' => e = .returned (.tuple #[.agg #[.bool mN, .string mS, .string mD], .int .i64 0]) ∧ Below w1.heap.size w1 w'))
  (K2 : Hid (∀ w1, Calls Tryz.prog 35 #[.agg #[.bool fN, .string fS, .string fD], .agg #[.bool gN, .string gS, .string gD]] w1 fun e w' => e = .returned (.agg #[.bool eN, .string eS, .string eD]) ∧ Below w1.heap.size w1 w'))
  (K3 : Hid (∀ w1, Calls Tryz.prog 33 #[.agg #[.bool hN, .string hS, .string hD]] w1 fun e w' => e = .returned (.agg #[.bool eN, .string eS, .string eD]) ∧ Below w1.heap.size w1 w'))
  (K4 : Hid (∀ w1, Calls Tryz.prog 35 #[.agg #[.bool yN, .string yS, .string yD], .agg #[.bool zN, .string zS, .string zD]] w1 fun e w' => e = .returned (.agg #[.bool xN, .string xS, .string xD]) ∧ Below w1.heap.size w1 w'))
  (G0 : Hid (∀ w1, Calls Tryz.prog 34 #[.agg #[.bool n0, .string s0, .string d0]] w1 fun e w' => e = .returned (.int .i64 0) ∧ Below w1.heap.size w1 w'))
  (G1 : Hid (∀ w1, Calls Tryz.prog 34 #[.agg #[.bool n1, .string s1, .string d1]] w1 fun e w' => e = .returned (.int .i64 0) ∧ Below w1.heap.size w1 w'))
  (G2 : Hid (∀ w1, Calls Tryz.prog 34 #[.agg #[.bool mN, .string mS, .string mD]] w1 fun e w' => e = .returned (.int .i64 0) ∧ Below w1.heap.size w1 w')) :
  Calls Tryz.prog 7 #[.agg #[.bool n0, .string s0, .string d0, .bool n1, .string s1, .string d1], .agg #[.bool n2, .string s2, .string d2, .bool n3, .string s3, .string d3], .agg #[.bool n4, .string s4, .string d4, .bool n5, .string s5, .string d5]] w fun e w' => e = .returned (.bool true) ∧ Below w.heap.size w w' := by
 go_enter Tryz.func7, Tryz.ntmps7
 go_wp2_with fail
 go_fit (S0.out _)
 rintro e w1 ⟨rfl, b1⟩
 obtain ⟨ka, kb, kc, b1⟩ := al3 b1
 have sz := b1.size
 have bb := b1
 clear b1
 have ta := ka.lt
 have tb := kb.lt
 have tc := kc.lt
 clear ta tb tc
 have cb_0 := cel6_0 kb
 have cb_1 := cel6_1 kb
 have cb_2 := cel6_2 kb
 have cb_3 := cel6_3 kb
 have cb_4 := cel6_4 kb
 have cb_5 := cel6_5 kb
 go_wp2_with fail
 clear cb_0 cb_1 cb_2 cb_3 cb_4 cb_5
 go_fit (S1.out _)
 rintro e w2 ⟨rfl, b1⟩
 have sz := b1.size
 replace ka := ka.below b1
 replace kb := kb.below b1
 replace kc := kc.below b1
 replace bb := Below.after bb b1
 clear b1
 have cc_0 := cel6_0 kc
 have cc_1 := cel6_1 kc
 have cc_2 := cel6_2 kc
 have cc_3 := cel6_3 kc
 have cc_4 := cel6_4 kc
 have cc_5 := cel6_5 kc
 go_wp2_with fail
 clear cc_0 cc_1 cc_2 cc_3 cc_4 cc_5
 go_fit (S2.out _)
 rintro e w3 ⟨rfl, b1⟩
 have sz := b1.size
 replace ka := ka.below b1
 replace kb := kb.below b1
 replace kc := kc.below b1
 replace bb := Below.after bb b1
 clear b1
 have ca_0 := cel6_0 ka
 have ca_1 := cel6_1 ka
 have ca_2 := cel6_2 ka
 have ca_3 := cel6_3 ka
 have ca_4 := cel6_4 ka
 have ca_5 := cel6_5 ka
 have cb_6 := cel6_0 kb
 have cb_7 := cel6_1 kb
 have cb_8 := cel6_2 kb
 have cb_9 := cel6_3 kb
 have cb_10 := cel6_4 kb
 have cb_11 := cel6_5 kb
 have cc_12 := cel6_0 kc
 have cc_13 := cel6_1 kc
 have cc_14 := cel6_2 kc
 have cc_15 := cel6_3 kc
 have cc_16 := cel6_4 kc
 have cc_17 := cel6_5 kc
 go_wp2_with fail
 clear ca_0 ca_1 ca_2 ca_3 ca_4 ca_5 cb_6 cb_7 cb_8 cb_9 cb_10 cb_11 cc_12 cc_13 cc_14 cc_15 cc_16 cc_17
 go_fit (HP.out _ _ (Cel.new _ _ _))
 rintro e w4 ⟨rfl, b1⟩
 obtain ⟨kl, b1⟩ := al1 b1
 have sz := b1.size
 replace ka := ka.below b1
 replace kb := kb.below b1
 replace kc := kc.below b1
 replace bb := Below.after bb b1
 clear b1
 have tl := kl.lt
 clear tl
 have ca_0 := cel6_0 ka
 have ca_1 := cel6_1 ka
 have ca_2 := cel6_2 ka
 have ca_3 := cel6_3 ka
 have ca_4 := cel6_4 ka
 have ca_5 := cel6_5 ka
 have cb_6 := cel6_0 kb
 have cb_7 := cel6_1 kb
 have cb_8 := cel6_2 kb
 have cb_9 := cel6_3 kb
 have cb_10 := cel6_4 kb
 have cb_11 := cel6_5 kb
 clear kl
 go_wp2_with fail
 clear ca_0 ca_1 ca_2 ca_3 ca_4 ca_5 cb_6 cb_7 cb_8 cb_9 cb_10 cb_11
 go_fit (H1.out _ bb)
 rintro e w5 ⟨rfl, b1⟩
 have sz := b1.size
 replace ka := ka.below b1
 replace kb := kb.below b1
 replace kc := kc.below b1
 replace bb := Below.after bb b1
 clear b1
 have cc_0 := cel6_0 kc
 have cc_1 := cel6_1 kc
 have cc_2 := cel6_2 kc
 have cc_3 := cel6_3 kc
 have cc_4 := cel6_4 kc
 have cc_5 := cel6_5 kc
 have cc_6 := cel6_0 (kc.alloc (.cells #[.bool pN, .string pS, .string pD, .bool qN, .string qS, .string qD] 28))
 have cc_7 := cel6_1 (kc.alloc (.cells #[.bool pN, .string pS, .string pD, .bool qN, .string qS, .string qD] 28))
 have cc_8 := cel6_2 (kc.alloc (.cells #[.bool pN, .string pS, .string pD, .bool qN, .string qS, .string qD] 28))
 have cc_9 := cel6_3 (kc.alloc (.cells #[.bool pN, .string pS, .string pD, .bool qN, .string qS, .string qD] 28))
 have cc_10 := cel6_4 (kc.alloc (.cells #[.bool pN, .string pS, .string pD, .bool qN, .string qS, .string qD] 28))
 have cc_11 := cel6_5 (kc.alloc (.cells #[.bool pN, .string pS, .string pD, .bool qN, .string qS, .string qD] 28))
 go_wp2_with fail
 clear cc_0 cc_1 cc_2 cc_3 cc_4 cc_5 cc_6 cc_7 cc_8 cc_9 cc_10 cc_11
 go_fit (H2.out _ (ba bb _))
 rintro e w6 ⟨rfl, b1⟩
 obtain ⟨ks, b1⟩ := al1 b1
 have sz := b1.size
 replace ka := ka.below b1
 replace kb := kb.below b1
 replace kc := kc.below b1
 replace bb := Below.after bb b1
 clear b1
 have ts := ks.lt
 clear ts
 have ca_0 := cel6_0 ka
 have ca_1 := cel6_1 ka
 have ca_2 := cel6_2 ka
 have ca_3 := cel6_3 ka
 have ca_4 := cel6_4 ka
 have ca_5 := cel6_5 ka
 have cc_6 := cel6_0 kc
 have cc_7 := cel6_1 kc
 have cc_8 := cel6_2 kc
 have cc_9 := cel6_3 kc
 have cc_10 := cel6_4 kc
 have cc_11 := cel6_5 kc
 have ca_12 := cel6_0 (ka.alloc (.cells #[.bool eN, .string eS, .string eD] 26))
 have ca_13 := cel6_1 (ka.alloc (.cells #[.bool eN, .string eS, .string eD] 26))
 have ca_14 := cel6_2 (ka.alloc (.cells #[.bool eN, .string eS, .string eD] 26))
 have ca_15 := cel6_3 (ka.alloc (.cells #[.bool eN, .string eS, .string eD] 26))
 have ca_16 := cel6_4 (ka.alloc (.cells #[.bool eN, .string eS, .string eD] 26))
 have ca_17 := cel6_5 (ka.alloc (.cells #[.bool eN, .string eS, .string eD] 26))
 have cc_18 := cel6_0 (kc.alloc (.cells #[.bool eN, .string eS, .string eD] 26))
 have cc_19 := cel6_1 (kc.alloc (.cells #[.bool eN, .string eS, .string eD] 26))
 have cc_20 := cel6_2 (kc.alloc (.cells #[.bool eN, .string eS, .string eD] 26))
 have cc_21 := cel6_3 (kc.alloc (.cells #[.bool eN, .string eS, .string eD] 26))
 have cc_22 := cel6_4 (kc.alloc (.cells #[.bool eN, .string eS, .string eD] 26))
 have cc_23 := cel6_5 (kc.alloc (.cells #[.bool eN, .string eS, .string eD] 26))
 go_wp2_with fail
 clear ca_0 ca_1 ca_2 ca_3 ca_4 ca_5 cc_6 cc_7 cc_8 cc_9 cc_10 cc_11 ca_12 ca_13 ca_14 ca_15 ca_16 ca_17 cc_18 cc_19 cc_20 cc_21 cc_22 cc_23
 go_fit (H3.out _ (ba bb _))
 rintro e w7 ⟨rfl, b1⟩
 obtain ⟨ke, b1⟩ := al1 b1
 have sz := b1.size
 replace ka := ka.below b1
 replace kb := kb.below b1
 replace kc := kc.below b1
 replace ks := ks.below b1
 replace bb := Below.after bb b1
 clear b1
 have te := ke.lt
 clear te
 have cb_0 := cel6_0 kb
 have cb_1 := cel6_1 kb
 have cb_2 := cel6_2 kb
 have cb_3 := cel6_3 kb
 have cb_4 := cel6_4 kb
 have cb_5 := cel6_5 kb
 have cc_6 := cel6_0 kc
 have cc_7 := cel6_1 kc
 have cc_8 := cel6_2 kc
 have cc_9 := cel6_3 kc
 have cc_10 := cel6_4 kc
 have cc_11 := cel6_5 kc
 have cb_12 := cel6_0 (kb.alloc (.cells #[.bool fN, .string fS, .string fD] 26))
 have cb_13 := cel6_1 (kb.alloc (.cells #[.bool fN, .string fS, .string fD] 26))
 have cb_14 := cel6_2 (kb.alloc (.cells #[.bool fN, .string fS, .string fD] 26))
 have cb_15 := cel6_3 (kb.alloc (.cells #[.bool fN, .string fS, .string fD] 26))
 have cb_16 := cel6_4 (kb.alloc (.cells #[.bool fN, .string fS, .string fD] 26))
 have cb_17 := cel6_5 (kb.alloc (.cells #[.bool fN, .string fS, .string fD] 26))
 have cc_18 := cel6_0 (kc.alloc (.cells #[.bool fN, .string fS, .string fD] 26))
 have cc_19 := cel6_1 (kc.alloc (.cells #[.bool fN, .string fS, .string fD] 26))
 have cc_20 := cel6_2 (kc.alloc (.cells #[.bool fN, .string fS, .string fD] 26))
 have cc_21 := cel6_3 (kc.alloc (.cells #[.bool fN, .string fS, .string fD] 26))
 have cc_22 := cel6_4 (kc.alloc (.cells #[.bool fN, .string fS, .string fD] 26))
 have cc_23 := cel6_5 (kc.alloc (.cells #[.bool fN, .string fS, .string fD] 26))
 go_wp2_with fail
 clear cb_0 cb_1 cb_2 cb_3 cb_4 cb_5 cc_6 cc_7 cc_8 cc_9 cc_10 cc_11 cb_12 cb_13 cb_14 cb_15 cb_16 cb_17 cc_18 cc_19 cc_20 cc_21 cc_22 cc_23
 go_fit (H4.out _ (ba bb _))
 rintro e w8 ⟨rfl, b1⟩
 obtain ⟨kf, b1⟩ := al1 b1
 have sz := b1.size
 replace ka := ka.below b1
 replace kb := kb.below b1
 replace kc := kc.below b1
 replace ks := ks.below b1
 replace ke := ke.below b1
 replace bb := Below.after bb b1
 clear b1
 have tf := kf.lt
 clear tf
 have cc_0 := cel6_0 kc
 have cc_1 := cel6_1 kc
 have cc_2 := cel6_2 kc
 have cc_3 := cel6_3 kc
 have cc_4 := cel6_4 kc
 have cc_5 := cel6_5 kc
 have cs_6 := cel6_0 ks
 have cs_7 := cel6_1 ks
 have cs_8 := cel6_2 ks
 have cs_9 := cel6_3 ks
 have cs_10 := cel6_4 ks
 have cs_11 := cel6_5 ks
 have cc_12 := cel6_0 (kc.alloc (.cells #[.bool gN, .string gS, .string gD] 26))
 have cc_13 := cel6_1 (kc.alloc (.cells #[.bool gN, .string gS, .string gD] 26))
 have cc_14 := cel6_2 (kc.alloc (.cells #[.bool gN, .string gS, .string gD] 26))
 have cc_15 := cel6_3 (kc.alloc (.cells #[.bool gN, .string gS, .string gD] 26))
 have cc_16 := cel6_4 (kc.alloc (.cells #[.bool gN, .string gS, .string gD] 26))
 have cc_17 := cel6_5 (kc.alloc (.cells #[.bool gN, .string gS, .string gD] 26))
 have cs_18 := cel6_0 (ks.alloc (.cells #[.bool gN, .string gS, .string gD] 26))
 have cs_19 := cel6_1 (ks.alloc (.cells #[.bool gN, .string gS, .string gD] 26))
 have cs_20 := cel6_2 (ks.alloc (.cells #[.bool gN, .string gS, .string gD] 26))
 have cs_21 := cel6_3 (ks.alloc (.cells #[.bool gN, .string gS, .string gD] 26))
 have cs_22 := cel6_4 (ks.alloc (.cells #[.bool gN, .string gS, .string gD] 26))
 have cs_23 := cel6_5 (ks.alloc (.cells #[.bool gN, .string gS, .string gD] 26))
 go_wp2_with fail
 clear cc_0 cc_1 cc_2 cc_3 cc_4 cc_5 cs_6 cs_7 cs_8 cs_9 cs_10 cs_11 cc_12 cc_13 cc_14 cc_15 cc_16 cc_17 cs_18 cs_19 cs_20 cs_21 cs_22 cs_23
 go_fit (H5.out _ (ba bb _))
 rintro e w9 ⟨rfl, b1⟩
 obtain ⟨kg, b1⟩ := al1 b1
 have sz := b1.size
 replace ka := ka.below b1
 replace kb := kb.below b1
 replace kc := kc.below b1
 replace ks := ks.below b1
 replace ke := ke.below b1
 replace kf := kf.below b1
 replace bb := Below.after bb b1
 clear b1
 have tg := kg.lt
 clear tg
 have cs_0 := cel6_0 ks
 have cs_1 := cel6_1 ks
 have cs_2 := cel6_2 ks
 have cs_3 := cel6_3 ks
 have cs_4 := cel6_4 ks
 have cs_5 := cel6_5 ks
 have cc_6 := cel6_0 kc
 have cc_7 := cel6_1 kc
 have cc_8 := cel6_2 kc
 have cc_9 := cel6_3 kc
 have cc_10 := cel6_4 kc
 have cc_11 := cel6_5 kc
 have cs_12 := cel6_0 (ks.alloc (.cells #[.bool hN, .string hS, .string hD] 26))
 have cs_13 := cel6_1 (ks.alloc (.cells #[.bool hN, .string hS, .string hD] 26))
 have cs_14 := cel6_2 (ks.alloc (.cells #[.bool hN, .string hS, .string hD] 26))
 have cs_15 := cel6_3 (ks.alloc (.cells #[.bool hN, .string hS, .string hD] 26))
 have cs_16 := cel6_4 (ks.alloc (.cells #[.bool hN, .string hS, .string hD] 26))
 have cs_17 := cel6_5 (ks.alloc (.cells #[.bool hN, .string hS, .string hD] 26))
 have cc_18 := cel6_0 (kc.alloc (.cells #[.bool hN, .string hS, .string hD] 26))
 have cc_19 := cel6_1 (kc.alloc (.cells #[.bool hN, .string hS, .string hD] 26))
 have cc_20 := cel6_2 (kc.alloc (.cells #[.bool hN, .string hS, .string hD] 26))
 have cc_21 := cel6_3 (kc.alloc (.cells #[.bool hN, .string hS, .string hD] 26))
 have cc_22 := cel6_4 (kc.alloc (.cells #[.bool hN, .string hS, .string hD] 26))
 have cc_23 := cel6_5 (kc.alloc (.cells #[.bool hN, .string hS, .string hD] 26))
 go_wp2_with fail
 clear cs_0 cs_1 cs_2 cs_3 cs_4 cs_5 cc_6 cc_7 cc_8 cc_9 cc_10 cc_11 cs_12 cs_13 cs_14 cs_15 cs_16 cs_17 cc_18 cc_19 cc_20 cc_21 cc_22 cc_23
 go_fit (H6.out _ (ba bb _))
 rintro e w10 ⟨rfl, b1⟩
 obtain ⟨kh, b1⟩ := al1 b1
 have sz := b1.size
 replace ka := ka.below b1
 replace kb := kb.below b1
 replace kc := kc.below b1
 replace ks := ks.below b1
 replace ke := ke.below b1
 replace kf := kf.below b1
 replace kg := kg.below b1
 replace bb := Below.after bb b1
 clear b1
 have th := kh.lt
 clear th
 have ca_0 := cel6_0 ka
 have ca_1 := cel6_1 ka
 have ca_2 := cel6_2 ka
 have ca_3 := cel6_3 ka
 have ca_4 := cel6_4 ka
 have ca_5 := cel6_5 ka
 have cc_6 := cel6_0 kc
 have cc_7 := cel6_1 kc
 have cc_8 := cel6_2 kc
 have cc_9 := cel6_3 kc
 have cc_10 := cel6_4 kc
 have cc_11 := cel6_5 kc
 have ca_12 := cel6_0 (ka.alloc (.cells #[.bool xN, .string xS, .string xD] 26))
 have ca_13 := cel6_1 (ka.alloc (.cells #[.bool xN, .string xS, .string xD] 26))
 have ca_14 := cel6_2 (ka.alloc (.cells #[.bool xN, .string xS, .string xD] 26))
 have ca_15 := cel6_3 (ka.alloc (.cells #[.bool xN, .string xS, .string xD] 26))
 have ca_16 := cel6_4 (ka.alloc (.cells #[.bool xN, .string xS, .string xD] 26))
 have ca_17 := cel6_5 (ka.alloc (.cells #[.bool xN, .string xS, .string xD] 26))
 have cc_18 := cel6_0 (kc.alloc (.cells #[.bool xN, .string xS, .string xD] 26))
 have cc_19 := cel6_1 (kc.alloc (.cells #[.bool xN, .string xS, .string xD] 26))
 have cc_20 := cel6_2 (kc.alloc (.cells #[.bool xN, .string xS, .string xD] 26))
 have cc_21 := cel6_3 (kc.alloc (.cells #[.bool xN, .string xS, .string xD] 26))
 have cc_22 := cel6_4 (kc.alloc (.cells #[.bool xN, .string xS, .string xD] 26))
 have cc_23 := cel6_5 (kc.alloc (.cells #[.bool xN, .string xS, .string xD] 26))
 go_wp2_with fail
 clear ca_0 ca_1 ca_2 ca_3 ca_4 ca_5 cc_6 cc_7 cc_8 cc_9 cc_10 cc_11 ca_12 ca_13 ca_14 ca_15 ca_16 ca_17 cc_18 cc_19 cc_20 cc_21 cc_22 cc_23
 go_fit (H7.out _ (ba bb _))
 rintro e w11 ⟨rfl, b1⟩
 obtain ⟨kx, b1⟩ := al1 b1
 have sz := b1.size
 replace ka := ka.below b1
 replace kb := kb.below b1
 replace kc := kc.below b1
 replace ks := ks.below b1
 replace ke := ke.below b1
 replace kf := kf.below b1
 replace kg := kg.below b1
 replace kh := kh.below b1
 replace bb := Below.after bb b1
 clear b1
 have tx := kx.lt
 clear tx
 have cb_0 := cel6_0 kb
 have cb_1 := cel6_1 kb
 have cb_2 := cel6_2 kb
 have cb_3 := cel6_3 kb
 have cb_4 := cel6_4 kb
 have cb_5 := cel6_5 kb
 have cc_6 := cel6_0 kc
 have cc_7 := cel6_1 kc
 have cc_8 := cel6_2 kc
 have cc_9 := cel6_3 kc
 have cc_10 := cel6_4 kc
 have cc_11 := cel6_5 kc
 have cb_12 := cel6_0 (kb.alloc (.cells #[.bool yN, .string yS, .string yD] 26))
 have cb_13 := cel6_1 (kb.alloc (.cells #[.bool yN, .string yS, .string yD] 26))
 have cb_14 := cel6_2 (kb.alloc (.cells #[.bool yN, .string yS, .string yD] 26))
 have cb_15 := cel6_3 (kb.alloc (.cells #[.bool yN, .string yS, .string yD] 26))
 have cb_16 := cel6_4 (kb.alloc (.cells #[.bool yN, .string yS, .string yD] 26))
 have cb_17 := cel6_5 (kb.alloc (.cells #[.bool yN, .string yS, .string yD] 26))
 have cc_18 := cel6_0 (kc.alloc (.cells #[.bool yN, .string yS, .string yD] 26))
 have cc_19 := cel6_1 (kc.alloc (.cells #[.bool yN, .string yS, .string yD] 26))
 have cc_20 := cel6_2 (kc.alloc (.cells #[.bool yN, .string yS, .string yD] 26))
 have cc_21 := cel6_3 (kc.alloc (.cells #[.bool yN, .string yS, .string yD] 26))
 have cc_22 := cel6_4 (kc.alloc (.cells #[.bool yN, .string yS, .string yD] 26))
 have cc_23 := cel6_5 (kc.alloc (.cells #[.bool yN, .string yS, .string yD] 26))
 go_wp2_with fail
 clear cb_0 cb_1 cb_2 cb_3 cb_4 cb_5 cc_6 cc_7 cc_8 cc_9 cc_10 cc_11 cb_12 cb_13 cb_14 cb_15 cb_16 cb_17 cc_18 cc_19 cc_20 cc_21 cc_22 cc_23
 go_fit (H8.out _ (ba bb _))
 rintro e w12 ⟨rfl, b1⟩
 obtain ⟨ky, b1⟩ := al1 b1
 have sz := b1.size
 replace ka := ka.below b1
 replace kb := kb.below b1
 replace kc := kc.below b1
 replace ks := ks.below b1
 replace ke := ke.below b1
 replace kf := kf.below b1
 replace kg := kg.below b1
 replace kh := kh.below b1
 replace kx := kx.below b1
 replace bb := Below.after bb b1
 clear b1
 have ty := ky.lt
 clear ty
 have ca_0 := cel6_0 ka
 have ca_1 := cel6_1 ka
 have ca_2 := cel6_2 ka
 have ca_3 := cel6_3 ka
 have ca_4 := cel6_4 ka
 have ca_5 := cel6_5 ka
 have ca_6 := cel6_0 (ka.alloc (.cells #[.bool zN, .string zS, .string zD] 26))
 have ca_7 := cel6_1 (ka.alloc (.cells #[.bool zN, .string zS, .string zD] 26))
 have ca_8 := cel6_2 (ka.alloc (.cells #[.bool zN, .string zS, .string zD] 26))
 have ca_9 := cel6_3 (ka.alloc (.cells #[.bool zN, .string zS, .string zD] 26))
 have ca_10 := cel6_4 (ka.alloc (.cells #[.bool zN, .string zS, .string zD] 26))
 have ca_11 := cel6_5 (ka.alloc (.cells #[.bool zN, .string zS, .string zD] 26))
 go_wp2_with fail
 clear ca_0 ca_1 ca_2 ca_3 ca_4 ca_5 ca_6 ca_7 ca_8 ca_9 ca_10 ca_11
 go_fit (H9.out _ (ba bb _))
 rintro e w13 ⟨rfl, b1⟩
 obtain ⟨kz, b1⟩ := al1 b1
 have sz := b1.size
 replace ka := ka.below b1
 replace kb := kb.below b1
 replace kc := kc.below b1
 replace ks := ks.below b1
 replace ke := ke.below b1
 replace kf := kf.below b1
 replace kg := kg.below b1
 replace kh := kh.below b1
 replace kx := kx.below b1
 replace ky := ky.below b1
 replace bb := Below.after bb b1
 clear b1
 have tz := kz.lt
 clear tz
 have ca_0 := cel6_0 ka
 have ca_1 := cel6_1 ka
 have ca_2 := cel6_2 ka
 have ca_3 := cel6_3 ka
 have ca_4 := cel6_4 ka
 have ca_5 := cel6_5 ka
 have ca_6 := cel6_0 (ka.alloc (.cells #[.bool mN, .string mS, .string mD] 26))
 have ca_7 := cel6_1 (ka.alloc (.cells #[.bool mN, .string mS, .string mD] 26))
 have ca_8 := cel6_2 (ka.alloc (.cells #[.bool mN, .string mS, .string mD] 26))
 have ca_9 := cel6_3 (ka.alloc (.cells #[.bool mN, .string mS, .string mD] 26))
 have ca_10 := cel6_4 (ka.alloc (.cells #[.bool mN, .string mS, .string mD] 26))
 have ca_11 := cel6_5 (ka.alloc (.cells #[.bool mN, .string mS, .string mD] 26))
 go_wp2_with fail
 clear ca_0 ca_1 ca_2 ca_3 ca_4 ca_5 ca_6 ca_7 ca_8 ca_9 ca_10 ca_11
 go_fit (G0.out _)
 rintro e w14 ⟨rfl, b1⟩
 obtain ⟨km, b1⟩ := al1 b1
 have sz := b1.size
 replace ka := ka.below b1
 replace kb := kb.below b1
 replace kc := kc.below b1
 replace ks := ks.below b1
 replace ke := ke.below b1
 replace kf := kf.below b1
 replace kg := kg.below b1
 replace kh := kh.below b1
 replace kx := kx.below b1
 replace ky := ky.below b1
 replace kz := kz.below b1
 replace bb := Below.after bb b1
 clear b1
 have tm := km.lt
 clear tm
 have ca_0 := cel6_0 ka
 have ca_1 := cel6_1 ka
 have ca_2 := cel6_2 ka
 have ca_3 := cel6_3 ka
 have ca_4 := cel6_4 ka
 have ca_5 := cel6_5 ka
 go_wp2_with fail
 clear ca_0 ca_1 ca_2 ca_3 ca_4 ca_5
 go_fit (G1.out _)
 rintro e w15 ⟨rfl, b1⟩
 have sz := b1.size
 replace ka := ka.below b1
 replace kb := kb.below b1
 replace kc := kc.below b1
 replace ks := ks.below b1
 replace ke := ke.below b1
 replace kf := kf.below b1
 replace kg := kg.below b1
 replace kh := kh.below b1
 replace kx := kx.below b1
 replace ky := ky.below b1
 replace kz := kz.below b1
 replace km := km.below b1
 replace bb := Below.after bb b1
 clear b1
 go_wp2_with fail
 clear ka
 clear kb
 clear kc
 clear ks
 have mkS : Hid (∀ w', Cel w' (w6.heap.size) [.bool eN, .string eS, .string eD] 26 → Cel w' (w7.heap.size) [.bool fN, .string fS, .string fD] 26 → Cel w' (w8.heap.size) [.bool gN, .string gS, .string gD] 26 → Cel w' (w9.heap.size) [.bool hN, .string hS, .string hD] 26 → Cel w' (w10.heap.size) [.bool xN, .string xS, .string xD] 26 → Cel w' (w11.heap.size) [.bool yN, .string yS, .string yD] 26 → Cel w' (w12.heap.size) [.bool zN, .string zS, .string zD] 26 → Cel w' (w13.heap.size) [.bool mN, .string mS, .string mD] 26 → (w'.cell? ⟨w6.heap.size, 0, none⟩ = some (.bool eN) ∧ w'.cell? ⟨w6.heap.size, 1, none⟩ = some (.string eS) ∧ w'.cell? ⟨w6.heap.size, 2, none⟩ = some (.string eD) ∧ w'.cell? ⟨w7.heap.size, 0, none⟩ = some (.bool fN) ∧ w'.cell? ⟨w7.heap.size, 1, none⟩ = some (.string fS) ∧ w'.cell? ⟨w7.heap.size, 2, none⟩ = some (.string fD) ∧ w'.cell? ⟨w8.heap.size, 0, none⟩ = some (.bool gN) ∧ w'.cell? ⟨w8.heap.size, 1, none⟩ = some (.string gS) ∧ w'.cell? ⟨w8.heap.size, 2, none⟩ = some (.string gD) ∧ w'.cell? ⟨w9.heap.size, 0, none⟩ = some (.bool hN) ∧ w'.cell? ⟨w9.heap.size, 1, none⟩ = some (.string hS) ∧ w'.cell? ⟨w9.heap.size, 2, none⟩ = some (.string hD) ∧ w'.cell? ⟨w10.heap.size, 0, none⟩ = some (.bool xN) ∧ w'.cell? ⟨w10.heap.size, 1, none⟩ = some (.string xS) ∧ w'.cell? ⟨w10.heap.size, 2, none⟩ = some (.string xD) ∧ w'.cell? ⟨w11.heap.size, 0, none⟩ = some (.bool yN) ∧ w'.cell? ⟨w11.heap.size, 1, none⟩ = some (.string yS) ∧ w'.cell? ⟨w11.heap.size, 2, none⟩ = some (.string yD) ∧ w'.cell? ⟨w12.heap.size, 0, none⟩ = some (.bool zN) ∧ w'.cell? ⟨w12.heap.size, 1, none⟩ = some (.string zS) ∧ w'.cell? ⟨w12.heap.size, 2, none⟩ = some (.string zD) ∧ w'.cell? ⟨w13.heap.size, 0, none⟩ = some (.bool mN) ∧ w'.cell? ⟨w13.heap.size, 1, none⟩ = some (.string mS) ∧ w'.cell? ⟨w13.heap.size, 2, none⟩ = some (.string mD))) := fun w' he hf hg hh hx hy hz hm => ⟨cel3_0 he, cel3_1 he, cel3_2 he, cel3_0 hf, cel3_1 hf, cel3_2 hf, cel3_0 hg, cel3_1 hg, cel3_2 hg, cel3_0 hh, cel3_1 hh, cel3_2 hh, cel3_0 hx, cel3_1 hx, cel3_2 hx, cel3_0 hy, cel3_1 hy, cel3_2 hy, cel3_0 hz, cel3_1 hz, cel3_2 hz, cel3_0 hm, cel3_1 hm, cel3_2 hm⟩
 go_region_held3 (fun w' => w'.cell? ⟨w6.heap.size, 0, none⟩ = some (.bool eN) ∧ w'.cell? ⟨w6.heap.size, 1, none⟩ = some (.string eS) ∧ w'.cell? ⟨w6.heap.size, 2, none⟩ = some (.string eD) ∧ w'.cell? ⟨w7.heap.size, 0, none⟩ = some (.bool fN) ∧ w'.cell? ⟨w7.heap.size, 1, none⟩ = some (.string fS) ∧ w'.cell? ⟨w7.heap.size, 2, none⟩ = some (.string fD) ∧ w'.cell? ⟨w8.heap.size, 0, none⟩ = some (.bool gN) ∧ w'.cell? ⟨w8.heap.size, 1, none⟩ = some (.string gS) ∧ w'.cell? ⟨w8.heap.size, 2, none⟩ = some (.string gD) ∧ w'.cell? ⟨w9.heap.size, 0, none⟩ = some (.bool hN) ∧ w'.cell? ⟨w9.heap.size, 1, none⟩ = some (.string hS) ∧ w'.cell? ⟨w9.heap.size, 2, none⟩ = some (.string hD) ∧ w'.cell? ⟨w10.heap.size, 0, none⟩ = some (.bool xN) ∧ w'.cell? ⟨w10.heap.size, 1, none⟩ = some (.string xS) ∧ w'.cell? ⟨w10.heap.size, 2, none⟩ = some (.string xD) ∧ w'.cell? ⟨w11.heap.size, 0, none⟩ = some (.bool yN) ∧ w'.cell? ⟨w11.heap.size, 1, none⟩ = some (.string yS) ∧ w'.cell? ⟨w11.heap.size, 2, none⟩ = some (.string yD) ∧ w'.cell? ⟨w12.heap.size, 0, none⟩ = some (.bool zN) ∧ w'.cell? ⟨w12.heap.size, 1, none⟩ = some (.string zS) ∧ w'.cell? ⟨w12.heap.size, 2, none⟩ = some (.string zD) ∧ w'.cell? ⟨w13.heap.size, 0, none⟩ = some (.bool mN) ∧ w'.cell? ⟨w13.heap.size, 1, none⟩ = some (.string mS) ∧ w'.cell? ⟨w13.heap.size, 2, none⟩ = some (.string mD)) (first | with_reducible exact mkS.out _ ke kf kg kh kx ky kz km | with_reducible exact mkS.out _ (ke.alloc _) (kf.alloc _) (kg.alloc _) (kh.alloc _) (kx.alloc _) (ky.alloc _) (kz.alloc _) (km.alloc _) | exact mkS.out _ ke kf kg kh kx ky kz km) (first | (go_at_call 35; go_fit (K2.out _); rintro e wn ⟨rfl, bn⟩; replace ke := ke.below ⟨bn.os, bn.tape, bn.output, bn.size, bn.block⟩; replace kf := kf.below ⟨bn.os, bn.tape, bn.output, bn.size, bn.block⟩; replace kg := kg.below ⟨bn.os, bn.tape, bn.output, bn.size, bn.block⟩; replace kh := kh.below ⟨bn.os, bn.tape, bn.output, bn.size, bn.block⟩; replace kx := kx.below ⟨bn.os, bn.tape, bn.output, bn.size, bn.block⟩; replace ky := ky.below ⟨bn.os, bn.tape, bn.output, bn.size, bn.block⟩; replace kz := kz.below ⟨bn.os, bn.tape, bn.output, bn.size, bn.block⟩; replace km := km.below ⟨bn.os, bn.tape, bn.output, bn.size, bn.block⟩; replace bb := Below.after bb ⟨bn.os, bn.tape, bn.output, bn.size, bn.block⟩) | (go_at_call 33; go_fit (K3.out _); rintro e wn ⟨rfl, bn⟩; replace ke := ke.below ⟨bn.os, bn.tape, bn.output, bn.size, bn.block⟩; replace kf := kf.below ⟨bn.os, bn.tape, bn.output, bn.size, bn.block⟩; replace kg := kg.below ⟨bn.os, bn.tape, bn.output, bn.size, bn.block⟩; replace kh := kh.below ⟨bn.os, bn.tape, bn.output, bn.size, bn.block⟩; replace kx := kx.below ⟨bn.os, bn.tape, bn.output, bn.size, bn.block⟩; replace ky := ky.below ⟨bn.os, bn.tape, bn.output, bn.size, bn.block⟩; replace kz := kz.below ⟨bn.os, bn.tape, bn.output, bn.size, bn.block⟩; replace km := km.below ⟨bn.os, bn.tape, bn.output, bn.size, bn.block⟩; replace bb := Below.after bb ⟨bn.os, bn.tape, bn.output, bn.size, bn.block⟩) | (go_at_call 35; go_fit (K4.out _); rintro e wn ⟨rfl, bn⟩; replace ke := ke.below ⟨bn.os, bn.tape, bn.output, bn.size, bn.block⟩; replace kf := kf.below ⟨bn.os, bn.tape, bn.output, bn.size, bn.block⟩; replace kg := kg.below ⟨bn.os, bn.tape, bn.output, bn.size, bn.block⟩; replace kh := kh.below ⟨bn.os, bn.tape, bn.output, bn.size, bn.block⟩; replace kx := kx.below ⟨bn.os, bn.tape, bn.output, bn.size, bn.block⟩; replace ky := ky.below ⟨bn.os, bn.tape, bn.output, bn.size, bn.block⟩; replace kz := kz.below ⟨bn.os, bn.tape, bn.output, bn.size, bn.block⟩; replace km := km.below ⟨bn.os, bn.tape, bn.output, bn.size, bn.block⟩; replace bb := Below.after bb ⟨bn.os, bn.tape, bn.output, bn.size, bn.block⟩) | (go_at_call 34; go_fit (G2.out _); rintro e wn ⟨rfl, bn⟩; replace ke := ke.below ⟨bn.os, bn.tape, bn.output, bn.size, bn.block⟩; replace kf := kf.below ⟨bn.os, bn.tape, bn.output, bn.size, bn.block⟩; replace kg := kg.below ⟨bn.os, bn.tape, bn.output, bn.size, bn.block⟩; replace kh := kh.below ⟨bn.os, bn.tape, bn.output, bn.size, bn.block⟩; replace kx := kx.below ⟨bn.os, bn.tape, bn.output, bn.size, bn.block⟩; replace ky := ky.below ⟨bn.os, bn.tape, bn.output, bn.size, bn.block⟩; replace kz := kz.below ⟨bn.os, bn.tape, bn.output, bn.size, bn.block⟩; replace km := km.below ⟨bn.os, bn.tape, bn.output, bn.size, bn.block⟩; replace bb := Below.after bb ⟨bn.os, bn.tape, bn.output, bn.size, bn.block⟩) | (go_at_call 10; go_fit (HL.out _ ?_); (first | exact bb | exact bb.drew); rintro e wn ⟨rfl, bn⟩; replace ke := ke.below ⟨bn.os, bn.tape, bn.output, bn.size, bn.block⟩; replace kf := kf.below ⟨bn.os, bn.tape, bn.output, bn.size, bn.block⟩; replace kg := kg.below ⟨bn.os, bn.tape, bn.output, bn.size, bn.block⟩; replace kh := kh.below ⟨bn.os, bn.tape, bn.output, bn.size, bn.block⟩; replace kx := kx.below ⟨bn.os, bn.tape, bn.output, bn.size, bn.block⟩; replace ky := ky.below ⟨bn.os, bn.tape, bn.output, bn.size, bn.block⟩; replace kz := kz.below ⟨bn.os, bn.tape, bn.output, bn.size, bn.block⟩; replace km := km.below ⟨bn.os, bn.tape, bn.output, bn.size, bn.block⟩; replace bb := Below.after bb ⟨bn.os, bn.tape, bn.output, bn.size, bn.block⟩))
 go_wp2
 go_ret
 exact ⟨rfl, bb⟩
end Go.Proofs.YtlpafjbbeljbhaaGreatDoor
