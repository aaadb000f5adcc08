/-
  gussetlaw04: VecReckons, walked.
-/
import Derived.Test.YtlpafjbbeljbhaaGreatDoorG51
namespace Go.Proofs.YtlpafjbbeljbhaaGreatDoor
open Go.RowKit Go.Shelf

set_option maxRecDepth 100000 in
set_option maxHeartbeats 8000000 in
theorem reckons_l1 (n0 n1 n2 n3 : Bool) (s0 d0 s1 d1 s2 d2 s3 d3 : ByteArray) (w : World)
  (HL : Hid (∀ w1, Below w.heap.size w w1 → Calls Tryz.prog 10 #[] w1 fun e w' => e = .returned (.bool true) ∧ Below w1.heap.size w1 w'))
  (S0 : Hid (∀ w1, Calls Tryz.prog 9 #[.agg #[.bool n0, .string s0, .string d0, .bool n1, .string s1, .string d1]] w1 fun e w' => e = .returned (.bool false) ∧ Below w1.heap.size w1 w')) :
  Calls Tryz.prog 3 #[.agg #[.bool n0, .string s0, .string d0, .bool n1, .string s1, .string d1], .agg #[.bool n2, .string s2, .string d2, .bool n3, .string s3, .string d3]] w fun e w' => e = .returned (.bool true) ∧ Below w.heap.size w w' := by
 go_enter Tryz.func3, Tryz.ntmps3
 go_wp2_with fail
 go_fit (S0.out _)
 rintro e w1 ⟨rfl, b1⟩
 obtain ⟨ka, kb, b1⟩ := al2 b1
 have sz := b1.size
 have bb := b1
 clear b1
 have ta := ka.lt
 have tb := kb.lt
 clear ta tb
 go_wp2_with fail
 go_fit (HL.out _ bb)
 rintro e w2 ⟨rfl, b1⟩
 have sz := b1.size
 replace ka := ka.below b1
 replace kb := kb.below b1
 replace bb := Below.after bb b1
 clear b1
 go_wp2
 go_ret
 exact ⟨rfl, bb⟩
set_option maxRecDepth 100000 in
set_option maxHeartbeats 8000000 in
theorem reckons_l2 (n0 n1 n2 n3 : Bool) (s0 d0 s1 d1 s2 d2 s3 d3 : ByteArray) (w : World)
  (HL : Hid (∀ w1, Below w.heap.size w w1 → Calls Tryz.prog 10 #[] w1 fun e w' => e = .returned (.bool true) ∧ Below w1.heap.size w1 w'))
  (S0 : Hid (∀ w1, Calls Tryz.prog 9 #[.agg #[.bool n0, .string s0, .string d0, .bool n1, .string s1, .string d1]] w1 fun e w' => e = .returned (.bool true) ∧ Below w1.heap.size w1 w'))
  (S1 : Hid (∀ w1, Calls Tryz.prog 9 #[.agg #[.bool n2, .string s2, .string d2, .bool n3, .string s3, .string d3]] w1 fun e w' => e = .returned (.bool false) ∧ Below w1.heap.size w1 w')) :
  Calls Tryz.prog 3 #[.agg #[.bool n0, .string s0, .string d0, .bool n1, .string s1, .string d1], .agg #[.bool n2, .string s2, .string d2, .bool n3, .string s3, .string d3]] w fun e w' => e = .returned (.bool true) ∧ Below w.heap.size w w' := by
 go_enter Tryz.func3, Tryz.ntmps3
 go_wp2_with fail
 go_fit (S0.out _)
 rintro e w1 ⟨rfl, b1⟩
 obtain ⟨ka, kb, b1⟩ := al2 b1
 have sz := b1.size
 have bb := b1
 clear b1
 have ta := ka.lt
 have tb := kb.lt
 clear ta tb
 have ca_0 := cel6_0 ka
 have ca_1 := cel6_1 ka
 have ca_2 := cel6_2 ka
 have ca_3 := cel6_3 ka
 have ca_4 := cel6_4 ka
 have ca_5 := cel6_5 ka
 have cb_6 := cel6_0 kb
 have cb_7 := cel6_1 kb
 have cb_8 := cel6_2 kb
 have cb_9 := cel6_3 kb
 have cb_10 := cel6_4 kb
 have cb_11 := cel6_5 kb
 go_wp2_with fail
 clear ca_0 ca_1 ca_2 ca_3 ca_4 ca_5 cb_6 cb_7 cb_8 cb_9 cb_10 cb_11
 go_fit (S1.out _)
 rintro e w2 ⟨rfl, b1⟩
 have sz := b1.size
 replace ka := ka.below b1
 replace kb := kb.below b1
 replace bb := Below.after bb b1
 clear b1
 go_wp2_with fail
 go_fit (HL.out _ bb)
 rintro e w3 ⟨rfl, b1⟩
 have sz := b1.size
 replace ka := ka.below b1
 replace kb := kb.below b1
 replace bb := Below.after bb b1
 clear b1
 go_wp2
 go_ret
 exact ⟨rfl, bb⟩
set_option maxRecDepth 100000 in
set_option maxHeartbeats 16000000 in
theorem reckons_bad (n0 n1 n2 n3 vN : Bool) (s0 d0 s1 d1 s2 d2 s3 d3 vS vD : ByteArray) (E I : Int) (hE : ¬ E = 0) (w : World)
  (HL : Hid (∀ w1, Below w.heap.size w w1 → Calls Tryz.prog 10 #[] w1 fun e w' => e = .returned (.bool true) ∧ Below w1.heap.size w1 w'))
  (S0 : Hid (∀ w1, Calls Tryz.prog 9 #[.agg #[.bool n0, .string s0, .string d0, .bool n1, .string s1, .string d1]] w1 fun e w' => e = .returned (.bool true) ∧ Below w1.heap.size w1 w'))
  (S1 : Hid (∀ w1, Calls Tryz.prog 9 #[.agg #[.bool n2, .string s2, .string d2, .bool n3, .string s3, .string d3]] w1 fun e w' => e = .returned (.bool true) ∧ Below w1.heap.size w1 w'))
  (HP : Hid (∀ (B : Nat) (w1 : World), Cel w1 B [.bool n0, .string s0, .string d0, .bool n1, .string s1, .string d1, .bool n2, .string s2, .string d2, .bool n3, .string s3, .string d3] 28 → Calls Tryz.prog 11 #[.slice (some ⟨B, 0, none⟩) 2 2] w1 fun e w' => e = .returned (.int .i64 E) ∧ Below w1.heap.size w1 w'))
  (H1 : Hid (∀ w1, Below w.heap.size w w1 → Calls Tryz.prog 12 #[.agg #[.bool n0, .string s0, .string d0, .bool n1, .string s1, .string d1], .agg #[.bool n2, .string s2, .string d2, .bool n3, .string s3, .string d3]] w1 fun e w' => e = .returned (.tuple #[.agg #[.bool false, .string { data := #[] }, .string { data := #[] }, .bool false, .string { data := #[] }, .string { data := #[] }], .int .i64 E]) ∧ Below w1.heap.size w1 w'))
  (H2 : Hid (∀ w1, Below w.heap.size w w1 → Calls Tryz.prog 13 #[.agg #[.bool n0, .string s0, .string d0, .bool n1, .string s1, .string d1], .agg #[.bool n2, .string s2, .string d2, .bool n3, .string s3, .string d3]] w1 fun e w' => e = .returned (.tuple #[.agg #[.bool false, .string { data := #[] }, .string { data := #[] }, .bool false, .string { data := #[] }, .string { data := #[] }], .int .i64 E]) ∧ Below w1.heap.size w1 w'))
  (H3 : Hid (∀ w1, Below w.heap.size w w1 → Calls Tryz.prog 14 #[.agg #[.bool n0, .string s0, .string d0, .bool n1, .string s1, .string d1], .agg #[.bool n2, .string s2, .string d2, .bool n3, .string s3, .string d3]] w1 fun e w' => e = .returned (.tuple #[.agg #[.bool false, .string { data := #[] }, .string { data := #[] }], .int .i64 E]) ∧ Below w1.heap.size w1 w'))
  (H4 : Hid (∀ w1, Below w.heap.size w w1 → Calls Tryz.prog 15 #[.agg #[.bool n0, .string s0, .string d0, .bool n1, .string s1, .string d1], .agg #[.bool n2, .string s2, .string d2, .bool n3, .string s3, .string d3]] w1 fun e w' => e = .returned (.tuple #[.agg #[.bool false, .string { data := #[] }, .string { data := #[] }], .int .i64 E]) ∧ Below w1.heap.size w1 w'))
  (H5 : Hid (∀ w1, Below w.heap.size w w1 → Calls Tryz.prog 16 #[.agg #[.bool n0, .string s0, .string d0, .bool n1, .string s1, .string d1]] w1 fun e w' => e = .returned (.tuple #[.agg #[.bool vN, .string vS, .string vD], .int .i64 I]) ∧ Below w1.heap.size w1 w'))
  (H6 : Hid (∀ w1, Calls Tryz.prog 17 #[.agg #[.bool n0, .string s0, .string d0, .bool n1, .string s1, .string d1]] w1 fun e w' => e = .returned (.int .i64 I) ∧ Below w1.heap.size w1 w'))
  (H7 : Hid (∀ w1, Below w.heap.size w w1 → Calls Tryz.prog 18 #[.agg #[.bool n0, .string s0, .string d0, .bool n1, .string s1, .string d1]] w1 fun e w' => e = .returned (.int .i64 I) ∧ Below w1.heap.size w1 w')) :
  Calls Tryz.prog 3 #[.agg #[.bool n0, .string s0, .string d0, .bool n1, .string s1, .string d1], .agg #[.bool n2, .string s2, .string d2, .bool n3, .string s3, .string d3]] w fun e w' => e = .returned (.bool true) ∧ Below w.heap.size w w' := by
 go_enter Tryz.func3, Tryz.ntmps3
 go_wp2_with fail
 go_fit (S0.out _)
 rintro e w1 ⟨rfl, b1⟩
 obtain ⟨ka, kb, b1⟩ := al2 b1
 have sz := b1.size
 have bb := b1
 clear b1
 have ta := ka.lt
 have tb := kb.lt
 clear ta tb
 have ca_0 := cel6_0 ka
 have ca_1 := cel6_1 ka
 have ca_2 := cel6_2 ka
 have ca_3 := cel6_3 ka
 have ca_4 := cel6_4 ka
 have ca_5 := cel6_5 ka
 have cb_6 := cel6_0 kb
 have cb_7 := cel6_1 kb
 have cb_8 := cel6_2 kb
 have cb_9 := cel6_3 kb
 have cb_10 := cel6_4 kb
 have cb_11 := cel6_5 kb
 go_wp2_with fail
 clear ca_0 ca_1 ca_2 ca_3 ca_4 ca_5 cb_6 cb_7 cb_8 cb_9 cb_10 cb_11
 go_fit (S1.out _)
 rintro e w2 ⟨rfl, b1⟩
 have sz := b1.size
 replace ka := ka.below b1
 replace kb := kb.below b1
 replace bb := Below.after bb b1
 clear b1
 have ca_0 := cel6_0 ka
 have ca_1 := cel6_1 ka
 have ca_2 := cel6_2 ka
 have ca_3 := cel6_3 ka
 have ca_4 := cel6_4 ka
 have ca_5 := cel6_5 ka
 have cb_6 := cel6_0 kb
 have cb_7 := cel6_1 kb
 have cb_8 := cel6_2 kb
 have cb_9 := cel6_3 kb
 have cb_10 := cel6_4 kb
 have cb_11 := cel6_5 kb
 go_wp2_with fail
 clear ca_0 ca_1 ca_2 ca_3 ca_4 ca_5 cb_6 cb_7 cb_8 cb_9 cb_10 cb_11
 go_fit (HP.out _ _ (Cel.new _ _ _))
 rintro e w3 ⟨rfl, b1⟩
 obtain ⟨kl, b1⟩ := al1 b1
 have sz := b1.size
 replace ka := ka.below b1
 replace kb := kb.below b1
 replace bb := Below.after bb b1
 clear b1
 have tl := kl.lt
 clear tl
 have ca_0 := cel6_0 ka
 have ca_1 := cel6_1 ka
 have ca_2 := cel6_2 ka
 have ca_3 := cel6_3 ka
 have ca_4 := cel6_4 ka
 have ca_5 := cel6_5 ka
 have cb_6 := cel6_0 kb
 have cb_7 := cel6_1 kb
 have cb_8 := cel6_2 kb
 have cb_9 := cel6_3 kb
 have cb_10 := cel6_4 kb
 have cb_11 := cel6_5 kb
 clear kl
 go_wp2_with fail
 clear ca_0 ca_1 ca_2 ca_3 ca_4 ca_5 cb_6 cb_7 cb_8 cb_9 cb_10 cb_11
 go_fit (H1.out _ bb)
 rintro e w4 ⟨rfl, b1⟩
 have sz := b1.size
 replace ka := ka.below b1
 replace kb := kb.below b1
 replace bb := Below.after bb b1
 clear b1
 have ca_0 := cel6_0 ka
 have ca_1 := cel6_1 ka
 have ca_2 := cel6_2 ka
 have ca_3 := cel6_3 ka
 have ca_4 := cel6_4 ka
 have ca_5 := cel6_5 ka
 have cb_6 := cel6_0 kb
 have cb_7 := cel6_1 kb
 have cb_8 := cel6_2 kb
 have cb_9 := cel6_3 kb
 have cb_10 := cel6_4 kb
 have cb_11 := cel6_5 kb
 have ca_12 := cel6_0 (ka.alloc (.cells #[.bool false, .string { data := #[] }, .string { data := #[] }, .bool false, .string { data := #[] }, .string { data := #[] }] 28))
 have ca_13 := cel6_1 (ka.alloc (.cells #[.bool false, .string { data := #[] }, .string { data := #[] }, .bool false, .string { data := #[] }, .string { data := #[] }] 28))
 have ca_14 := cel6_2 (ka.alloc (.cells #[.bool false, .string { data := #[] }, .string { data := #[] }, .bool false, .string { data := #[] }, .string { data := #[] }] 28))
 have ca_15 := cel6_3 (ka.alloc (.cells #[.bool false, .string { data := #[] }, .string { data := #[] }, .bool false, .string { data := #[] }, .string { data := #[] }] 28))
 have ca_16 := cel6_4 (ka.alloc (.cells #[.bool false, .string { data := #[] }, .string { data := #[] }, .bool false, .string { data := #[] }, .string { data := #[] }] 28))
 have ca_17 := cel6_5 (ka.alloc (.cells #[.bool false, .string { data := #[] }, .string { data := #[] }, .bool false, .string { data := #[] }, .string { data := #[] }] 28))
 have cb_18 := cel6_0 (kb.alloc (.cells #[.bool false, .string { data := #[] }, .string { data := #[] }, .bool false, .string { data := #[] }, .string { data := #[] }] 28))
 have cb_19 := cel6_1 (kb.alloc (.cells #[.bool false, .string { data := #[] }, .string { data := #[] }, .bool false, .string { data := #[] }, .string { data := #[] }] 28))
 have cb_20 := cel6_2 (kb.alloc (.cells #[.bool false, .string { data := #[] }, .string { data := #[] }, .bool false, .string { data := #[] }, .string { data := #[] }] 28))
 have cb_21 := cel6_3 (kb.alloc (.cells #[.bool false, .string { data := #[] }, .string { data := #[] }, .bool false, .string { data := #[] }, .string { data := #[] }] 28))
 have cb_22 := cel6_4 (kb.alloc (.cells #[.bool false, .string { data := #[] }, .string { data := #[] }, .bool false, .string { data := #[] }, .string { data := #[] }] 28))
 have cb_23 := cel6_5 (kb.alloc (.cells #[.bool false, .string { data := #[] }, .string { data := #[] }, .bool false, .string { data := #[] }, .string { data := #[] }] 28))
 go_wp2_with fail
 clear ca_0 ca_1 ca_2 ca_3 ca_4 ca_5 cb_6 cb_7 cb_8 cb_9 cb_10 cb_11 ca_12 ca_13 ca_14 ca_15 ca_16 ca_17 cb_18 cb_19 cb_20 cb_21 cb_22 cb_23
 go_fit (H2.out _ (ba bb _))
 rintro e w5 ⟨rfl, b1⟩
 obtain ⟨ks, b1⟩ := al1 b1
 have sz := b1.size
 replace ka := ka.below b1
 replace kb := kb.below b1
 replace bb := Below.after bb b1
 clear b1
 have ts := ks.lt
 clear ts
 have ca_0 := cel6_0 ka
 have ca_1 := cel6_1 ka
 have ca_2 := cel6_2 ka
 have ca_3 := cel6_3 ka
 have ca_4 := cel6_4 ka
 have ca_5 := cel6_5 ka
 have cb_6 := cel6_0 kb
 have cb_7 := cel6_1 kb
 have cb_8 := cel6_2 kb
 have cb_9 := cel6_3 kb
 have cb_10 := cel6_4 kb
 have cb_11 := cel6_5 kb
 have ca_12 := cel6_0 (ka.alloc (.cells #[.bool false, .string { data := #[] }, .string { data := #[] }, .bool false, .string { data := #[] }, .string { data := #[] }] 28))
 have ca_13 := cel6_1 (ka.alloc (.cells #[.bool false, .string { data := #[] }, .string { data := #[] }, .bool false, .string { data := #[] }, .string { data := #[] }] 28))
 have ca_14 := cel6_2 (ka.alloc (.cells #[.bool false, .string { data := #[] }, .string { data := #[] }, .bool false, .string { data := #[] }, .string { data := #[] }] 28))
 have ca_15 := cel6_3 (ka.alloc (.cells #[.bool false, .string { data := #[] }, .string { data := #[] }, .bool false, .string { data := #[] }, .string { data := #[] }] 28))
 have ca_16 := cel6_4 (ka.alloc (.cells #[.bool false, .string { data := #[] }, .string { data := #[] }, .bool false, .string { data := #[] }, .string { data := #[] }] 28))
 have ca_17 := cel6_5 (ka.alloc (.cells #[.bool false, .string { data := #[] }, .string { data := #[] }, .bool false, .string { data := #[] }, .string { data := #[] }] 28))
 have cb_18 := cel6_0 (kb.alloc (.cells #[.bool false, .string { data := #[] }, .string { data := #[] }, .bool false, .string { data := #[] }, .string { data := #[] }] 28))
 have cb_19 := cel6_1 (kb.alloc (.cells #[.bool false, .string { data := #[] }, .string { data := #[] }, .bool false, .string { data := #[] }, .string { data := #[] }] 28))
 have cb_20 := cel6_2 (kb.alloc (.cells #[.bool false, .string { data := #[] }, .string { data := #[] }, .bool false, .string { data := #[] }, .string { data := #[] }] 28))
 have cb_21 := cel6_3 (kb.alloc (.cells #[.bool false, .string { data := #[] }, .string { data := #[] }, .bool false, .string { data := #[] }, .string { data := #[] }] 28))
 have cb_22 := cel6_4 (kb.alloc (.cells #[.bool false, .string { data := #[] }, .string { data := #[] }, .bool false, .string { data := #[] }, .string { data := #[] }] 28))
 have cb_23 := cel6_5 (kb.alloc (.cells #[.bool false, .string { data := #[] }, .string { data := #[] }, .bool false, .string { data := #[] }, .string { data := #[] }] 28))
 go_wp2_with fail
 clear ca_0 ca_1 ca_2 ca_3 ca_4 ca_5 cb_6 cb_7 cb_8 cb_9 cb_10 cb_11 ca_12 ca_13 ca_14 ca_15 ca_16 ca_17 cb_18 cb_19 cb_20 cb_21 cb_22 cb_23
 go_fit (H3.out _ (ba bb _))
 rintro e w6 ⟨rfl, b1⟩
 obtain ⟨kd, b1⟩ := al1 b1
 have sz := b1.size
 replace ka := ka.below b1
 replace kb := kb.below b1
 replace ks := ks.below b1
 replace bb := Below.after bb b1
 clear b1
 have td := kd.lt
 clear td
 have ca_0 := cel6_0 ka
 have ca_1 := cel6_1 ka
 have ca_2 := cel6_2 ka
 have ca_3 := cel6_3 ka
 have ca_4 := cel6_4 ka
 have ca_5 := cel6_5 ka
 have cb_6 := cel6_0 kb
 have cb_7 := cel6_1 kb
 have cb_8 := cel6_2 kb
 have cb_9 := cel6_3 kb
 have cb_10 := cel6_4 kb
 have cb_11 := cel6_5 kb
 have ca_12 := cel6_0 (ka.alloc (.cells #[.bool false, .string { data := #[] }, .string { data := #[] }] 26))
 have ca_13 := cel6_1 (ka.alloc (.cells #[.bool false, .string { data := #[] }, .string { data := #[] }] 26))
 have ca_14 := cel6_2 (ka.alloc (.cells #[.bool false, .string { data := #[] }, .string { data := #[] }] 26))
 have ca_15 := cel6_3 (ka.alloc (.cells #[.bool false, .string { data := #[] }, .string { data := #[] }] 26))
 have ca_16 := cel6_4 (ka.alloc (.cells #[.bool false, .string { data := #[] }, .string { data := #[] }] 26))
 have ca_17 := cel6_5 (ka.alloc (.cells #[.bool false, .string { data := #[] }, .string { data := #[] }] 26))
 have cb_18 := cel6_0 (kb.alloc (.cells #[.bool false, .string { data := #[] }, .string { data := #[] }] 26))
 have cb_19 := cel6_1 (kb.alloc (.cells #[.bool false, .string { data := #[] }, .string { data := #[] }] 26))
 have cb_20 := cel6_2 (kb.alloc (.cells #[.bool false, .string { data := #[] }, .string { data := #[] }] 26))
 have cb_21 := cel6_3 (kb.alloc (.cells #[.bool false, .string { data := #[] }, .string { data := #[] }] 26))
 have cb_22 := cel6_4 (kb.alloc (.cells #[.bool false, .string { data := #[] }, .string { data := #[] }] 26))
 have cb_23 := cel6_5 (kb.alloc (.cells #[.bool false, .string { data := #[] }, .string { data := #[] }] 26))
 go_wp2_with fail
 clear ca_0 ca_1 ca_2 ca_3 ca_4 ca_5 cb_6 cb_7 cb_8 cb_9 cb_10 cb_11 ca_12 ca_13 ca_14 ca_15 ca_16 ca_17 cb_18 cb_19 cb_20 cb_21 cb_22 cb_23
 go_fit (H4.out _ (ba bb _))
 rintro e w7 ⟨rfl, b1⟩
 obtain ⟨kx, b1⟩ := al1 b1
 have sz := b1.size
 replace ka := ka.below b1
 replace kb := kb.below b1
 replace ks := ks.below b1
 replace kd := kd.below b1
 replace bb := Below.after bb b1
 clear b1
 have tx := kx.lt
 clear tx
 have ca_0 := cel6_0 ka
 have ca_1 := cel6_1 ka
 have ca_2 := cel6_2 ka
 have ca_3 := cel6_3 ka
 have ca_4 := cel6_4 ka
 have ca_5 := cel6_5 ka
 have cb_6 := cel6_0 kb
 have cb_7 := cel6_1 kb
 have cb_8 := cel6_2 kb
 have cb_9 := cel6_3 kb
 have cb_10 := cel6_4 kb
 have cb_11 := cel6_5 kb
 have ca_12 := cel6_0 (ka.alloc (.cells #[.bool false, .string { data := #[] }, .string { data := #[] }] 26))
 have ca_13 := cel6_1 (ka.alloc (.cells #[.bool false, .string { data := #[] }, .string { data := #[] }] 26))
 have ca_14 := cel6_2 (ka.alloc (.cells #[.bool false, .string { data := #[] }, .string { data := #[] }] 26))
 have ca_15 := cel6_3 (ka.alloc (.cells #[.bool false, .string { data := #[] }, .string { data := #[] }] 26))
 have ca_16 := cel6_4 (ka.alloc (.cells #[.bool false, .string { data := #[] }, .string { data := #[] }] 26))
 have ca_17 := cel6_5 (ka.alloc (.cells #[.bool false, .string { data := #[] }, .string { data := #[] }] 26))
 have cb_18 := cel6_0 (kb.alloc (.cells #[.bool false, .string { data := #[] }, .string { data := #[] }] 26))
 have cb_19 := cel6_1 (kb.alloc (.cells #[.bool false, .string { data := #[] }, .string { data := #[] }] 26))
 have cb_20 := cel6_2 (kb.alloc (.cells #[.bool false, .string { data := #[] }, .string { data := #[] }] 26))
 have cb_21 := cel6_3 (kb.alloc (.cells #[.bool false, .string { data := #[] }, .string { data := #[] }] 26))
 have cb_22 := cel6_4 (kb.alloc (.cells #[.bool false, .string { data := #[] }, .string { data := #[] }] 26))
 have cb_23 := cel6_5 (kb.alloc (.cells #[.bool false, .string { data := #[] }, .string { data := #[] }] 26))
 go_wp2_with fail
 clear ca_0 ca_1 ca_2 ca_3 ca_4 ca_5 cb_6 cb_7 cb_8 cb_9 cb_10 cb_11 ca_12 ca_13 ca_14 ca_15 ca_16 ca_17 cb_18 cb_19 cb_20 cb_21 cb_22 cb_23
 go_fit (H5.out _ (ba bb _))
 rintro e w8 ⟨rfl, b1⟩
 obtain ⟨ky, b1⟩ := al1 b1
 have sz := b1.size
 replace ka := ka.below b1
 replace kb := kb.below b1
 replace ks := ks.below b1
 replace kd := kd.below b1
 replace kx := kx.below b1
 replace bb := Below.after bb b1
 clear b1
 have ty := ky.lt
 clear ty
 have ca_0 := cel6_0 ka
 have ca_1 := cel6_1 ka
 have ca_2 := cel6_2 ka
 have ca_3 := cel6_3 ka
 have ca_4 := cel6_4 ka
 have ca_5 := cel6_5 ka
 have cb_6 := cel6_0 kb
 have cb_7 := cel6_1 kb
 have cb_8 := cel6_2 kb
 have cb_9 := cel6_3 kb
 have cb_10 := cel6_4 kb
 have cb_11 := cel6_5 kb
 have ca_12 := cel6_0 (ka.alloc (.cells #[.bool vN, .string vS, .string vD] 26))
 have ca_13 := cel6_1 (ka.alloc (.cells #[.bool vN, .string vS, .string vD] 26))
 have ca_14 := cel6_2 (ka.alloc (.cells #[.bool vN, .string vS, .string vD] 26))
 have ca_15 := cel6_3 (ka.alloc (.cells #[.bool vN, .string vS, .string vD] 26))
 have ca_16 := cel6_4 (ka.alloc (.cells #[.bool vN, .string vS, .string vD] 26))
 have ca_17 := cel6_5 (ka.alloc (.cells #[.bool vN, .string vS, .string vD] 26))
 have cb_18 := cel6_0 (kb.alloc (.cells #[.bool vN, .string vS, .string vD] 26))
 have cb_19 := cel6_1 (kb.alloc (.cells #[.bool vN, .string vS, .string vD] 26))
 have cb_20 := cel6_2 (kb.alloc (.cells #[.bool vN, .string vS, .string vD] 26))
 have cb_21 := cel6_3 (kb.alloc (.cells #[.bool vN, .string vS, .string vD] 26))
 have cb_22 := cel6_4 (kb.alloc (.cells #[.bool vN, .string vS, .string vD] 26))
 have cb_23 := cel6_5 (kb.alloc (.cells #[.bool vN, .string vS, .string vD] 26))
 go_wp2_with fail
 clear ca_0 ca_1 ca_2 ca_3 ca_4 ca_5 cb_6 cb_7 cb_8 cb_9 cb_10 cb_11 ca_12 ca_13 ca_14 ca_15 ca_16 ca_17 cb_18 cb_19 cb_20 cb_21 cb_22 cb_23
 go_fit (H6.out _)
 rintro e w9 ⟨rfl, b1⟩
 obtain ⟨kv, b1⟩ := al1 b1
 have sz := b1.size
 replace ka := ka.below b1
 replace kb := kb.below b1
 replace ks := ks.below b1
 replace kd := kd.below b1
 replace kx := kx.below b1
 replace ky := ky.below b1
 replace bb := Below.after bb b1
 clear b1
 have tv := kv.lt
 clear tv
 have ca_0 := cel6_0 ka
 have ca_1 := cel6_1 ka
 have ca_2 := cel6_2 ka
 have ca_3 := cel6_3 ka
 have ca_4 := cel6_4 ka
 have ca_5 := cel6_5 ka
 go_wp2_with fail
 clear ca_0 ca_1 ca_2 ca_3 ca_4 ca_5
 go_fit (H7.out _ bb)
 rintro e w10 ⟨rfl, b1⟩
 have sz := b1.size
 replace ka := ka.below b1
 replace kb := kb.below b1
 replace ks := ks.below b1
 replace kd := kd.below b1
 replace kx := kx.below b1
 replace ky := ky.below b1
 replace kv := kv.below b1
 replace bb := Below.after bb b1
 clear b1
 have cs_0 := cel6_0 ks
 have cs_1 := cel6_1 ks
 have cs_2 := cel6_2 ks
 have cs_3 := cel6_3 ks
 have cs_4 := cel6_4 ks
 have cs_5 := cel6_5 ks
 have cd_6 := cel6_0 kd
 have cd_7 := cel6_1 kd
 have cd_8 := cel6_2 kd
 have cd_9 := cel6_3 kd
 have cd_10 := cel6_4 kd
 have cd_11 := cel6_5 kd
 have cx_12 := cel3_0 kx
 have cx_13 := cel3_1 kx
 have cx_14 := cel3_2 kx
 have cy_15 := cel3_0 ky
 have cy_16 := cel3_1 ky
 have cy_17 := cel3_2 ky
 go_wp2_with fail
 clear cs_0 cs_1 cs_2 cs_3 cs_4 cs_5 cd_6 cd_7 cd_8 cd_9 cd_10 cd_11 cx_12 cx_13 cx_14 cy_15 cy_16 cy_17
 go_fit (HL.out _ bb)
 rintro e w11 ⟨rfl, b1⟩
 have sz := b1.size
 replace ka := ka.below b1
 replace kb := kb.below b1
 replace ks := ks.below b1
 replace kd := kd.below b1
 replace kx := kx.below b1
 replace ky := ky.below b1
 replace kv := kv.below b1
 replace bb := Below.after bb b1
 clear b1
 go_wp2
 go_ret
 exact ⟨rfl, bb⟩
end Go.Proofs.YtlpafjbbeljbhaaGreatDoor
