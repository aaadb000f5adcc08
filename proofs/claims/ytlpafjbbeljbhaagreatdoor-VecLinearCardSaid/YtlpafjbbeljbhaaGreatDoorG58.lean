/-
  gussetlaw04: VecLinear, walked.
-/
import Derived.Test.YtlpafjbbeljbhaaGreatDoorG51
namespace Go.Proofs.YtlpafjbbeljbhaaGreatDoor
open Go.RowKit Go.Shelf

set_option maxRecDepth 100000 in
set_option maxHeartbeats 8000000 in
theorem linear_l1 (n0 n1 n2 n3 n4 n5 : Bool) (s0 d0 s1 d1 s2 d2 s3 d3 s4 d4 s5 d5 : ByteArray) (w : World)
  (HL : Hid (∀ w1, Below w.heap.size w w1 → Calls Tryz.prog 10 #[] w1 fun e w' => e = .returned (.bool true) ∧ Below w1.heap.size w1 w'))
  (S0 : Hid (∀ w1, Calls Tryz.prog 9 #[.agg #[.bool n0, .string s0, .string d0, .bool n1, .string s1, .string d1]] w1 fun e w' => e = .returned (.bool false) ∧ Below w1.heap.size w1 w')) :
  Calls Tryz.prog 7 #[.agg #[.bool n0, .string s0, .string d0, .bool n1, .string s1, .string d1], .agg #[.bool n2, .string s2, .string d2, .bool n3, .string s3, .string d3], .agg #[.bool n4, .string s4, .string d4, .bool n5, .string s5, .string d5]] w fun e w' => e = .returned (.bool true) ∧ Below w.heap.size w w' := by
 go_enter Tryz.func7, Tryz.ntmps7
 go_wp2_with fail
 go_fit (S0.out _)
 rintro e w1 ⟨rfl, b1⟩
 obtain ⟨ka, kb, kc, b1⟩ := al3 b1
 have sz := b1.size
 have bb := b1
 clear b1
 have ta := ka.lt
 have tb := kb.lt
 have tc := kc.lt
 clear ta tb tc
 go_wp2_with fail
 go_fit (HL.out _ bb)
 rintro e w2 ⟨rfl, b1⟩
 have sz := b1.size
 replace ka := ka.below b1
 replace kb := kb.below b1
 replace kc := kc.below b1
 replace bb := Below.after bb b1
 clear b1
 go_wp2
 go_ret
 exact ⟨rfl, bb⟩
set_option maxRecDepth 100000 in
set_option maxHeartbeats 8000000 in
theorem linear_l2 (n0 n1 n2 n3 n4 n5 : Bool) (s0 d0 s1 d1 s2 d2 s3 d3 s4 d4 s5 d5 : ByteArray) (w : World)
  (HL : Hid (∀ w1, Below w.heap.size w w1 → Calls Tryz.prog 10 #[] w1 fun e w' => e = .returned (.bool true) ∧ Below w1.heap.size w1 w'))
  (S0 : Hid (∀ w1, Calls Tryz.prog 9 #[.agg #[.bool n0, .string s0, .string d0, .bool n1, .string s1, .string d1]] w1 fun e w' => e = .returned (.bool true) ∧ Below w1.heap.size w1 w'))
  (S1 : Hid (∀ w1, Calls Tryz.prog 9 #[.agg #[.bool n2, .string s2, .string d2, .bool n3, .string s3, .string d3]] w1 fun e w' => e = .returned (.bool false) ∧ Below w1.heap.size w1 w')) :
  Calls Tryz.prog 7 #[.agg #[.bool n0, .string s0, .string d0, .bool n1, .string s1, .string d1], .agg #[.bool n2, .string s2, .string d2, .bool n3, .string s3, .string d3], .agg #[.bool n4, .string s4, .string d4, .bool n5, .string s5, .string d5]] w fun e w' => e = .returned (.bool true) ∧ Below w.heap.size w w' := by
 go_enter Tryz.func7, Tryz.ntmps7
 go_wp2_with fail
 go_fit (S0.out _)
 rintro e w1 ⟨rfl, b1⟩
 obtain ⟨ka, kb, kc, b1⟩ := al3 b1
 have sz := b1.size
 have bb := b1
 clear b1
 have ta := ka.lt
 have tb := kb.lt
 have tc := kc.lt
 clear ta tb tc
 have cb_0 := cel6_0 kb
 have cb_1 := cel6_1 kb
 have cb_2 := cel6_2 kb
 have cb_3 := cel6_3 kb
 have cb_4 := cel6_4 kb
 have cb_5 := cel6_5 kb
 go_wp2_with fail
 clear cb_0 cb_1 cb_2 cb_3 cb_4 cb_5
 go_fit (S1.out _)
 rintro e w2 ⟨rfl, b1⟩
 have sz := b1.size
 replace ka := ka.below b1
 replace kb := kb.below b1
 replace kc := kc.below b1
 replace bb := Below.after bb b1
 clear b1
 go_wp2_with fail
 go_fit (HL.out _ bb)
 rintro e w3 ⟨rfl, b1⟩
 have sz := b1.size
 replace ka := ka.below b1
 replace kb := kb.below b1
 replace kc := kc.below b1
 replace bb := Below.after bb b1
 clear b1
 go_wp2
 go_ret
 exact ⟨rfl, bb⟩
set_option maxRecDepth 100000 in
set_option maxHeartbeats 8000000 in
theorem linear_l3 (n0 n1 n2 n3 n4 n5 : Bool) (s0 d0 s1 d1 s2 d2 s3 d3 s4 d4 s5 d5 : ByteArray) (w : World)
  (HL : Hid (∀ w1, Below w.heap.size w w1 → Calls Tryz.prog 10 #[] w1 fun e w' => e = .returned (.bool true) ∧ Below w1.heap.size w1 w'))
  (S0 : Hid (∀ w1, Calls Tryz.prog 9 #[.agg #[.bool n0, .string s0, .string d0, .bool n1, .string s1, .string d1]] w1 fun e w' => e = .returned (.bool true) ∧ Below w1.heap.size w1 w'))
  (S1 : Hid (∀ w1, Calls Tryz.prog 9 #[.agg #[.bool n2, .string s2, .string d2, .bool n3, .string s3, .string d3]] w1 fun e w' => e = .returned (.bool true) ∧ Below w1.heap.size w1 w'))
  (S2 : Hid (∀ w1, Calls Tryz.prog 9 #[.agg #[.bool n4, .string s4, .string d4, .bool n5, .string s5, .string d5]] w1 fun e w' => e = .returned (.bool false) ∧ Below w1.heap.size w1 w')) :
  Calls Tryz.prog 7 #[.agg #[.bool n0, .string s0, .string d0, .bool n1, .string s1, .string d1], .agg #[.bool n2, .string s2, .string d2, .bool n3, .string s3, .string d3], .agg #[.bool n4, .string s4, .string d4, .bool n5, .string s5, .string d5]] w fun e w' => e = .returned (.bool true) ∧ Below w.heap.size w w' := by
 go_enter Tryz.func7, Tryz.ntmps7
 go_wp2_with fail
 go_fit (S0.out _)
 rintro e w1 ⟨rfl, b1⟩
 obtain ⟨ka, kb, kc, b1⟩ := al3 b1
 have sz := b1.size
 have bb := b1
 clear b1
 have ta := ka.lt
 have tb := kb.lt
 have tc := kc.lt
 clear ta tb tc
 have cb_0 := cel6_0 kb
 have cb_1 := cel6_1 kb
 have cb_2 := cel6_2 kb
 have cb_3 := cel6_3 kb
 have cb_4 := cel6_4 kb
 have cb_5 := cel6_5 kb
 go_wp2_with fail
 clear cb_0 cb_1 cb_2 cb_3 cb_4 cb_5
 go_fit (S1.out _)
 rintro e w2 ⟨rfl, b1⟩
 have sz := b1.size
 replace ka := ka.below b1
 replace kb := kb.below b1
 replace kc := kc.below b1
 replace bb := Below.after bb b1
 clear b1
 have cc_0 := cel6_0 kc
 have cc_1 := cel6_1 kc
 have cc_2 := cel6_2 kc
 have cc_3 := cel6_3 kc
 have cc_4 := cel6_4 kc
 have cc_5 := cel6_5 kc
 go_wp2_with fail
 clear cc_0 cc_1 cc_2 cc_3 cc_4 cc_5
 go_fit (S2.out _)
 rintro e w3 ⟨rfl, b1⟩
 have sz := b1.size
 replace ka := ka.below b1
 replace kb := kb.below b1
 replace kc := kc.below b1
 replace bb := Below.after bb b1
 clear b1
 go_wp2_with fail
 go_fit (HL.out _ bb)
 rintro e w4 ⟨rfl, b1⟩
 have sz := b1.size
 replace ka := ka.below b1
 replace kb := kb.below b1
 replace kc := kc.below b1
 replace bb := Below.after bb b1
 clear b1
 go_wp2
 go_ret
 exact ⟨rfl, bb⟩
set_option maxRecDepth 100000 in
set_option maxHeartbeats 8000000 in
theorem linear_l4 (n0 n1 n2 n3 n4 n5 : Bool) (s0 d0 s1 d1 s2 d2 s3 d3 s4 d4 s5 d5 : ByteArray) (E : Int) (hE : ¬ E = 0) (w : World)
  (HL : Hid (∀ w1, Below w.heap.size w w1 → Calls Tryz.prog 10 #[] w1 fun e w' => e = .returned (.bool true) ∧ Below w1.heap.size w1 w'))
  (S0 : Hid (∀ w1, Calls Tryz.prog 9 #[.agg #[.bool n0, .string s0, .string d0, .bool n1, .string s1, .string d1]] w1 fun e w' => e = .returned (.bool true) ∧ Below w1.heap.size w1 w'))
  (S1 : Hid (∀ w1, Calls Tryz.prog 9 #[.agg #[.bool n2, .string s2, .string d2, .bool n3, .string s3, .string d3]] w1 fun e w' => e = .returned (.bool true) ∧ Below w1.heap.size w1 w'))
  (S2 : Hid (∀ w1, Calls Tryz.prog 9 #[.agg #[.bool n4, .string s4, .string d4, .bool n5, .string s5, .string d5]] w1 fun e w' => e = .returned (.bool true) ∧ Below w1.heap.size w1 w'))
  (HP : Hid (∀ (B : Nat) (w1 : World), Cel w1 B [.bool n0, .string s0, .string d0, .bool n1, .string s1, .string d1, .bool n2, .string s2, .string d2, .bool n3, .string s3, .string d3, .bool n4, .string s4, .string d4, .bool n5, .string s5, .string d5] 28 → Calls Tryz.prog 11 #[.slice (some ⟨B, 0, none⟩) 3 3] w1 fun e w' => e = .returned (.int .i64 E) ∧ Below w1.heap.size w1 w')) :
  Calls Tryz.prog 7 #[.agg #[.bool n0, .string s0, .string d0, .bool n1, .string s1, .string d1], .agg #[.bool n2, .string s2, .string d2, .bool n3, .string s3, .string d3], .agg #[.bool n4, .string s4, .string d4, .bool n5, .string s5, .string d5]] w fun e w' => e = .returned (.bool true) ∧ Below w.heap.size w w' := by
 go_enter Tryz.func7, Tryz.ntmps7
 go_wp2_with fail
 go_fit (S0.out _)
 rintro e w1 ⟨rfl, b1⟩
 obtain ⟨ka, kb, kc, b1⟩ := al3 b1
 have sz := b1.size
 have bb := b1
 clear b1
 have ta := ka.lt
 have tb := kb.lt
 have tc := kc.lt
 clear ta tb tc
 have cb_0 := cel6_0 kb
 have cb_1 := cel6_1 kb
 have cb_2 := cel6_2 kb
 have cb_3 := cel6_3 kb
 have cb_4 := cel6_4 kb
 have cb_5 := cel6_5 kb
 go_wp2_with fail
 clear cb_0 cb_1 cb_2 cb_3 cb_4 cb_5
 go_fit (S1.out _)
 rintro e w2 ⟨rfl, b1⟩
 have sz := b1.size
 replace ka := ka.below b1
 replace kb := kb.below b1
 replace kc := kc.below b1
 replace bb := Below.after bb b1
 clear b1
 have cc_0 := cel6_0 kc
 have cc_1 := cel6_1 kc
 have cc_2 := cel6_2 kc
 have cc_3 := cel6_3 kc
 have cc_4 := cel6_4 kc
 have cc_5 := cel6_5 kc
 go_wp2_with fail
 clear cc_0 cc_1 cc_2 cc_3 cc_4 cc_5
 go_fit (S2.out _)
 rintro e w3 ⟨rfl, b1⟩
 have sz := b1.size
 replace ka := ka.below b1
 replace kb := kb.below b1
 replace kc := kc.below b1
 replace bb := Below.after bb b1
 clear b1
 have ca_0 := cel6_0 ka
 have ca_1 := cel6_1 ka
 have ca_2 := cel6_2 ka
 have ca_3 := cel6_3 ka
 have ca_4 := cel6_4 ka
 have ca_5 := cel6_5 ka
 have cb_6 := cel6_0 kb
 have cb_7 := cel6_1 kb
 have cb_8 := cel6_2 kb
 have cb_9 := cel6_3 kb
 have cb_10 := cel6_4 kb
 have cb_11 := cel6_5 kb
 have cc_12 := cel6_0 kc
 have cc_13 := cel6_1 kc
 have cc_14 := cel6_2 kc
 have cc_15 := cel6_3 kc
 have cc_16 := cel6_4 kc
 have cc_17 := cel6_5 kc
 go_wp2_with fail
 clear ca_0 ca_1 ca_2 ca_3 ca_4 ca_5 cb_6 cb_7 cb_8 cb_9 cb_10 cb_11 cc_12 cc_13 cc_14 cc_15 cc_16 cc_17
 go_fit (HP.out _ _ (Cel.new _ _ _))
 rintro e w4 ⟨rfl, b1⟩
 obtain ⟨kl, b1⟩ := al1 b1
 have sz := b1.size
 replace ka := ka.below b1
 replace kb := kb.below b1
 replace kc := kc.below b1
 replace bb := Below.after bb b1
 clear b1
 have tl := kl.lt
 clear tl
 clear kl
 go_wp2_with fail
 go_fit (HL.out _ bb)
 rintro e w5 ⟨rfl, b1⟩
 have sz := b1.size
 replace ka := ka.below b1
 replace kb := kb.below b1
 replace kc := kc.below b1
 replace bb := Below.after bb b1
 clear b1
 go_wp2
 go_ret
 exact ⟨rfl, bb⟩
end Go.Proofs.YtlpafjbbeljbhaaGreatDoor
