/-
  gussetlaw04: VecScales, walked.
-/
import Derived.Lib.AppendIntMem
import Derived.Shelf.LaysM
import Derived.Shelf.Strconv.Itoa2
import Derived.Test.YtlpafjbbeljbhaaGreatDoorG39
namespace Go.Proofs.YtlpafjbbeljbhaaGreatDoor
open Go.RowKit Go.Shelf

set_option maxRecDepth 100000 in
set_option maxHeartbeats 8000000 in
theorem scales_l1 (n0 n1 n2 : Bool) (s0 d0 s1 d1 s2 d2 : ByteArray) (w : World)
  (HL : Hid (∀ w1, Below w.heap.size w w1 → Calls Tryz.prog 10 #[] w1 fun e w' => e = .returned (.bool true) ∧ Below w1.heap.size w1 w'))
  (S0 : Hid (∀ w1, Calls Tryz.prog 9 #[.agg #[.bool n0, .string s0, .string d0, .bool n1, .string s1, .string d1]] w1 fun e w' => e = .returned (.bool false) ∧ Below w1.heap.size w1 w')) :
  Calls Tryz.prog 4 #[.agg #[.bool n0, .string s0, .string d0, .bool n1, .string s1, .string d1], .agg #[.bool n2, .string s2, .string d2]] w fun e w' => e = .returned (.bool true) ∧ Below w.heap.size w w' := by
 go_enter Tryz.func4, Tryz.ntmps4
 go_wp2_with fail
 go_fit (S0.out _)
 rintro e w1 ⟨rfl, b1⟩
 obtain ⟨ka, kk, b1⟩ := al2 b1
 have sz := b1.size
 have bb := b1
 clear b1
 have ta := ka.lt
 have tk := kk.lt
 clear ta tk
 go_wp2_with fail
 go_fit (HL.out _ bb)
 rintro e w2 ⟨rfl, b1⟩
 have sz := b1.size
 replace ka := ka.below b1
 replace kk := kk.below b1
 replace bb := Below.after bb b1
 clear b1
 go_wp2
 go_ret
 exact ⟨rfl, bb⟩
set_option maxRecDepth 100000 in
set_option maxHeartbeats 8000000 in
theorem scales_l2 (n0 n1 n2 : Bool) (s0 d0 s1 d1 s2 d2 : ByteArray) (w : World)
  (HL : Hid (∀ w1, Below w.heap.size w w1 → Calls Tryz.prog 10 #[] w1 fun e w' => e = .returned (.bool true) ∧ Below w1.heap.size w1 w'))
  (S0 : Hid (∀ w1, Calls Tryz.prog 9 #[.agg #[.bool n0, .string s0, .string d0, .bool n1, .string s1, .string d1]] w1 fun e w' => e = .returned (.bool true) ∧ Below w1.heap.size w1 w'))
  (S1 : Hid (∀ w1, Calls Tryz.prog 24 #[.agg #[.bool n2, .string s2, .string d2]] w1 fun e w' => e = .returned (.bool false) ∧ Below w1.heap.size w1 w')) :
  Calls Tryz.prog 4 #[.agg #[.bool n0, .string s0, .string d0, .bool n1, .string s1, .string d1], .agg #[.bool n2, .string s2, .string d2]] w fun e w' => e = .returned (.bool true) ∧ Below w.heap.size w w' := by
 go_enter Tryz.func4, Tryz.ntmps4
 go_wp2_with fail
 go_fit (S0.out _)
 rintro e w1 ⟨rfl, b1⟩
 obtain ⟨ka, kk, b1⟩ := al2 b1
 have sz := b1.size
 have bb := b1
 clear b1
 have ta := ka.lt
 have tk := kk.lt
 clear ta tk
 have ca_0 := cel6_0 ka
 have ca_1 := cel6_1 ka
 have ca_2 := cel6_2 ka
 have ca_3 := cel6_3 ka
 have ca_4 := cel6_4 ka
 have ca_5 := cel6_5 ka
 have ck_6 := cel3_0 kk
 have ck_7 := cel3_1 kk
 have ck_8 := cel3_2 kk
 go_wp2_with fail
 clear ca_0 ca_1 ca_2 ca_3 ca_4 ca_5 ck_6 ck_7 ck_8
 go_fit (S1.out _)
 rintro e w2 ⟨rfl, b1⟩
 have sz := b1.size
 replace ka := ka.below b1
 replace kk := kk.below b1
 replace bb := Below.after bb b1
 clear b1
 go_wp2_with fail
 go_fit (HL.out _ bb)
 rintro e w3 ⟨rfl, b1⟩
 have sz := b1.size
 replace ka := ka.below b1
 replace kk := kk.below b1
 replace bb := Below.after bb b1
 clear b1
 go_wp2
 go_ret
 exact ⟨rfl, bb⟩
set_option maxRecDepth 100000 in
set_option maxHeartbeats 8000000 in
theorem scales_b1 (n0 n1 n2 : Bool) (s0 d0 s1 d1 s2 d2 : ByteArray) (E : Int) (hE : ¬ E = 0) (w : World)
  (HL : Hid (∀ w1, Below w.heap.size w w1 → Calls Tryz.prog 10 #[] w1 fun e w' => e = .returned (.bool true) ∧ Below w1.heap.size w1 w'))
  (S0 : Hid (∀ w1, Calls Tryz.prog 9 #[.agg #[.bool n0, .string s0, .string d0, .bool n1, .string s1, .string d1]] w1 fun e w' => e = .returned (.bool true) ∧ Below w1.heap.size w1 w'))
  (S1 : Hid (∀ w1, Calls Tryz.prog 24 #[.agg #[.bool n2, .string s2, .string d2]] w1 fun e w' => e = .returned (.bool true) ∧ Below w1.heap.size w1 w'))
  (H1 : Hid (∀ w1, Below w.heap.size w w1 → Calls Tryz.prog 25 #[.agg #[.bool n0, .string s0, .string d0, .bool n1, .string s1, .string d1], .agg #[.bool n2, .string s2, .string d2]] w1 fun e w' => e = .returned (.tuple #[.agg #[.bool false, .string { data := #[] }, .string { data := #[] }, .bool false, .string { data := #[] }, .string { data := #[] }], .int .i64 E]) ∧ Below w1.heap.size w1 w'))
  (H2 : Hid (∀ w1, Calls Tryz.prog 17 #[.agg #[.bool n0, .string s0, .string d0, .bool n1, .string s1, .string d1]] w1 fun e w' => e = .returned (.int .i64 E) ∧ Below w1.heap.size w1 w')) :
  Calls Tryz.prog 4 #[.agg #[.bool n0, .string s0, .string d0, .bool n1, .string s1, .string d1], .agg #[.bool n2, .string s2, .string d2]] w fun e w' => e = .returned (.bool true) ∧ Below w.heap.size w w' := by
 go_enter Tryz.func4, Tryz.ntmps4
 go_wp2_with fail
 go_fit (S0.out _)
 rintro e w1 ⟨rfl, b1⟩
 obtain ⟨ka, kk, b1⟩ := al2 b1
 have sz := b1.size
 have bb := b1
 clear b1
 have ta := ka.lt
 have tk := kk.lt
 clear ta tk
 have ca_0 := cel6_0 ka
 have ca_1 := cel6_1 ka
 have ca_2 := cel6_2 ka
 have ca_3 := cel6_3 ka
 have ca_4 := cel6_4 ka
 have ca_5 := cel6_5 ka
 have ck_6 := cel3_0 kk
 have ck_7 := cel3_1 kk
 have ck_8 := cel3_2 kk
 go_wp2_with fail
 clear ca_0 ca_1 ca_2 ca_3 ca_4 ca_5 ck_6 ck_7 ck_8
 go_fit (S1.out _)
 rintro e w2 ⟨rfl, b1⟩
 have sz := b1.size
 replace ka := ka.below b1
 replace kk := kk.below b1
 replace bb := Below.after bb b1
 clear b1
 have ca_0 := cel6_0 ka
 have ca_1 := cel6_1 ka
 have ca_2 := cel6_2 ka
 have ca_3 := cel6_3 ka
 have ca_4 := cel6_4 ka
 have ca_5 := cel6_5 ka
 have ck_6 := cel3_0 kk
 have ck_7 := cel3_1 kk
 have ck_8 := cel3_2 kk
 go_wp2_with fail
 clear ca_0 ca_1 ca_2 ca_3 ca_4 ca_5 ck_6 ck_7 ck_8
 go_fit (H1.out _ bb)
 rintro e w3 ⟨rfl, b1⟩
 have sz := b1.size
 replace ka := ka.below b1
 replace kk := kk.below b1
 replace bb := Below.after bb b1
 clear b1
 have ca_0 := cel6_0 ka
 have ca_1 := cel6_1 ka
 have ca_2 := cel6_2 ka
 have ca_3 := cel6_3 ka
 have ca_4 := cel6_4 ka
 have ca_5 := cel6_5 ka
 have ck_6 := cel3_0 kk
 have ck_7 := cel3_1 kk
 have ck_8 := cel3_2 kk
 have ca_9 := cel6_0 (ka.alloc (.cells #[.bool false, .string { data := #[] }, .string { data := #[] }, .bool false, .string { data := #[] }, .string { data := #[] }] 28))
 have ca_10 := cel6_1 (ka.alloc (.cells #[.bool false, .string { data := #[] }, .string { data := #[] }, .bool false, .string { data := #[] }, .string { data := #[] }] 28))
 have ca_11 := cel6_2 (ka.alloc (.cells #[.bool false, .string { data := #[] }, .string { data := #[] }, .bool false, .string { data := #[] }, .string { data := #[] }] 28))
 have ca_12 := cel6_3 (ka.alloc (.cells #[.bool false, .string { data := #[] }, .string { data := #[] }, .bool false, .string { data := #[] }, .string { data := #[] }] 28))
 have ca_13 := cel6_4 (ka.alloc (.cells #[.bool false, .string { data := #[] }, .string { data := #[] }, .bool false, .string { data := #[] }, .string { data := #[] }] 28))
 have ca_14 := cel6_5 (ka.alloc (.cells #[.bool false, .string { data := #[] }, .string { data := #[] }, .bool false, .string { data := #[] }, .string { data := #[] }] 28))
 have ck_15 := cel3_0 (kk.alloc (.cells #[.bool false, .string { data := #[] }, .string { data := #[] }, .bool false, .string { data := #[] }, .string { data := #[] }] 28))
 have ck_16 := cel3_1 (kk.alloc (.cells #[.bool false, .string { data := #[] }, .string { data := #[] }, .bool false, .string { data := #[] }, .string { data := #[] }] 28))
 have ck_17 := cel3_2 (kk.alloc (.cells #[.bool false, .string { data := #[] }, .string { data := #[] }, .bool false, .string { data := #[] }, .string { data := #[] }] 28))
 go_wp2_with fail
 clear ca_0 ca_1 ca_2 ca_3 ca_4 ca_5 ck_6 ck_7 ck_8 ca_9 ca_10 ca_11 ca_12 ca_13 ca_14 ck_15 ck_16 ck_17
 go_fit (H2.out _)
 rintro e w4 ⟨rfl, b1⟩
 obtain ⟨ks, b1⟩ := al1 b1
 have sz := b1.size
 replace ka := ka.below b1
 replace kk := kk.below b1
 replace bb := Below.after bb b1
 clear b1
 have ts := ks.lt
 clear ts
 have ca_0 := cel6_0 ka
 have ca_1 := cel6_1 ka
 have ca_2 := cel6_2 ka
 have ca_3 := cel6_3 ka
 have ca_4 := cel6_4 ka
 have ca_5 := cel6_5 ka
 have ck_6 := cel3_0 kk
 have ck_7 := cel3_1 kk
 have ck_8 := cel3_2 kk
 have cs_9 := cel6_0 ks
 have cs_10 := cel6_1 ks
 have cs_11 := cel6_2 ks
 have cs_12 := cel6_3 ks
 have cs_13 := cel6_4 ks
 have cs_14 := cel6_5 ks
 go_wp2_with fail
 clear ca_0 ca_1 ca_2 ca_3 ca_4 ca_5 ck_6 ck_7 ck_8 cs_9 cs_10 cs_11 cs_12 cs_13 cs_14
 go_fit (HL.out _ bb)
 rintro e w5 ⟨rfl, b1⟩
 have sz := b1.size
 replace ka := ka.below b1
 replace kk := kk.below b1
 replace ks := ks.below b1
 replace bb := Below.after bb b1
 clear b1
 go_wp2
 go_ret
 exact ⟨rfl, bb⟩
set_option maxRecDepth 100000 in
set_option maxHeartbeats 8000000 in
theorem scales_b2 (n0 n1 n2 : Bool) (s0 d0 s1 d1 s2 d2 : ByteArray) (E : Int) (hE : ¬ E = 0) (w : World)
  (HL : Hid (∀ w1, Below w.heap.size w w1 → Calls Tryz.prog 10 #[] w1 fun e w' => e = .returned (.bool true) ∧ Below w1.heap.size w1 w'))
  (S0 : Hid (∀ w1, Calls Tryz.prog 9 #[.agg #[.bool n0, .string s0, .string d0, .bool n1, .string s1, .string d1]] w1 fun e w' => e = .returned (.bool true) ∧ Below w1.heap.size w1 w'))
  (S1 : Hid (∀ w1, Calls Tryz.prog 24 #[.agg #[.bool n2, .string s2, .string d2]] w1 fun e w' => e = .returned (.bool true) ∧ Below w1.heap.size w1 w'))
  (H1 : Hid (∀ w1, Below w.heap.size w w1 → Calls Tryz.prog 25 #[.agg #[.bool n0, .string s0, .string d0, .bool n1, .string s1, .string d1], .agg #[.bool n2, .string s2, .string d2]] w1 fun e w' => e = .returned (.tuple #[.agg #[.bool false, .string { data := #[] }, .string { data := #[] }, .bool false, .string { data := #[] }, .string { data := #[] }], .int .i64 E]) ∧ Below w1.heap.size w1 w'))
  (H2 : Hid (∀ w1, Calls Tryz.prog 17 #[.agg #[.bool n0, .string s0, .string d0, .bool n1, .string s1, .string d1]] w1 fun e w' => e = .returned (.int .i64 0) ∧ Below w1.heap.size w1 w'))
  (H3 : Hid (∀ w1, Calls Tryz.prog 26 #[.agg #[.bool n2, .string s2, .string d2]] w1 fun e w' => e = .returned (.int .i64 E) ∧ Below w1.heap.size w1 w')) :
  Calls Tryz.prog 4 #[.agg #[.bool n0, .string s0, .string d0, .bool n1, .string s1, .string d1], .agg #[.bool n2, .string s2, .string d2]] w fun e w' => e = .returned (.bool true) ∧ Below w.heap.size w w' := by
 go_enter Tryz.func4, Tryz.ntmps4
 go_wp2_with fail
 go_fit (S0.out _)
 rintro e w1 ⟨rfl, b1⟩
 obtain ⟨ka, kk, b1⟩ := al2 b1
 have sz := b1.size
 have bb := b1
 clear b1
 have ta := ka.lt
 have tk := kk.lt
 clear ta tk
 have ca_0 := cel6_0 ka
 have ca_1 := cel6_1 ka
 have ca_2 := cel6_2 ka
 have ca_3 := cel6_3 ka
 have ca_4 := cel6_4 ka
 have ca_5 := cel6_5 ka
 have ck_6 := cel3_0 kk
 have ck_7 := cel3_1 kk
 have ck_8 := cel3_2 kk
 go_wp2_with fail
 clear ca_0 ca_1 ca_2 ca_3 ca_4 ca_5 ck_6 ck_7 ck_8
 go_fit (S1.out _)
 rintro e w2 ⟨rfl, b1⟩
 have sz := b1.size
 replace ka := ka.below b1
 replace kk := kk.below b1
 replace bb := Below.after bb b1
 clear b1
 have ca_0 := cel6_0 ka
 have ca_1 := cel6_1 ka
 have ca_2 := cel6_2 ka
 have ca_3 := cel6_3 ka
 have ca_4 := cel6_4 ka
 have ca_5 := cel6_5 ka
 have ck_6 := cel3_0 kk
 have ck_7 := cel3_1 kk
 have ck_8 := cel3_2 kk
 go_wp2_with fail
 clear ca_0 ca_1 ca_2 ca_3 ca_4 ca_5 ck_6 ck_7 ck_8
 go_fit (H1.out _ bb)
 rintro e w3 ⟨rfl, b1⟩
 have sz := b1.size
 replace ka := ka.below b1
 replace kk := kk.below b1
 replace bb := Below.after bb b1
 clear b1
 have ca_0 := cel6_0 ka
 have ca_1 := cel6_1 ka
 have ca_2 := cel6_2 ka
 have ca_3 := cel6_3 ka
 have ca_4 := cel6_4 ka
 have ca_5 := cel6_5 ka
 have ck_6 := cel3_0 kk
 have ck_7 := cel3_1 kk
 have ck_8 := cel3_2 kk
 have ca_9 := cel6_0 (ka.alloc (.cells #[.bool false, .string { data := #[] }, .string { data := #[] }, .bool false, .string { data := #[] }, .string { data := #[] }] 28))
 have ca_10 := cel6_1 (ka.alloc (.cells #[.bool false, .string { data := #[] }, .string { data := #[] }, .bool false, .string { data := #[] }, .string { data := #[] }] 28))
 have ca_11 := cel6_2 (ka.alloc (.cells #[.bool false, .string { data := #[] }, .string { data := #[] }, .bool false, .string { data := #[] }, .string { data := #[] }] 28))
 have ca_12 := cel6_3 (ka.alloc (.cells #[.bool false, .string { data := #[] }, .string { data := #[] }, .bool false, .string { data := #[] }, .string { data := #[] }] 28))
 have ca_13 := cel6_4 (ka.alloc (.cells #[.bool false, .string { data := #[] }, .string { data := #[] }, .bool false, .string { data := #[] }, .string { data := #[] }] 28))
 have ca_14 := cel6_5 (ka.alloc (.cells #[.bool false, .string { data := #[] }, .string { data := #[] }, .bool false, .string { data := #[] }, .string { data := #[] }] 28))
 have ck_15 := cel3_0 (kk.alloc (.cells #[.bool false, .string { data := #[] }, .string { data := #[] }, .bool false, .string { data := #[] }, .string { data := #[] }] 28))
 have ck_16 := cel3_1 (kk.alloc (.cells #[.bool false, .string { data := #[] }, .string { data := #[] }, .bool false, .string { data := #[] }, .string { data := #[] }] 28))
 have ck_17 := cel3_2 (kk.alloc (.cells #[.bool false, .string { data := #[] }, .string { data := #[] }, .bool false, .string { data := #[] }, .string { data := #[] }] 28))
 go_wp2_with fail
 clear ca_0 ca_1 ca_2 ca_3 ca_4 ca_5 ck_6 ck_7 ck_8 ca_9 ca_10 ca_11 ca_12 ca_13 ca_14 ck_15 ck_16 ck_17
 go_fit (H2.out _)
 rintro e w4 ⟨rfl, b1⟩
 obtain ⟨ks, b1⟩ := al1 b1
 have sz := b1.size
 replace ka := ka.below b1
 replace kk := kk.below b1
 replace bb := Below.after bb b1
 clear b1
 have ts := ks.lt
 clear ts
 have ca_0 := cel6_0 ka
 have ca_1 := cel6_1 ka
 have ca_2 := cel6_2 ka
 have ca_3 := cel6_3 ka
 have ca_4 := cel6_4 ka
 have ca_5 := cel6_5 ka
 have ck_6 := cel3_0 kk
 have ck_7 := cel3_1 kk
 have ck_8 := cel3_2 kk
 have cs_9 := cel6_0 ks
 have cs_10 := cel6_1 ks
 have cs_11 := cel6_2 ks
 have cs_12 := cel6_3 ks
 have cs_13 := cel6_4 ks
 have cs_14 := cel6_5 ks
 go_wp2_with fail
 clear ca_0 ca_1 ca_2 ca_3 ca_4 ca_5 ck_6 ck_7 ck_8 cs_9 cs_10 cs_11 cs_12 cs_13 cs_14
 go_fit (H3.out _)
 rintro e w5 ⟨rfl, b1⟩
 have sz := b1.size
 replace ka := ka.below b1
 replace kk := kk.below b1
 replace ks := ks.below b1
 replace bb := Below.after bb b1
 clear b1
 have ca_0 := cel6_0 ka
 have ca_1 := cel6_1 ka
 have ca_2 := cel6_2 ka
 have ca_3 := cel6_3 ka
 have ca_4 := cel6_4 ka
 have ca_5 := cel6_5 ka
 have ck_6 := cel3_0 kk
 have ck_7 := cel3_1 kk
 have ck_8 := cel3_2 kk
 have cs_9 := cel6_0 ks
 have cs_10 := cel6_1 ks
 have cs_11 := cel6_2 ks
 have cs_12 := cel6_3 ks
 have cs_13 := cel6_4 ks
 have cs_14 := cel6_5 ks
 go_wp2_with fail
 clear ca_0 ca_1 ca_2 ca_3 ca_4 ca_5 ck_6 ck_7 ck_8 cs_9 cs_10 cs_11 cs_12 cs_13 cs_14
 go_fit (HL.out _ bb)
 rintro e w6 ⟨rfl, b1⟩
 have sz := b1.size
 replace ka := ka.below b1
 replace kk := kk.below b1
 replace ks := ks.below b1
 replace bb := Below.after bb b1
 clear b1
 go_wp2
 go_ret
 exact ⟨rfl, bb⟩
set_option maxRecDepth 100000 in
set_option maxHeartbeats 8000000 in
theorem scales_ok (n0 n1 n2 xN yN : Bool) (s0 d0 s1 d1 s2 d2 xS xD yS yD : ByteArray) (w : World)
  (HL : Hid (∀ w1, Below w.heap.size w w1 → Calls Tryz.prog 10 #[] w1 fun e w' => e = .returned (.bool true) ∧ Below w1.heap.size w1 w'))
  (S0 : Hid (∀ w1, Calls Tryz.prog 9 #[.agg #[.bool n0, .string s0, .string d0, .bool n1, .string s1, .string d1]] w1 fun e w' => e = .returned (.bool true) ∧ Below w1.heap.size w1 w'))
  (S1 : Hid (∀ w1, Calls Tryz.prog 24 #[.agg #[.bool n2, .string s2, .string d2]] w1 fun e w' => e = .returned (.bool true) ∧ Below w1.heap.size w1 w'))
  (H1 : Hid (∀ w1, Below w.heap.size w w1 → Calls Tryz.prog 25 #[.agg #[.bool n0, .string s0, .string d0, .bool n1, .string s1, .string d1], .agg #[.bool n2, .string s2, .string d2]] w1 fun e w' => e = .returned (.tuple #[.agg #[.bool xN, .string xS, .string xD, .bool yN, .string yS, .string yD], .int .i64 0]) ∧ Below w1.heap.size w1 w'))
  (H2 : Hid (∀ w1, Calls Tryz.prog 17 #[.agg #[.bool n0, .string s0, .string d0, .bool n1, .string s1, .string d1]] w1 fun e w' => e = .returned (.int .i64 0) ∧ Below w1.heap.size w1 w'))
  (H3 : Hid (∀ w1, Calls Tryz.prog 26 #[.agg #[.bool n2, .string s2, .string d2]] w1 fun e w' => e = .returned (.int .i64 0) ∧ Below w1.heap.size w1 w'))
  (H4 : Hid (∀ w1, Calls Tryz.prog 27 #[.agg #[.bool n0, .string s0, .string d0, .bool n1, .string s1, .string d1], .agg #[.bool n2, .string s2, .string d2]] w1 fun e w' => e = .returned (.agg #[.bool xN, .string xS, .string xD, .bool yN, .string yS, .string yD]) ∧ Below w1.heap.size w1 w')) :
  Calls Tryz.prog 4 #[.agg #[.bool n0, .string s0, .string d0, .bool n1, .string s1, .string d1], .agg #[.bool n2, .string s2, .string d2]] w fun e w' => e = .returned (.bool true) ∧ Below w.heap.size w w' := by
 go_enter Tryz.func4, Tryz.ntmps4
 go_wp2_with fail
 go_fit (S0.out _)
 rintro e w1 ⟨rfl, b1⟩
 obtain ⟨ka, kk, b1⟩ := al2 b1
 have sz := b1.size
 have bb := b1
 clear b1
 have ta := ka.lt
 have tk := kk.lt
 clear ta tk
 have ca_0 := cel6_0 ka
 have ca_1 := cel6_1 ka
 have ca_2 := cel6_2 ka
 have ca_3 := cel6_3 ka
 have ca_4 := cel6_4 ka
 have ca_5 := cel6_5 ka
 have ck_6 := cel3_0 kk
 have ck_7 := cel3_1 kk
 have ck_8 := cel3_2 kk
 go_wp2_with fail
 clear ca_0 ca_1 ca_2 ca_3 ca_4 ca_5 ck_6 ck_7 ck_8
 go_fit (S1.out _)
 rintro e w2 ⟨rfl, b1⟩
 have sz := b1.size
 replace ka := ka.below b1
 replace kk := kk.below b1
 replace bb := Below.after bb b1
 clear b1
 have ca_0 := cel6_0 ka
 have ca_1 := cel6_1 ka
 have ca_2 := cel6_2 ka
 have ca_3 := cel6_3 ka
 have ca_4 := cel6_4 ka
 have ca_5 := cel6_5 ka
 have ck_6 := cel3_0 kk
 have ck_7 := cel3_1 kk
 have ck_8 := cel3_2 kk
 go_wp2_with fail
 clear ca_0 ca_1 ca_2 ca_3 ca_4 ca_5 ck_6 ck_7 ck_8
 go_fit (H1.out _ bb)
 rintro e w3 ⟨rfl, b1⟩
 have sz := b1.size
 replace ka := ka.below b1
 replace kk := kk.below b1
 replace bb := Below.after bb b1
 clear b1
 have ca_0 := cel6_0 ka
 have ca_1 := cel6_1 ka
 have ca_2 := cel6_2 ka
 have ca_3 := cel6_3 ka
 have ca_4 := cel6_4 ka
 have ca_5 := cel6_5 ka
 have ck_6 := cel3_0 kk
 have ck_7 := cel3_1 kk
 have ck_8 := cel3_2 kk
 have ca_9 := cel6_0 (ka.alloc (.cells #[.bool xN, .string xS, .string xD, .bool yN, .string yS, .string yD] 28))
 have ca_10 := cel6_1 (ka.alloc (.cells #[.bool xN, .string xS, .string xD, .bool yN, .string yS, .string yD] 28))
 have ca_11 := cel6_2 (ka.alloc (.cells #[.bool xN, .string xS, .string xD, .bool yN, .string yS, .string yD] 28))
 have ca_12 := cel6_3 (ka.alloc (.cells #[.bool xN, .string xS, .string xD, .bool yN, .string yS, .string yD] 28))
 have ca_13 := cel6_4 (ka.alloc (.cells #[.bool xN, .string xS, .string xD, .bool yN, .string yS, .string yD] 28))
 have ca_14 := cel6_5 (ka.alloc (.cells #[.bool xN, .string xS, .string xD, .bool yN, .string yS, .string yD] 28))
 have ck_15 := cel3_0 (kk.alloc (.cells #[.bool xN, .string xS, .string xD, .bool yN, .string yS, .string yD] 28))
 have ck_16 := cel3_1 (kk.alloc (.cells #[.bool xN, .string xS, .string xD, .bool yN, .string yS, .string yD] 28))
 have ck_17 := cel3_2 (kk.alloc (.cells #[.bool xN, .string xS, .string xD, .bool yN, .string yS, .string yD] 28))
 go_wp2_with fail
 clear ca_0 ca_1 ca_2 ca_3 ca_4 ca_5 ck_6 ck_7 ck_8 ca_9 ca_10 ca_11 ca_12 ca_13 ca_14 ck_15 ck_16 ck_17
 go_fit (H2.out _)
 rintro e w4 ⟨rfl, b1⟩
 obtain ⟨ks, b1⟩ := al1 b1
 have sz := b1.size
 replace ka := ka.below b1
 replace kk := kk.below b1
 replace bb := Below.after bb b1
 clear b1
 have ts := ks.lt
 clear ts
 have ca_0 := cel6_0 ka
 have ca_1 := cel6_1 ka
 have ca_2 := cel6_2 ka
 have ca_3 := cel6_3 ka
 have ca_4 := cel6_4 ka
 have ca_5 := cel6_5 ka
 have ck_6 := cel3_0 kk
 have ck_7 := cel3_1 kk
 have ck_8 := cel3_2 kk
 have cs_9 := cel6_0 ks
 have cs_10 := cel6_1 ks
 have cs_11 := cel6_2 ks
 have cs_12 := cel6_3 ks
 have cs_13 := cel6_4 ks
 have cs_14 := cel6_5 ks
 go_wp2_with fail
 clear ca_0 ca_1 ca_2 ca_3 ca_4 ca_5 ck_6 ck_7 ck_8 cs_9 cs_10 cs_11 cs_12 cs_13 cs_14
 go_fit (H3.out _)
 rintro e w5 ⟨rfl, b1⟩
 have sz := b1.size
 replace ka := ka.below b1
 replace kk := kk.below b1
 replace ks := ks.below b1
 replace bb := Below.after bb b1
 clear b1
 have ca_0 := cel6_0 ka
 have ca_1 := cel6_1 ka
 have ca_2 := cel6_2 ka
 have ca_3 := cel6_3 ka
 have ca_4 := cel6_4 ka
 have ca_5 := cel6_5 ka
 have ck_6 := cel3_0 kk
 have ck_7 := cel3_1 kk
 have ck_8 := cel3_2 kk
 have cs_9 := cel6_0 ks
 have cs_10 := cel6_1 ks
 have cs_11 := cel6_2 ks
 have cs_12 := cel6_3 ks
 have cs_13 := cel6_4 ks
 have cs_14 := cel6_5 ks
 go_wp2_with fail
 clear ca_0 ca_1 ca_2 ca_3 ca_4 ca_5 ck_6 ck_7 ck_8 cs_9 cs_10 cs_11 cs_12 cs_13 cs_14
 have mkS : Hid (∀ w', Cel w' (w.heap.size) [.bool n0, .string s0, .string d0, .bool n1, .string s1, .string d1] 28 → Cel w' (w.heap.size + 1) [.bool n2, .string s2, .string d2] 26 → Cel w' (w3.heap.size) [.bool xN, .string xS, .string xD, .bool yN, .string yS, .string yD] 28 → (w'.cell? ⟨w.heap.size, 0, none⟩ = some (.bool n0) ∧ w'.cell? ⟨w.heap.size, 1, none⟩ = some (.string s0) ∧ w'.cell? ⟨w.heap.size, 2, none⟩ = some (.string d0) ∧ w'.cell? ⟨w.heap.size, 3, none⟩ = some (.bool n1) ∧ w'.cell? ⟨w.heap.size, 4, none⟩ = some (.string s1) ∧ w'.cell? ⟨w.heap.size, 5, none⟩ = some (.string d1) ∧ w'.cell? ⟨w.heap.size + 1, 0, none⟩ = some (.bool n2) ∧ w'.cell? ⟨w.heap.size + 1, 1, none⟩ = some (.string s2) ∧ w'.cell? ⟨w.heap.size + 1, 2, none⟩ = some (.string d2) ∧ w'.cell? ⟨w3.heap.size, 0, none⟩ = some (.bool xN) ∧ w'.cell? ⟨w3.heap.size, 1, none⟩ = some (.string xS) ∧ w'.cell? ⟨w3.heap.size, 2, none⟩ = some (.string xD) ∧ w'.cell? ⟨w3.heap.size, 3, none⟩ = some (.bool yN) ∧ w'.cell? ⟨w3.heap.size, 4, none⟩ = some (.string yS) ∧ w'.cell? ⟨w3.heap.size, 5, none⟩ = some (.string yD))) := fun w' ha hk hs => ⟨cel6_0 ha, cel6_1 ha, cel6_2 ha, cel6_3 ha, cel6_4 ha, cel6_5 ha, cel3_0 hk, cel3_1 hk, cel3_2 hk, cel6_0 hs, cel6_1 hs, cel6_2 hs, cel6_3 hs, cel6_4 hs, cel6_5 hs⟩
 go_region_held3 (fun w' => w'.cell? ⟨w.heap.size, 0, none⟩ = some (.bool n0) ∧ w'.cell? ⟨w.heap.size, 1, none⟩ = some (.string s0) ∧ w'.cell? ⟨w.heap.size, 2, none⟩ = some (.string d0) ∧ w'.cell? ⟨w.heap.size, 3, none⟩ = some (.bool n1) ∧ w'.cell? ⟨w.heap.size, 4, none⟩ = some (.string s1) ∧ w'.cell? ⟨w.heap.size, 5, none⟩ = some (.string d1) ∧ w'.cell? ⟨w.heap.size + 1, 0, none⟩ = some (.bool n2) ∧ w'.cell? ⟨w.heap.size + 1, 1, none⟩ = some (.string s2) ∧ w'.cell? ⟨w.heap.size + 1, 2, none⟩ = some (.string d2) ∧ w'.cell? ⟨w3.heap.size, 0, none⟩ = some (.bool xN) ∧ w'.cell? ⟨w3.heap.size, 1, none⟩ = some (.string xS) ∧ w'.cell? ⟨w3.heap.size, 2, none⟩ = some (.string xD) ∧ w'.cell? ⟨w3.heap.size, 3, none⟩ = some (.bool yN) ∧ w'.cell? ⟨w3.heap.size, 4, none⟩ = some (.string yS) ∧ w'.cell? ⟨w3.heap.size, 5, none⟩ = some (.string yD)) (first | with_reducible exact mkS.out _ ka kk ks | with_reducible exact mkS.out _ (ka.alloc _) (kk.alloc _) (ks.alloc _) | exact mkS.out _ ka kk ks) (first | (go_at_call 27; go_fit (H4.out _); rintro e wn ⟨rfl, bn⟩; replace ka := ka.below ⟨bn.os, bn.tape, bn.output, bn.size, bn.block⟩; replace kk := kk.below ⟨bn.os, bn.tape, bn.output, bn.size, bn.block⟩; replace ks := ks.below ⟨bn.os, bn.tape, bn.output, bn.size, bn.block⟩; replace bb := Below.after bb ⟨bn.os, bn.tape, bn.output, bn.size, bn.block⟩) | (go_at_call 10; go_fit (HL.out _ ?_); (first | exact bb | exact bb.drew); rintro e wn ⟨rfl, bn⟩; replace ka := ka.below ⟨bn.os, bn.tape, bn.output, bn.size, bn.block⟩; replace kk := kk.below ⟨bn.os, bn.tape, bn.output, bn.size, bn.block⟩; replace ks := ks.below ⟨bn.os, bn.tape, bn.output, bn.size, bn.block⟩; replace bb := Below.after bb ⟨bn.os, bn.tape, bn.output, bn.size, bn.block⟩))
 go_wp2
 go_ret
 exact ⟨rfl, bb⟩
end Go.Proofs.YtlpafjbbeljbhaaGreatDoor
