/-
  gussetlaw03.RatChecks, walked.
-/
import Derived.Test.YtlihcbeacjimkaaGreatDoorG34
namespace Go.Proofs.YtlihcbeacjimkaaGreatDoor
open Go.RowKit Go.Shelf

set_option maxRecDepth 100000 in
set_option maxHeartbeats 8000000 in
theorem checks_l0 (n0 n1 : Bool) (s0 d0 s1 d1 : ByteArray) (w : World)
    (HL : Hid (∀ w1, Below w.heap.size w w1 → Calls Tryz.prog 10 #[] w1 fun e w' => e = .returned (.bool true) ∧ Below w1.heap.size w1 w'))
    (S0 : Hid (∀ w1, Calls Tryz.prog 9 #[.agg #[.bool n0, .string s0, .string d0]] w1 fun e w' => e = .returned (.bool false) ∧ Below w1.heap.size w1 w')) :
    Calls Tryz.prog 3 #[.agg #[.bool n0, .string s0, .string d0], .agg #[.bool n1, .string s1, .string d1]] w fun e w' => e = .returned (.bool true) ∧ Below w.heap.size w w' := by
  go_enter Tryz.func3, Tryz.ntmps3
  go_wp2_with fail
  go_fit (S0.out _)
  rintro e w1 ⟨rfl, b1⟩
  obtain ⟨ka, kb, b1⟩ := al2 b1
  have sz := b1.size
  have bb := b1
  clear b1
  have ta := ka.lt
  have tb := kb.lt
  clear ta tb
  have cb_0 := cel3_0 kb
  have cb_1 := cel3_1 kb
  have cb_2 := cel3_2 kb
  go_wp2_with fail
  clear cb_0 cb_1 cb_2
  go_fit (HL.out _ bb)
  rintro e w2 ⟨rfl, b1⟩
  have sz := b1.size
  replace ka := ka.below b1
  replace kb := kb.below b1
  replace bb := Below.after bb b1
  clear b1
  go_wp2
  go_ret
  exact ⟨rfl, bb⟩
set_option maxRecDepth 100000 in
set_option maxHeartbeats 8000000 in
theorem checks_l1 (n0 n1 : Bool) (s0 d0 s1 d1 : ByteArray) (w : World)
    (HL : Hid (∀ w1, Below w.heap.size w w1 → Calls Tryz.prog 10 #[] w1 fun e w' => e = .returned (.bool true) ∧ Below w1.heap.size w1 w'))
    (S0 : Hid (∀ w1, Calls Tryz.prog 9 #[.agg #[.bool n0, .string s0, .string d0]] w1 fun e w' => e = .returned (.bool true) ∧ Below w1.heap.size w1 w'))
    (S1 : Hid (∀ w1, Calls Tryz.prog 9 #[.agg #[.bool n1, .string s1, .string d1]] w1 fun e w' => e = .returned (.bool false) ∧ Below w1.heap.size w1 w')) :
    Calls Tryz.prog 3 #[.agg #[.bool n0, .string s0, .string d0], .agg #[.bool n1, .string s1, .string d1]] w fun e w' => e = .returned (.bool true) ∧ Below w.heap.size w w' := by
  go_enter Tryz.func3, Tryz.ntmps3
  go_wp2_with fail
  go_fit (S0.out _)
  rintro e w1 ⟨rfl, b1⟩
  obtain ⟨ka, kb, b1⟩ := al2 b1
  have sz := b1.size
  have bb := b1
  clear b1
  have ta := ka.lt
  have tb := kb.lt
  clear ta tb
  have cb_0 := cel3_0 kb
  have cb_1 := cel3_1 kb
  have cb_2 := cel3_2 kb
  go_wp2_with fail
  clear cb_0 cb_1 cb_2
  go_fit (S1.out _)
  rintro e w2 ⟨rfl, b1⟩
  have sz := b1.size
  replace ka := ka.below b1
  replace kb := kb.below b1
  replace bb := Below.after bb b1
  clear b1
  go_wp2_with fail
  go_fit (HL.out _ bb)
  rintro e w3 ⟨rfl, b1⟩
  have sz := b1.size
  replace ka := ka.below b1
  replace kb := kb.below b1
  replace bb := Below.after bb b1
  clear b1
  go_wp2
  go_ret
  exact ⟨rfl, bb⟩
set_option maxRecDepth 100000 in
set_option maxHeartbeats 8000000 in
theorem checks_a (n0 n1 sN tN pN qN : Bool) (s0 d0 s1 d1 sS sD tS tD pS pD qS qD u v : ByteArray) (X Y : Int) (E : Int) (C : Int) (w : World)
    (HL : Hid (∀ w1, Below w.heap.size w w1 → Calls Tryz.prog 10 #[] w1 fun e w' => e = .returned (.bool true) ∧ Below w1.heap.size w1 w'))
    (S0 : Hid (∀ w1, Calls Tryz.prog 9 #[.agg #[.bool n0, .string s0, .string d0]] w1 fun e w' => e = .returned (.bool true) ∧ Below w1.heap.size w1 w'))
    (S1 : Hid (∀ w1, Calls Tryz.prog 9 #[.agg #[.bool n1, .string s1, .string d1]] w1 fun e w' => e = .returned (.bool true) ∧ Below w1.heap.size w1 w'))
    (H0 : Hid (∀ w1, Calls Tryz.prog 11 #[.agg #[.bool n0, .string s0, .string d0], .agg #[.bool n1, .string s1, .string d1]] w1 fun e w' => e = .returned (.int .i64 E) ∧ Below w1.heap.size w1 w'))
    (H1 : Hid (∀ w1, Below w.heap.size w w1 → Calls Tryz.prog 12 #[.agg #[.bool n0, .string s0, .string d0], .agg #[.bool n1, .string s1, .string d1]] w1 fun e w' => e = .returned (.tuple #[.int .i64 X, .int .i64 E]) ∧ Below w1.heap.size w1 w'))
    (H2 : Hid (∀ w1, Below w.heap.size w w1 → Calls Tryz.prog 13 #[.agg #[.bool n0, .string s0, .string d0], .agg #[.bool n1, .string s1, .string d1]] w1 fun e w' => e = .returned (.tuple #[.agg #[.bool sN, .string sS, .string sD], .int .i64 E]) ∧ Below w1.heap.size w1 w'))
    (H3 : Hid (∀ w1, Below w.heap.size w w1 → Calls Tryz.prog 14 #[.agg #[.bool n0, .string s0, .string d0], .agg #[.bool n1, .string s1, .string d1]] w1 fun e w' => e = .returned (.tuple #[.agg #[.bool tN, .string tS, .string tD], .int .i64 E]) ∧ Below w1.heap.size w1 w'))
    (H4 : Hid (∀ w1, Below w.heap.size w w1 → Calls Tryz.prog 15 #[.agg #[.bool n0, .string s0, .string d0], .agg #[.bool n1, .string s1, .string d1]] w1 fun e w' => e = .returned (.tuple #[.agg #[.bool pN, .string pS, .string pD], .int .i64 E]) ∧ Below w1.heap.size w1 w'))
    (H5 : Hid (∀ w1, Below w.heap.size w w1 → Calls Tryz.prog 16 #[.agg #[.bool n0, .string s0, .string d0], .agg #[.bool n1, .string s1, .string d1]] w1 fun e w' => e = .returned (.tuple #[.agg #[.bool qN, .string qS, .string qD], .int .i64 E]) ∧ Below w1.heap.size w1 w'))
    (H6 : Hid (∀ w1, Below w.heap.size w w1 → Calls Tryz.prog 17 #[.agg #[.bool n0, .string s0, .string d0]] w1 fun e w' => e = .returned (.tuple #[.int .i64 Y, .int .i64 C]) ∧ Below w1.heap.size w1 w'))
    (H7 : Hid (∀ w1, Below w.heap.size w w1 → Calls Tryz.prog 18 #[.agg #[.bool n0, .string s0, .string d0]] w1 fun e w' => e = .returned (.tuple #[.string u, .int .i64 C]) ∧ Below w1.heap.size w1 w'))
    (H8 : Hid (∀ w1, Below w.heap.size w w1 → Calls Tryz.prog 19 #[.agg #[.bool n0, .string s0, .string d0], .int .i64 3] w1 fun e w' => e = .returned (.tuple #[.string v, .int .i64 C]) ∧ Below w1.heap.size w1 w'))
    (H9 : Hid (∀ w1, Calls Tryz.prog 20 #[.agg #[.bool n0, .string s0, .string d0]] w1 fun e w' => e = .returned (.int .i64 C) ∧ Below w1.heap.size w1 w'))
    (HK : Hid (∀ w1, Below w.heap.size w w1 → Calls Tryz.prog 21 #[.agg #[.bool n0, .string s0, .string d0]] w1 fun e w' => e = .returned (.int .i64 C) ∧ Below w1.heap.size w1 w')) :
    Calls Tryz.prog 3 #[.agg #[.bool n0, .string s0, .string d0], .agg #[.bool n1, .string s1, .string d1]] w fun e w' => e = .returned (.bool true) ∧ Below w.heap.size w w' := by
  go_enter Tryz.func3, Tryz.ntmps3
  go_wp2_with fail
  go_fit (S0.out _)
  rintro e w1 ⟨rfl, b1⟩
  obtain ⟨ka, kb, b1⟩ := al2 b1
  have sz := b1.size
  have bb := b1
  clear b1
  have ta := ka.lt
  have tb := kb.lt
  clear ta tb
  have cb_0 := cel3_0 kb
  have cb_1 := cel3_1 kb
  have cb_2 := cel3_2 kb
  go_wp2_with fail
  clear cb_0 cb_1 cb_2
  go_fit (S1.out _)
  rintro e w2 ⟨rfl, b1⟩
  have sz := b1.size
  replace ka := ka.below b1
  replace kb := kb.below b1
  replace bb := Below.after bb b1
  clear b1
  have ca_0 := cel3_0 ka
  have ca_1 := cel3_1 ka
  have ca_2 := cel3_2 ka
  have cb_3 := cel3_0 kb
  have cb_4 := cel3_1 kb
  have cb_5 := cel3_2 kb
  go_wp2_with fail
  clear ca_0 ca_1 ca_2 cb_3 cb_4 cb_5
  go_fit (H0.out _)
  rintro e w3 ⟨rfl, b1⟩
  have sz := b1.size
  replace ka := ka.below b1
  replace kb := kb.below b1
  replace bb := Below.after bb b1
  clear b1
  have ca_0 := cel3_0 ka
  have ca_1 := cel3_1 ka
  have ca_2 := cel3_2 ka
  have cb_3 := cel3_0 kb
  have cb_4 := cel3_1 kb
  have cb_5 := cel3_2 kb
  go_wp2_with fail
  clear ca_0 ca_1 ca_2 cb_3 cb_4 cb_5
  go_fit (H1.out _ bb)
  rintro e w4 ⟨rfl, b1⟩
  have sz := b1.size
  replace ka := ka.below b1
  replace kb := kb.below b1
  replace bb := Below.after bb b1
  clear b1
  have ca_0 := cel3_0 ka
  have ca_1 := cel3_1 ka
  have ca_2 := cel3_2 ka
  have cb_3 := cel3_0 kb
  have cb_4 := cel3_1 kb
  have cb_5 := cel3_2 kb
  go_wp2_with fail
  clear ca_0 ca_1 ca_2 cb_3 cb_4 cb_5
  go_fit (H2.out _ bb)
  rintro e w5 ⟨rfl, b1⟩
  have sz := b1.size
  replace ka := ka.below b1
  replace kb := kb.below b1
  replace bb := Below.after bb b1
  clear b1
  have ca_0 := cel3_0 ka
  have ca_1 := cel3_1 ka
  have ca_2 := cel3_2 ka
  have cb_3 := cel3_0 kb
  have cb_4 := cel3_1 kb
  have cb_5 := cel3_2 kb
  have ca_6 := cel3_0 (ka.alloc (.cells #[.bool sN, .string sS, .string sD] 26))
  have ca_7 := cel3_1 (ka.alloc (.cells #[.bool sN, .string sS, .string sD] 26))
  have ca_8 := cel3_2 (ka.alloc (.cells #[.bool sN, .string sS, .string sD] 26))
  have cb_9 := cel3_0 (kb.alloc (.cells #[.bool sN, .string sS, .string sD] 26))
  have cb_10 := cel3_1 (kb.alloc (.cells #[.bool sN, .string sS, .string sD] 26))
  have cb_11 := cel3_2 (kb.alloc (.cells #[.bool sN, .string sS, .string sD] 26))
  go_wp2_with fail
  clear ca_0 ca_1 ca_2 cb_3 cb_4 cb_5 ca_6 ca_7 ca_8 cb_9 cb_10 cb_11
  go_fit (H3.out _ (ba bb _))
  rintro e w6 ⟨rfl, b1⟩
  obtain ⟨ks, b1⟩ := al1 b1
  have sz := b1.size
  replace ka := ka.below b1
  replace kb := kb.below b1
  replace bb := Below.after bb b1
  clear b1
  have ts := ks.lt
  clear ts
  have ca_0 := cel3_0 ka
  have ca_1 := cel3_1 ka
  have ca_2 := cel3_2 ka
  have cb_3 := cel3_0 kb
  have cb_4 := cel3_1 kb
  have cb_5 := cel3_2 kb
  have ca_6 := cel3_0 (ka.alloc (.cells #[.bool tN, .string tS, .string tD] 26))
  have ca_7 := cel3_1 (ka.alloc (.cells #[.bool tN, .string tS, .string tD] 26))
  have ca_8 := cel3_2 (ka.alloc (.cells #[.bool tN, .string tS, .string tD] 26))
  have cb_9 := cel3_0 (kb.alloc (.cells #[.bool tN, .string tS, .string tD] 26))
  have cb_10 := cel3_1 (kb.alloc (.cells #[.bool tN, .string tS, .string tD] 26))
  have cb_11 := cel3_2 (kb.alloc (.cells #[.bool tN, .string tS, .string tD] 26))
  go_wp2_with fail
  clear ca_0 ca_1 ca_2 cb_3 cb_4 cb_5 ca_6 ca_7 ca_8 cb_9 cb_10 cb_11
  go_fit (H4.out _ (ba bb _))
  rintro e w7 ⟨rfl, b1⟩
  obtain ⟨kt, b1⟩ := al1 b1
  have sz := b1.size
  replace ka := ka.below b1
  replace kb := kb.below b1
  replace ks := ks.below b1
  replace bb := Below.after bb b1
  clear b1
  have tt := kt.lt
  clear tt
  have ca_0 := cel3_0 ka
  have ca_1 := cel3_1 ka
  have ca_2 := cel3_2 ka
  have cb_3 := cel3_0 kb
  have cb_4 := cel3_1 kb
  have cb_5 := cel3_2 kb
  have ca_6 := cel3_0 (ka.alloc (.cells #[.bool pN, .string pS, .string pD] 26))
  have ca_7 := cel3_1 (ka.alloc (.cells #[.bool pN, .string pS, .string pD] 26))
  have ca_8 := cel3_2 (ka.alloc (.cells #[.bool pN, .string pS, .string pD] 26))
  have cb_9 := cel3_0 (kb.alloc (.cells #[.bool pN, .string pS, .string pD] 26))
  have cb_10 := cel3_1 (kb.alloc (.cells #[.bool pN, .string pS, .string pD] 26))
  have cb_11 := cel3_2 (kb.alloc (.cells #[.bool pN, .string pS, .string pD] 26))
  go_wp2_with fail
  clear ca_0 ca_1 ca_2 cb_3 cb_4 cb_5 ca_6 ca_7 ca_8 cb_9 cb_10 cb_11
  go_fit (H5.out _ (ba bb _))
  rintro e w8 ⟨rfl, b1⟩
  obtain ⟨kp, b1⟩ := al1 b1
  have sz := b1.size
  replace ka := ka.below b1
  replace kb := kb.below b1
  replace ks := ks.below b1
  replace kt := kt.below b1
  replace bb := Below.after bb b1
  clear b1
  have tp := kp.lt
  clear tp
  have ca_0 := cel3_0 ka
  have ca_1 := cel3_1 ka
  have ca_2 := cel3_2 ka
  have ca_3 := cel3_0 (ka.alloc (.cells #[.bool qN, .string qS, .string qD] 26))
  have ca_4 := cel3_1 (ka.alloc (.cells #[.bool qN, .string qS, .string qD] 26))
  have ca_5 := cel3_2 (ka.alloc (.cells #[.bool qN, .string qS, .string qD] 26))
  go_wp2_with fail
  clear ca_0 ca_1 ca_2 ca_3 ca_4 ca_5
  go_fit (H6.out _ (ba bb _))
  rintro e w9 ⟨rfl, b1⟩
  obtain ⟨kq, b1⟩ := al1 b1
  have sz := b1.size
  replace ka := ka.below b1
  replace kb := kb.below b1
  replace ks := ks.below b1
  replace kt := kt.below b1
  replace kp := kp.below b1
  replace bb := Below.after bb b1
  clear b1
  have tq := kq.lt
  clear tq
  have ca_0 := cel3_0 ka
  have ca_1 := cel3_1 ka
  have ca_2 := cel3_2 ka
  go_wp2_with fail
  clear ca_0 ca_1 ca_2
  go_fit (H7.out _ bb)
  rintro e w10 ⟨rfl, b1⟩
  have sz := b1.size
  replace ka := ka.below b1
  replace kb := kb.below b1
  replace ks := ks.below b1
  replace kt := kt.below b1
  replace kp := kp.below b1
  replace kq := kq.below b1
  replace bb := Below.after bb b1
  clear b1
  have ca_0 := cel3_0 ka
  have ca_1 := cel3_1 ka
  have ca_2 := cel3_2 ka
  go_wp2_with fail
  clear ca_0 ca_1 ca_2
  go_fit (H8.out _ bb)
  rintro e w11 ⟨rfl, b1⟩
  have sz := b1.size
  replace ka := ka.below b1
  replace kb := kb.below b1
  replace ks := ks.below b1
  replace kt := kt.below b1
  replace kp := kp.below b1
  replace kq := kq.below b1
  replace bb := Below.after bb b1
  clear b1
  have ca_0 := cel3_0 ka
  have ca_1 := cel3_1 ka
  have ca_2 := cel3_2 ka
  go_wp2_with fail
  clear ca_0 ca_1 ca_2
  go_fit (H9.out _)
  rintro e w12 ⟨rfl, b1⟩
  have sz := b1.size
  replace ka := ka.below b1
  replace kb := kb.below b1
  replace ks := ks.below b1
  replace kt := kt.below b1
  replace kp := kp.below b1
  replace kq := kq.below b1
  replace bb := Below.after bb b1
  clear b1
  have ca_0 := cel3_0 ka
  have ca_1 := cel3_1 ka
  have ca_2 := cel3_2 ka
  go_wp2_with fail
  clear ca_0 ca_1 ca_2
  clear kb
  clear ks
  clear kt
  clear kp
  clear kq
  clear S0 S1 H0 H1 H2 H3 H4 H5 H6 H7 H8 H9
  go_fit (HK.out _ bb)
  rintro e w13 ⟨rfl, b1⟩
  have sz := b1.size
  replace ka := ka.below b1
  replace bb := Below.after bb b1
  clear b1
  go_wp2_with fail
  go_fit (HL.out _ bb)
  rintro e w14 ⟨rfl, b1⟩
  have sz := b1.size
  replace ka := ka.below b1
  replace bb := Below.after bb b1
  clear b1
  go_wp2
  go_ret
  exact ⟨rfl, bb⟩
set_option maxRecDepth 100000 in
set_option maxHeartbeats 8000000 in
theorem checks_b (n0 n1 sN tN pN qN : Bool) (s0 d0 s1 d1 sS sD tS tD pS pD qS qD u v : ByteArray) (X Y : Int) (w : World)
    (HL : Hid (∀ w1, Below w.heap.size w w1 → Calls Tryz.prog 10 #[] w1 fun e w' => e = .returned (.bool true) ∧ Below w1.heap.size w1 w'))
    (S0 : Hid (∀ w1, Calls Tryz.prog 9 #[.agg #[.bool n0, .string s0, .string d0]] w1 fun e w' => e = .returned (.bool true) ∧ Below w1.heap.size w1 w'))
    (S1 : Hid (∀ w1, Calls Tryz.prog 9 #[.agg #[.bool n1, .string s1, .string d1]] w1 fun e w' => e = .returned (.bool true) ∧ Below w1.heap.size w1 w'))
    (H0 : Hid (∀ w1, Calls Tryz.prog 11 #[.agg #[.bool n0, .string s0, .string d0], .agg #[.bool n1, .string s1, .string d1]] w1 fun e w' => e = .returned (.int .i64 0) ∧ Below w1.heap.size w1 w'))
    (H1 : Hid (∀ w1, Below w.heap.size w w1 → Calls Tryz.prog 12 #[.agg #[.bool n0, .string s0, .string d0], .agg #[.bool n1, .string s1, .string d1]] w1 fun e w' => e = .returned (.tuple #[.int .i64 X, .int .i64 0]) ∧ Below w1.heap.size w1 w'))
    (H2 : Hid (∀ w1, Below w.heap.size w w1 → Calls Tryz.prog 13 #[.agg #[.bool n0, .string s0, .string d0], .agg #[.bool n1, .string s1, .string d1]] w1 fun e w' => e = .returned (.tuple #[.agg #[.bool sN, .string sS, .string sD], .int .i64 0]) ∧ Below w1.heap.size w1 w'))
    (H3 : Hid (∀ w1, Below w.heap.size w w1 → Calls Tryz.prog 14 #[.agg #[.bool n0, .string s0, .string d0], .agg #[.bool n1, .string s1, .string d1]] w1 fun e w' => e = .returned (.tuple #[.agg #[.bool tN, .string tS, .string tD], .int .i64 0]) ∧ Below w1.heap.size w1 w'))
    (H4 : Hid (∀ w1, Below w.heap.size w w1 → Calls Tryz.prog 15 #[.agg #[.bool n0, .string s0, .string d0], .agg #[.bool n1, .string s1, .string d1]] w1 fun e w' => e = .returned (.tuple #[.agg #[.bool pN, .string pS, .string pD], .int .i64 0]) ∧ Below w1.heap.size w1 w'))
    (H5 : Hid (∀ w1, Below w.heap.size w w1 → Calls Tryz.prog 16 #[.agg #[.bool n0, .string s0, .string d0], .agg #[.bool n1, .string s1, .string d1]] w1 fun e w' => e = .returned (.tuple #[.agg #[.bool qN, .string qS, .string qD], .int .i64 3]) ∧ Below w1.heap.size w1 w'))
    (H6 : Hid (∀ w1, Below w.heap.size w w1 → Calls Tryz.prog 17 #[.agg #[.bool n0, .string s0, .string d0]] w1 fun e w' => e = .returned (.tuple #[.int .i64 Y, .int .i64 0]) ∧ Below w1.heap.size w1 w'))
    (H7 : Hid (∀ w1, Below w.heap.size w w1 → Calls Tryz.prog 18 #[.agg #[.bool n0, .string s0, .string d0]] w1 fun e w' => e = .returned (.tuple #[.string u, .int .i64 0]) ∧ Below w1.heap.size w1 w'))
    (H8 : Hid (∀ w1, Below w.heap.size w w1 → Calls Tryz.prog 19 #[.agg #[.bool n0, .string s0, .string d0], .int .i64 3] w1 fun e w' => e = .returned (.tuple #[.string v, .int .i64 0]) ∧ Below w1.heap.size w1 w'))
    (H9 : Hid (∀ w1, Calls Tryz.prog 20 #[.agg #[.bool n0, .string s0, .string d0]] w1 fun e w' => e = .returned (.int .i64 0) ∧ Below w1.heap.size w1 w'))
    (HK : Hid (∀ w1, Below w.heap.size w w1 → Calls Tryz.prog 21 #[.agg #[.bool n0, .string s0, .string d0]] w1 fun e w' => e = .returned (.int .i64 0) ∧ Below w1.heap.size w1 w')) :
    Calls Tryz.prog 3 #[.agg #[.bool n0, .string s0, .string d0], .agg #[.bool n1, .string s1, .string d1]] w fun e w' => e = .returned (.bool true) ∧ Below w.heap.size w w' := by
  go_enter Tryz.func3, Tryz.ntmps3
  go_wp2_with fail
  go_fit (S0.out _)
  rintro e w1 ⟨rfl, b1⟩
  obtain ⟨ka, kb, b1⟩ := al2 b1
  have sz := b1.size
  have bb := b1
  clear b1
  have ta := ka.lt
  have tb := kb.lt
  clear ta tb
  have cb_0 := cel3_0 kb
  have cb_1 := cel3_1 kb
  have cb_2 := cel3_2 kb
  go_wp2_with fail
  clear cb_0 cb_1 cb_2
  go_fit (S1.out _)
  rintro e w2 ⟨rfl, b1⟩
  have sz := b1.size
  replace ka := ka.below b1
  replace kb := kb.below b1
  replace bb := Below.after bb b1
  clear b1
  have ca_0 := cel3_0 ka
  have ca_1 := cel3_1 ka
  have ca_2 := cel3_2 ka
  have cb_3 := cel3_0 kb
  have cb_4 := cel3_1 kb
  have cb_5 := cel3_2 kb
  go_wp2_with fail
  clear ca_0 ca_1 ca_2 cb_3 cb_4 cb_5
  go_fit (H0.out _)
  rintro e w3 ⟨rfl, b1⟩
  have sz := b1.size
  replace ka := ka.below b1
  replace kb := kb.below b1
  replace bb := Below.after bb b1
  clear b1
  have ca_0 := cel3_0 ka
  have ca_1 := cel3_1 ka
  have ca_2 := cel3_2 ka
  have cb_3 := cel3_0 kb
  have cb_4 := cel3_1 kb
  have cb_5 := cel3_2 kb
  go_wp2_with fail
  clear ca_0 ca_1 ca_2 cb_3 cb_4 cb_5
  go_fit (H1.out _ bb)
  rintro e w4 ⟨rfl, b1⟩
  have sz := b1.size
  replace ka := ka.below b1
  replace kb := kb.below b1
  replace bb := Below.after bb b1
  clear b1
  have ca_0 := cel3_0 ka
  have ca_1 := cel3_1 ka
  have ca_2 := cel3_2 ka
  have cb_3 := cel3_0 kb
  have cb_4 := cel3_1 kb
  have cb_5 := cel3_2 kb
  go_wp2_with fail
  clear ca_0 ca_1 ca_2 cb_3 cb_4 cb_5
  go_fit (H2.out _ bb)
  rintro e w5 ⟨rfl, b1⟩
  have sz := b1.size
  replace ka := ka.below b1
  replace kb := kb.below b1
  replace bb := Below.after bb b1
  clear b1
  have ca_0 := cel3_0 ka
  have ca_1 := cel3_1 ka
  have ca_2 := cel3_2 ka
  have cb_3 := cel3_0 kb
  have cb_4 := cel3_1 kb
  have cb_5 := cel3_2 kb
  have ca_6 := cel3_0 (ka.alloc (.cells #[.bool sN, .string sS, .string sD] 26))
  have ca_7 := cel3_1 (ka.alloc (.cells #[.bool sN, .string sS, .string sD] 26))
  have ca_8 := cel3_2 (ka.alloc (.cells #[.bool sN, .string sS, .string sD] 26))
  have cb_9 := cel3_0 (kb.alloc (.cells #[.bool sN, .string sS, .string sD] 26))
  have cb_10 := cel3_1 (kb.alloc (.cells #[.bool sN, .string sS, .string sD] 26))
  have cb_11 := cel3_2 (kb.alloc (.cells #[.bool sN, .string sS, .string sD] 26))
  go_wp2_with fail
  clear ca_0 ca_1 ca_2 cb_3 cb_4 cb_5 ca_6 ca_7 ca_8 cb_9 cb_10 cb_11
  go_fit (H3.out _ (ba bb _))
  rintro e w6 ⟨rfl, b1⟩
  obtain ⟨ks, b1⟩ := al1 b1
  have sz := b1.size
  replace ka := ka.below b1
  replace kb := kb.below b1
  replace bb := Below.after bb b1
  clear b1
  have ts := ks.lt
  clear ts
  have ca_0 := cel3_0 ka
  have ca_1 := cel3_1 ka
  have ca_2 := cel3_2 ka
  have cb_3 := cel3_0 kb
  have cb_4 := cel3_1 kb
  have cb_5 := cel3_2 kb
  have ca_6 := cel3_0 (ka.alloc (.cells #[.bool tN, .string tS, .string tD] 26))
  have ca_7 := cel3_1 (ka.alloc (.cells #[.bool tN, .string tS, .string tD] 26))
  have ca_8 := cel3_2 (ka.alloc (.cells #[.bool tN, .string tS, .string tD] 26))
  have cb_9 := cel3_0 (kb.alloc (.cells #[.bool tN, .string tS, .string tD] 26))
  have cb_10 := cel3_1 (kb.alloc (.cells #[.bool tN, .string tS, .string tD] 26))
  have cb_11 := cel3_2 (kb.alloc (.cells #[.bool tN, .string tS, .string tD] 26))
  go_wp2_with fail
  clear ca_0 ca_1 ca_2 cb_3 cb_4 cb_5 ca_6 ca_7 ca_8 cb_9 cb_10 cb_11
  go_fit (H4.out _ (ba bb _))
  rintro e w7 ⟨rfl, b1⟩
  obtain ⟨kt, b1⟩ := al1 b1
  have sz := b1.size
  replace ka := ka.below b1
  replace kb := kb.below b1
  replace ks := ks.below b1
  replace bb := Below.after bb b1
  clear b1
  have tt := kt.lt
  clear tt
  have ca_0 := cel3_0 ka
  have ca_1 := cel3_1 ka
  have ca_2 := cel3_2 ka
  have cb_3 := cel3_0 kb
  have cb_4 := cel3_1 kb
  have cb_5 := cel3_2 kb
  have ca_6 := cel3_0 (ka.alloc (.cells #[.bool pN, .string pS, .string pD] 26))
  have ca_7 := cel3_1 (ka.alloc (.cells #[.bool pN, .string pS, .string pD] 26))
  have ca_8 := cel3_2 (ka.alloc (.cells #[.bool pN, .string pS, .string pD] 26))
  have cb_9 := cel3_0 (kb.alloc (.cells #[.bool pN, .string pS, .string pD] 26))
  have cb_10 := cel3_1 (kb.alloc (.cells #[.bool pN, .string pS, .string pD] 26))
  have cb_11 := cel3_2 (kb.alloc (.cells #[.bool pN, .string pS, .string pD] 26))
  go_wp2_with fail
  clear ca_0 ca_1 ca_2 cb_3 cb_4 cb_5 ca_6 ca_7 ca_8 cb_9 cb_10 cb_11
  go_fit (H5.out _ (ba bb _))
  rintro e w8 ⟨rfl, b1⟩
  obtain ⟨kp, b1⟩ := al1 b1
  have sz := b1.size
  replace ka := ka.below b1
  replace kb := kb.below b1
  replace ks := ks.below b1
  replace kt := kt.below b1
  replace bb := Below.after bb b1
  clear b1
  have tp := kp.lt
  clear tp
  have ca_0 := cel3_0 ka
  have ca_1 := cel3_1 ka
  have ca_2 := cel3_2 ka
  have ca_3 := cel3_0 (ka.alloc (.cells #[.bool qN, .string qS, .string qD] 26))
  have ca_4 := cel3_1 (ka.alloc (.cells #[.bool qN, .string qS, .string qD] 26))
  have ca_5 := cel3_2 (ka.alloc (.cells #[.bool qN, .string qS, .string qD] 26))
  go_wp2_with fail
  clear ca_0 ca_1 ca_2 ca_3 ca_4 ca_5
  go_fit (H6.out _ (ba bb _))
  rintro e w9 ⟨rfl, b1⟩
  obtain ⟨kq, b1⟩ := al1 b1
  have sz := b1.size
  replace ka := ka.below b1
  replace kb := kb.below b1
  replace ks := ks.below b1
  replace kt := kt.below b1
  replace kp := kp.below b1
  replace bb := Below.after bb b1
  clear b1
  have tq := kq.lt
  clear tq
  have ca_0 := cel3_0 ka
  have ca_1 := cel3_1 ka
  have ca_2 := cel3_2 ka
  go_wp2_with fail
  clear ca_0 ca_1 ca_2
  go_fit (H7.out _ bb)
  rintro e w10 ⟨rfl, b1⟩
  have sz := b1.size
  replace ka := ka.below b1
  replace kb := kb.below b1
  replace ks := ks.below b1
  replace kt := kt.below b1
  replace kp := kp.below b1
  replace kq := kq.below b1
  replace bb := Below.after bb b1
  clear b1
  have ca_0 := cel3_0 ka
  have ca_1 := cel3_1 ka
  have ca_2 := cel3_2 ka
  go_wp2_with fail
  clear ca_0 ca_1 ca_2
  go_fit (H8.out _ bb)
  rintro e w11 ⟨rfl, b1⟩
  have sz := b1.size
  replace ka := ka.below b1
  replace kb := kb.below b1
  replace ks := ks.below b1
  replace kt := kt.below b1
  replace kp := kp.below b1
  replace kq := kq.below b1
  replace bb := Below.after bb b1
  clear b1
  have ca_0 := cel3_0 ka
  have ca_1 := cel3_1 ka
  have ca_2 := cel3_2 ka
  go_wp2_with fail
  clear ca_0 ca_1 ca_2
  go_fit (H9.out _)
  rintro e w12 ⟨rfl, b1⟩
  have sz := b1.size
  replace ka := ka.below b1
  replace kb := kb.below b1
  replace ks := ks.below b1
  replace kt := kt.below b1
  replace kp := kp.below b1
  replace kq := kq.below b1
  replace bb := Below.after bb b1
  clear b1
  have ca_0 := cel3_0 ka
  have ca_1 := cel3_1 ka
  have ca_2 := cel3_2 ka
  go_wp2_with fail
  clear ca_0 ca_1 ca_2
  clear kb
  clear ks
  clear kt
  clear kp
  clear kq
  clear S0 S1 H0 H1 H2 H3 H4 H5 H6 H7 H8 H9
  go_fit (HK.out _ bb)
  rintro e w13 ⟨rfl, b1⟩
  have sz := b1.size
  replace ka := ka.below b1
  replace bb := Below.after bb b1
  clear b1
  go_wp2_with fail
  go_fit (HL.out _ bb)
  rintro e w14 ⟨rfl, b1⟩
  have sz := b1.size
  replace ka := ka.below b1
  replace bb := Below.after bb b1
  clear b1
  go_wp2
  go_ret
  exact ⟨rfl, bb⟩
end Go.Proofs.YtlihcbeacjimkaaGreatDoor
