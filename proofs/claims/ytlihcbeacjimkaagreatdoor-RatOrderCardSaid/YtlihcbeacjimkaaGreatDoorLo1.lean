/-
  gussetlaw03.RatOrder, walked.
-/
import Derived.Test.YtlihcbeacjimkaaGreatDoorG34
namespace Go.Proofs.YtlihcbeacjimkaaGreatDoor
open Go.RowKit Go.Shelf

set_option maxRecDepth 100000 in
set_option maxHeartbeats 8000000 in
theorem order_l0 (n0 n1 n2 : Bool) (s0 d0 s1 d1 s2 d2 : ByteArray) (w : World)
    (HL : Hid (∀ w1, Below w.heap.size w w1 → Calls Tryz.prog 10 #[] w1 fun e w' => e = .returned (.bool true) ∧ Below w1.heap.size w1 w'))
    (S0 : Hid (∀ w1, Calls Tryz.prog 9 #[.agg #[.bool n0, .string s0, .string d0]] w1 fun e w' => e = .returned (.bool false) ∧ Below w1.heap.size w1 w')) :
    Calls Tryz.prog 8 #[.agg #[.bool n0, .string s0, .string d0], .agg #[.bool n1, .string s1, .string d1], .agg #[.bool n2, .string s2, .string d2]] w fun e w' => e = .returned (.bool true) ∧ Below w.heap.size w w' := by
  go_enter Tryz.func8, Tryz.ntmps8
  go_wp2_with fail
  go_fit (S0.out _)
  rintro e w1 ⟨rfl, b1⟩
  obtain ⟨ka, kb, kc, b1⟩ := al3 b1
  have sz := b1.size
  have bb := b1
  clear b1
  have ta := ka.lt
  have tb := kb.lt
  have tc := kc.lt
  clear ta tb tc
  have cb_0 := cel3_0 kb
  have cb_1 := cel3_1 kb
  have cb_2 := cel3_2 kb
  go_wp2_with fail
  clear cb_0 cb_1 cb_2
  go_fit (HL.out _ bb)
  rintro e w2 ⟨rfl, b1⟩
  have sz := b1.size
  replace ka := ka.below b1
  replace kb := kb.below b1
  replace kc := kc.below b1
  replace bb := Below.after bb b1
  clear b1
  go_wp2
  go_ret
  exact ⟨rfl, bb⟩
set_option maxRecDepth 100000 in
set_option maxHeartbeats 8000000 in
theorem order_l1 (n0 n1 n2 : Bool) (s0 d0 s1 d1 s2 d2 : ByteArray) (w : World)
    (HL : Hid (∀ w1, Below w.heap.size w w1 → Calls Tryz.prog 10 #[] w1 fun e w' => e = .returned (.bool true) ∧ Below w1.heap.size w1 w'))
    (S0 : Hid (∀ w1, Calls Tryz.prog 9 #[.agg #[.bool n0, .string s0, .string d0]] w1 fun e w' => e = .returned (.bool true) ∧ Below w1.heap.size w1 w'))
    (S1 : Hid (∀ w1, Calls Tryz.prog 9 #[.agg #[.bool n1, .string s1, .string d1]] w1 fun e w' => e = .returned (.bool false) ∧ Below w1.heap.size w1 w')) :
    Calls Tryz.prog 8 #[.agg #[.bool n0, .string s0, .string d0], .agg #[.bool n1, .string s1, .string d1], .agg #[.bool n2, .string s2, .string d2]] w fun e w' => e = .returned (.bool true) ∧ Below w.heap.size w w' := by
  go_enter Tryz.func8, Tryz.ntmps8
  go_wp2_with fail
  go_fit (S0.out _)
  rintro e w1 ⟨rfl, b1⟩
  obtain ⟨ka, kb, kc, b1⟩ := al3 b1
  have sz := b1.size
  have bb := b1
  clear b1
  have ta := ka.lt
  have tb := kb.lt
  have tc := kc.lt
  clear ta tb tc
  have cb_0 := cel3_0 kb
  have cb_1 := cel3_1 kb
  have cb_2 := cel3_2 kb
  go_wp2_with fail
  clear cb_0 cb_1 cb_2
  go_fit (S1.out _)
  rintro e w2 ⟨rfl, b1⟩
  have sz := b1.size
  replace ka := ka.below b1
  replace kb := kb.below b1
  replace kc := kc.below b1
  replace bb := Below.after bb b1
  clear b1
  have cc_0 := cel3_0 kc
  have cc_1 := cel3_1 kc
  have cc_2 := cel3_2 kc
  go_wp2_with fail
  clear cc_0 cc_1 cc_2
  go_fit (HL.out _ bb)
  rintro e w3 ⟨rfl, b1⟩
  have sz := b1.size
  replace ka := ka.below b1
  replace kb := kb.below b1
  replace kc := kc.below b1
  replace bb := Below.after bb b1
  clear b1
  go_wp2
  go_ret
  exact ⟨rfl, bb⟩
set_option maxRecDepth 100000 in
set_option maxHeartbeats 8000000 in
theorem order_l2 (n0 n1 n2 : Bool) (s0 d0 s1 d1 s2 d2 : ByteArray) (w : World)
    (HL : Hid (∀ w1, Below w.heap.size w w1 → Calls Tryz.prog 10 #[] w1 fun e w' => e = .returned (.bool true) ∧ Below w1.heap.size w1 w'))
    (S0 : Hid (∀ w1, Calls Tryz.prog 9 #[.agg #[.bool n0, .string s0, .string d0]] w1 fun e w' => e = .returned (.bool true) ∧ Below w1.heap.size w1 w'))
    (S1 : Hid (∀ w1, Calls Tryz.prog 9 #[.agg #[.bool n1, .string s1, .string d1]] w1 fun e w' => e = .returned (.bool true) ∧ Below w1.heap.size w1 w'))
    (S2 : Hid (∀ w1, Calls Tryz.prog 9 #[.agg #[.bool n2, .string s2, .string d2]] w1 fun e w' => e = .returned (.bool false) ∧ Below w1.heap.size w1 w')) :
    Calls Tryz.prog 8 #[.agg #[.bool n0, .string s0, .string d0], .agg #[.bool n1, .string s1, .string d1], .agg #[.bool n2, .string s2, .string d2]] w fun e w' => e = .returned (.bool true) ∧ Below w.heap.size w w' := by
  go_enter Tryz.func8, Tryz.ntmps8
  go_wp2_with fail
  go_fit (S0.out _)
  rintro e w1 ⟨rfl, b1⟩
  obtain ⟨ka, kb, kc, b1⟩ := al3 b1
  have sz := b1.size
  have bb := b1
  clear b1
  have ta := ka.lt
  have tb := kb.lt
  have tc := kc.lt
  clear ta tb tc
  have cb_0 := cel3_0 kb
  have cb_1 := cel3_1 kb
  have cb_2 := cel3_2 kb
  go_wp2_with fail
  clear cb_0 cb_1 cb_2
  go_fit (S1.out _)
  rintro e w2 ⟨rfl, b1⟩
  have sz := b1.size
  replace ka := ka.below b1
  replace kb := kb.below b1
  replace kc := kc.below b1
  replace bb := Below.after bb b1
  clear b1
  have cc_0 := cel3_0 kc
  have cc_1 := cel3_1 kc
  have cc_2 := cel3_2 kc
  go_wp2_with fail
  clear cc_0 cc_1 cc_2
  go_fit (S2.out _)
  rintro e w3 ⟨rfl, b1⟩
  have sz := b1.size
  replace ka := ka.below b1
  replace kb := kb.below b1
  replace kc := kc.below b1
  replace bb := Below.after bb b1
  clear b1
  have cc_0 := cel3_0 kc
  have cc_1 := cel3_1 kc
  have cc_2 := cel3_2 kc
  go_wp2_with fail
  clear cc_0 cc_1 cc_2
  go_fit (HL.out _ bb)
  rintro e w4 ⟨rfl, b1⟩
  have sz := b1.size
  replace ka := ka.below b1
  replace kb := kb.below b1
  replace kc := kc.below b1
  replace bb := Below.after bb b1
  clear b1
  go_wp2
  go_ret
  exact ⟨rfl, bb⟩
set_option maxRecDepth 100000 in
set_option maxHeartbeats 8000000 in
theorem order_bad1 (n0 n1 n2 dN pN qN : Bool) (s0 d0 s1 d1 s2 d2 dS dD pS pD qS qD : ByteArray) (X N : Int) (E1 E2 E3 E4 E5 : Int) (h1 : ¬ E1 = 0) (w : World)
    (HL : Hid (∀ w1, Below w.heap.size w w1 → Calls Tryz.prog 10 #[] w1 fun e w' => e = .returned (.bool true) ∧ Below w1.heap.size w1 w'))
    (S0 : Hid (∀ w1, Calls Tryz.prog 9 #[.agg #[.bool n0, .string s0, .string d0]] w1 fun e w' => e = .returned (.bool true) ∧ Below w1.heap.size w1 w'))
    (S1 : Hid (∀ w1, Calls Tryz.prog 9 #[.agg #[.bool n1, .string s1, .string d1]] w1 fun e w' => e = .returned (.bool true) ∧ Below w1.heap.size w1 w'))
    (S2 : Hid (∀ w1, Calls Tryz.prog 9 #[.agg #[.bool n2, .string s2, .string d2]] w1 fun e w' => e = .returned (.bool true) ∧ Below w1.heap.size w1 w'))
    (H1 : Hid (∀ w1, Below w.heap.size w w1 → Calls Tryz.prog 12 #[.agg #[.bool n0, .string s0, .string d0], .agg #[.bool n1, .string s1, .string d1]] w1 fun e w' => e = .returned (.tuple #[.int .i64 X, .int .i64 E1]) ∧ Below w1.heap.size w1 w'))
    (H2 : Hid (∀ w1, Below w.heap.size w w1 → Calls Tryz.prog 14 #[.agg #[.bool n0, .string s0, .string d0], .agg #[.bool n1, .string s1, .string d1]] w1 fun e w' => e = .returned (.tuple #[.agg #[.bool dN, .string dS, .string dD], .int .i64 E2]) ∧ Below w1.heap.size w1 w'))
    (H3 : Hid (∀ w1, Below w.heap.size w w1 → Calls Tryz.prog 15 #[.agg #[.bool n0, .string s0, .string d0], .agg #[.bool n2, .string s2, .string d2]] w1 fun e w' => e = .returned (.tuple #[.agg #[.bool pN, .string pS, .string pD], .int .i64 E3]) ∧ Below w1.heap.size w1 w'))
    (H4 : Hid (∀ w1, Below w.heap.size w w1 → Calls Tryz.prog 15 #[.agg #[.bool n1, .string s1, .string d1], .agg #[.bool n2, .string s2, .string d2]] w1 fun e w' => e = .returned (.tuple #[.agg #[.bool qN, .string qS, .string qD], .int .i64 E4]) ∧ Below w1.heap.size w1 w'))
    (H5 : Hid (∀ w1, Below w.heap.size w w1 → Calls Tryz.prog 17 #[.agg #[.bool n2, .string s2, .string d2]] w1 fun e w' => e = .returned (.tuple #[.int .i64 N, .int .i64 E5]) ∧ Below w1.heap.size w1 w')) :
    Calls Tryz.prog 8 #[.agg #[.bool n0, .string s0, .string d0], .agg #[.bool n1, .string s1, .string d1], .agg #[.bool n2, .string s2, .string d2]] w fun e w' => e = .returned (.bool true) ∧ Below w.heap.size w w' := by
  go_enter Tryz.func8, Tryz.ntmps8
  go_wp2_with fail
  go_fit (S0.out _)
  rintro e w1 ⟨rfl, b1⟩
  obtain ⟨ka, kb, kc, b1⟩ := al3 b1
  have sz := b1.size
  have bb := b1
  clear b1
  have ta := ka.lt
  have tb := kb.lt
  have tc := kc.lt
  clear ta tb tc
  have cb_0 := cel3_0 kb
  have cb_1 := cel3_1 kb
  have cb_2 := cel3_2 kb
  go_wp2_with fail
  clear cb_0 cb_1 cb_2
  go_fit (S1.out _)
  rintro e w2 ⟨rfl, b1⟩
  have sz := b1.size
  replace ka := ka.below b1
  replace kb := kb.below b1
  replace kc := kc.below b1
  replace bb := Below.after bb b1
  clear b1
  have cc_0 := cel3_0 kc
  have cc_1 := cel3_1 kc
  have cc_2 := cel3_2 kc
  go_wp2_with fail
  clear cc_0 cc_1 cc_2
  go_fit (S2.out _)
  rintro e w3 ⟨rfl, b1⟩
  have sz := b1.size
  replace ka := ka.below b1
  replace kb := kb.below b1
  replace kc := kc.below b1
  replace bb := Below.after bb b1
  clear b1
  have ca_0 := cel3_0 ka
  have ca_1 := cel3_1 ka
  have ca_2 := cel3_2 ka
  have cb_3 := cel3_0 kb
  have cb_4 := cel3_1 kb
  have cb_5 := cel3_2 kb
  go_wp2_with fail
  clear ca_0 ca_1 ca_2 cb_3 cb_4 cb_5
  go_fit (H1.out _ bb)
  rintro e w4 ⟨rfl, b1⟩
  have sz := b1.size
  replace ka := ka.below b1
  replace kb := kb.below b1
  replace kc := kc.below b1
  replace bb := Below.after bb b1
  clear b1
  have ca_0 := cel3_0 ka
  have ca_1 := cel3_1 ka
  have ca_2 := cel3_2 ka
  have cb_3 := cel3_0 kb
  have cb_4 := cel3_1 kb
  have cb_5 := cel3_2 kb
  go_wp2_with fail
  clear ca_0 ca_1 ca_2 cb_3 cb_4 cb_5
  go_fit (H2.out _ bb)
  rintro e w5 ⟨rfl, b1⟩
  have sz := b1.size
  replace ka := ka.below b1
  replace kb := kb.below b1
  replace kc := kc.below b1
  replace bb := Below.after bb b1
  clear b1
  have ca_0 := cel3_0 ka
  have ca_1 := cel3_1 ka
  have ca_2 := cel3_2 ka
  have cc_3 := cel3_0 kc
  have cc_4 := cel3_1 kc
  have cc_5 := cel3_2 kc
  have ca_6 := cel3_0 (ka.alloc (.cells #[.bool dN, .string dS, .string dD] 26))
  have ca_7 := cel3_1 (ka.alloc (.cells #[.bool dN, .string dS, .string dD] 26))
  have ca_8 := cel3_2 (ka.alloc (.cells #[.bool dN, .string dS, .string dD] 26))
  have cc_9 := cel3_0 (kc.alloc (.cells #[.bool dN, .string dS, .string dD] 26))
  have cc_10 := cel3_1 (kc.alloc (.cells #[.bool dN, .string dS, .string dD] 26))
  have cc_11 := cel3_2 (kc.alloc (.cells #[.bool dN, .string dS, .string dD] 26))
  go_wp2_with fail
  clear ca_0 ca_1 ca_2 cc_3 cc_4 cc_5 ca_6 ca_7 ca_8 cc_9 cc_10 cc_11
  go_fit (H3.out _ (ba bb _))
  rintro e w6 ⟨rfl, b1⟩
  obtain ⟨kd, b1⟩ := al1 b1
  have sz := b1.size
  replace ka := ka.below b1
  replace kb := kb.below b1
  replace kc := kc.below b1
  replace bb := Below.after bb b1
  clear b1
  have td := kd.lt
  clear td
  have cb_0 := cel3_0 kb
  have cb_1 := cel3_1 kb
  have cb_2 := cel3_2 kb
  have cc_3 := cel3_0 kc
  have cc_4 := cel3_1 kc
  have cc_5 := cel3_2 kc
  have cb_6 := cel3_0 (kb.alloc (.cells #[.bool pN, .string pS, .string pD] 26))
  have cb_7 := cel3_1 (kb.alloc (.cells #[.bool pN, .string pS, .string pD] 26))
  have cb_8 := cel3_2 (kb.alloc (.cells #[.bool pN, .string pS, .string pD] 26))
  have cc_9 := cel3_0 (kc.alloc (.cells #[.bool pN, .string pS, .string pD] 26))
  have cc_10 := cel3_1 (kc.alloc (.cells #[.bool pN, .string pS, .string pD] 26))
  have cc_11 := cel3_2 (kc.alloc (.cells #[.bool pN, .string pS, .string pD] 26))
  go_wp2_with fail
  clear cb_0 cb_1 cb_2 cc_3 cc_4 cc_5 cb_6 cb_7 cb_8 cc_9 cc_10 cc_11
  go_fit (H4.out _ (ba bb _))
  rintro e w7 ⟨rfl, b1⟩
  obtain ⟨kp, b1⟩ := al1 b1
  have sz := b1.size
  replace ka := ka.below b1
  replace kb := kb.below b1
  replace kc := kc.below b1
  replace kd := kd.below b1
  replace bb := Below.after bb b1
  clear b1
  have tp := kp.lt
  clear tp
  have cc_0 := cel3_0 kc
  have cc_1 := cel3_1 kc
  have cc_2 := cel3_2 kc
  have cc_3 := cel3_0 (kc.alloc (.cells #[.bool qN, .string qS, .string qD] 26))
  have cc_4 := cel3_1 (kc.alloc (.cells #[.bool qN, .string qS, .string qD] 26))
  have cc_5 := cel3_2 (kc.alloc (.cells #[.bool qN, .string qS, .string qD] 26))
  go_wp2_with fail
  clear cc_0 cc_1 cc_2 cc_3 cc_4 cc_5
  go_fit (H5.out _ (ba bb _))
  rintro e w8 ⟨rfl, b1⟩
  obtain ⟨kq, b1⟩ := al1 b1
  have sz := b1.size
  replace ka := ka.below b1
  replace kb := kb.below b1
  replace kc := kc.below b1
  replace kd := kd.below b1
  replace kp := kp.below b1
  replace bb := Below.after bb b1
  clear b1
  have tq := kq.lt
  clear tq
  go_wp2_with fail
  go_fit (HL.out _ bb)
  rintro e w9 ⟨rfl, b1⟩
  have sz := b1.size
  replace ka := ka.below b1
  replace kb := kb.below b1
  replace kc := kc.below b1
  replace kd := kd.below b1
  replace kp := kp.below b1
  replace kq := kq.below b1
  replace bb := Below.after bb b1
  clear b1
  go_wp2
  go_ret
  exact ⟨rfl, bb⟩
set_option maxRecDepth 100000 in
set_option maxHeartbeats 8000000 in
theorem order_bad3 (n0 n1 n2 dN pN qN : Bool) (s0 d0 s1 d1 s2 d2 dS dD pS pD qS qD : ByteArray) (X N : Int) (E3 E4 E5 : Int) (h1 : ¬ E3 = 0) (w : World)
    (HL : Hid (∀ w1, Below w.heap.size w w1 → Calls Tryz.prog 10 #[] w1 fun e w' => e = .returned (.bool true) ∧ Below w1.heap.size w1 w'))
    (S0 : Hid (∀ w1, Calls Tryz.prog 9 #[.agg #[.bool n0, .string s0, .string d0]] w1 fun e w' => e = .returned (.bool true) ∧ Below w1.heap.size w1 w'))
    (S1 : Hid (∀ w1, Calls Tryz.prog 9 #[.agg #[.bool n1, .string s1, .string d1]] w1 fun e w' => e = .returned (.bool true) ∧ Below w1.heap.size w1 w'))
    (S2 : Hid (∀ w1, Calls Tryz.prog 9 #[.agg #[.bool n2, .string s2, .string d2]] w1 fun e w' => e = .returned (.bool true) ∧ Below w1.heap.size w1 w'))
    (H1 : Hid (∀ w1, Below w.heap.size w w1 → Calls Tryz.prog 12 #[.agg #[.bool n0, .string s0, .string d0], .agg #[.bool n1, .string s1, .string d1]] w1 fun e w' => e = .returned (.tuple #[.int .i64 X, .int .i64 0]) ∧ Below w1.heap.size w1 w'))
    (H2 : Hid (∀ w1, Below w.heap.size w w1 → Calls Tryz.prog 14 #[.agg #[.bool n0, .string s0, .string d0], .agg #[.bool n1, .string s1, .string d1]] w1 fun e w' => e = .returned (.tuple #[.agg #[.bool dN, .string dS, .string dD], .int .i64 0]) ∧ Below w1.heap.size w1 w'))
    (H3 : Hid (∀ w1, Below w.heap.size w w1 → Calls Tryz.prog 15 #[.agg #[.bool n0, .string s0, .string d0], .agg #[.bool n2, .string s2, .string d2]] w1 fun e w' => e = .returned (.tuple #[.agg #[.bool pN, .string pS, .string pD], .int .i64 E3]) ∧ Below w1.heap.size w1 w'))
    (H4 : Hid (∀ w1, Below w.heap.size w w1 → Calls Tryz.prog 15 #[.agg #[.bool n1, .string s1, .string d1], .agg #[.bool n2, .string s2, .string d2]] w1 fun e w' => e = .returned (.tuple #[.agg #[.bool qN, .string qS, .string qD], .int .i64 E4]) ∧ Below w1.heap.size w1 w'))
    (H5 : Hid (∀ w1, Below w.heap.size w w1 → Calls Tryz.prog 17 #[.agg #[.bool n2, .string s2, .string d2]] w1 fun e w' => e = .returned (.tuple #[.int .i64 N, .int .i64 E5]) ∧ Below w1.heap.size w1 w')) :
    Calls Tryz.prog 8 #[.agg #[.bool n0, .string s0, .string d0], .agg #[.bool n1, .string s1, .string d1], .agg #[.bool n2, .string s2, .string d2]] w fun e w' => e = .returned (.bool true) ∧ Below w.heap.size w w' := by
  go_enter Tryz.func8, Tryz.ntmps8
  go_wp2_with fail
  go_fit (S0.out _)
  rintro e w1 ⟨rfl, b1⟩
  obtain ⟨ka, kb, kc, b1⟩ := al3 b1
  have sz := b1.size
  have bb := b1
  clear b1
  have ta := ka.lt
  have tb := kb.lt
  have tc := kc.lt
  clear ta tb tc
  have cb_0 := cel3_0 kb
  have cb_1 := cel3_1 kb
  have cb_2 := cel3_2 kb
  go_wp2_with fail
  clear cb_0 cb_1 cb_2
  go_fit (S1.out _)
  rintro e w2 ⟨rfl, b1⟩
  have sz := b1.size
  replace ka := ka.below b1
  replace kb := kb.below b1
  replace kc := kc.below b1
  replace bb := Below.after bb b1
  clear b1
  have cc_0 := cel3_0 kc
  have cc_1 := cel3_1 kc
  have cc_2 := cel3_2 kc
  go_wp2_with fail
  clear cc_0 cc_1 cc_2
  go_fit (S2.out _)
  rintro e w3 ⟨rfl, b1⟩
  have sz := b1.size
  replace ka := ka.below b1
  replace kb := kb.below b1
  replace kc := kc.below b1
  replace bb := Below.after bb b1
  clear b1
  have ca_0 := cel3_0 ka
  have ca_1 := cel3_1 ka
  have ca_2 := cel3_2 ka
  have cb_3 := cel3_0 kb
  have cb_4 := cel3_1 kb
  have cb_5 := cel3_2 kb
  go_wp2_with fail
  clear ca_0 ca_1 ca_2 cb_3 cb_4 cb_5
  go_fit (H1.out _ bb)
  rintro e w4 ⟨rfl, b1⟩
  have sz := b1.size
  replace ka := ka.below b1
  replace kb := kb.below b1
  replace kc := kc.below b1
  replace bb := Below.after bb b1
  clear b1
  have ca_0 := cel3_0 ka
  have ca_1 := cel3_1 ka
  have ca_2 := cel3_2 ka
  have cb_3 := cel3_0 kb
  have cb_4 := cel3_1 kb
  have cb_5 := cel3_2 kb
  go_wp2_with fail
  clear ca_0 ca_1 ca_2 cb_3 cb_4 cb_5
  go_fit (H2.out _ bb)
  rintro e w5 ⟨rfl, b1⟩
  have sz := b1.size
  replace ka := ka.below b1
  replace kb := kb.below b1
  replace kc := kc.below b1
  replace bb := Below.after bb b1
  clear b1
  have ca_0 := cel3_0 ka
  have ca_1 := cel3_1 ka
  have ca_2 := cel3_2 ka
  have cc_3 := cel3_0 kc
  have cc_4 := cel3_1 kc
  have cc_5 := cel3_2 kc
  have ca_6 := cel3_0 (ka.alloc (.cells #[.bool dN, .string dS, .string dD] 26))
  have ca_7 := cel3_1 (ka.alloc (.cells #[.bool dN, .string dS, .string dD] 26))
  have ca_8 := cel3_2 (ka.alloc (.cells #[.bool dN, .string dS, .string dD] 26))
  have cc_9 := cel3_0 (kc.alloc (.cells #[.bool dN, .string dS, .string dD] 26))
  have cc_10 := cel3_1 (kc.alloc (.cells #[.bool dN, .string dS, .string dD] 26))
  have cc_11 := cel3_2 (kc.alloc (.cells #[.bool dN, .string dS, .string dD] 26))
  go_wp2_with fail
  clear ca_0 ca_1 ca_2 cc_3 cc_4 cc_5 ca_6 ca_7 ca_8 cc_9 cc_10 cc_11
  go_fit (H3.out _ (ba bb _))
  rintro e w6 ⟨rfl, b1⟩
  obtain ⟨kd, b1⟩ := al1 b1
  have sz := b1.size
  replace ka := ka.below b1
  replace kb := kb.below b1
  replace kc := kc.below b1
  replace bb := Below.after bb b1
  clear b1
  have td := kd.lt
  clear td
  have cb_0 := cel3_0 kb
  have cb_1 := cel3_1 kb
  have cb_2 := cel3_2 kb
  have cc_3 := cel3_0 kc
  have cc_4 := cel3_1 kc
  have cc_5 := cel3_2 kc
  have cb_6 := cel3_0 (kb.alloc (.cells #[.bool pN, .string pS, .string pD] 26))
  have cb_7 := cel3_1 (kb.alloc (.cells #[.bool pN, .string pS, .string pD] 26))
  have cb_8 := cel3_2 (kb.alloc (.cells #[.bool pN, .string pS, .string pD] 26))
  have cc_9 := cel3_0 (kc.alloc (.cells #[.bool pN, .string pS, .string pD] 26))
  have cc_10 := cel3_1 (kc.alloc (.cells #[.bool pN, .string pS, .string pD] 26))
  have cc_11 := cel3_2 (kc.alloc (.cells #[.bool pN, .string pS, .string pD] 26))
  go_wp2_with fail
  clear cb_0 cb_1 cb_2 cc_3 cc_4 cc_5 cb_6 cb_7 cb_8 cc_9 cc_10 cc_11
  go_fit (H4.out _ (ba bb _))
  rintro e w7 ⟨rfl, b1⟩
  obtain ⟨kp, b1⟩ := al1 b1
  have sz := b1.size
  replace ka := ka.below b1
  replace kb := kb.below b1
  replace kc := kc.below b1
  replace kd := kd.below b1
  replace bb := Below.after bb b1
  clear b1
  have tp := kp.lt
  clear tp
  have cc_0 := cel3_0 kc
  have cc_1 := cel3_1 kc
  have cc_2 := cel3_2 kc
  have cc_3 := cel3_0 (kc.alloc (.cells #[.bool qN, .string qS, .string qD] 26))
  have cc_4 := cel3_1 (kc.alloc (.cells #[.bool qN, .string qS, .string qD] 26))
  have cc_5 := cel3_2 (kc.alloc (.cells #[.bool qN, .string qS, .string qD] 26))
  go_wp2_with fail
  clear cc_0 cc_1 cc_2 cc_3 cc_4 cc_5
  go_fit (H5.out _ (ba bb _))
  rintro e w8 ⟨rfl, b1⟩
  obtain ⟨kq, b1⟩ := al1 b1
  have sz := b1.size
  replace ka := ka.below b1
  replace kb := kb.below b1
  replace kc := kc.below b1
  replace kd := kd.below b1
  replace kp := kp.below b1
  replace bb := Below.after bb b1
  clear b1
  have tq := kq.lt
  clear tq
  go_wp2_with fail
  go_fit (HL.out _ bb)
  rintro e w9 ⟨rfl, b1⟩
  have sz := b1.size
  replace ka := ka.below b1
  replace kb := kb.below b1
  replace kc := kc.below b1
  replace kd := kd.below b1
  replace kp := kp.below b1
  replace kq := kq.below b1
  replace bb := Below.after bb b1
  clear b1
  go_wp2
  go_ret
  exact ⟨rfl, bb⟩
set_option maxRecDepth 100000 in
set_option maxHeartbeats 8000000 in
theorem order_ok3 (n0 n1 n2 dN pN qN : Bool) (s0 d0 s1 d1 s2 d2 dS dD pS pD qS qD : ByteArray) (X N : Int) (Z : Int) (hw : wrap64 (X * N) = Z) (w : World)
    (HL : Hid (∀ w1, Below w.heap.size w w1 → Calls Tryz.prog 10 #[] w1 fun e w' => e = .returned (.bool true) ∧ Below w1.heap.size w1 w'))
    (S0 : Hid (∀ w1, Calls Tryz.prog 9 #[.agg #[.bool n0, .string s0, .string d0]] w1 fun e w' => e = .returned (.bool true) ∧ Below w1.heap.size w1 w'))
    (S1 : Hid (∀ w1, Calls Tryz.prog 9 #[.agg #[.bool n1, .string s1, .string d1]] w1 fun e w' => e = .returned (.bool true) ∧ Below w1.heap.size w1 w'))
    (S2 : Hid (∀ w1, Calls Tryz.prog 9 #[.agg #[.bool n2, .string s2, .string d2]] w1 fun e w' => e = .returned (.bool true) ∧ Below w1.heap.size w1 w'))
    (H1 : Hid (∀ w1, Below w.heap.size w w1 → Calls Tryz.prog 12 #[.agg #[.bool n0, .string s0, .string d0], .agg #[.bool n1, .string s1, .string d1]] w1 fun e w' => e = .returned (.tuple #[.int .i64 X, .int .i64 0]) ∧ Below w1.heap.size w1 w'))
    (H2 : Hid (∀ w1, Below w.heap.size w w1 → Calls Tryz.prog 14 #[.agg #[.bool n0, .string s0, .string d0], .agg #[.bool n1, .string s1, .string d1]] w1 fun e w' => e = .returned (.tuple #[.agg #[.bool dN, .string dS, .string dD], .int .i64 0]) ∧ Below w1.heap.size w1 w'))
    (H3 : Hid (∀ w1, Below w.heap.size w w1 → Calls Tryz.prog 15 #[.agg #[.bool n0, .string s0, .string d0], .agg #[.bool n2, .string s2, .string d2]] w1 fun e w' => e = .returned (.tuple #[.agg #[.bool pN, .string pS, .string pD], .int .i64 0]) ∧ Below w1.heap.size w1 w'))
    (H4 : Hid (∀ w1, Below w.heap.size w w1 → Calls Tryz.prog 15 #[.agg #[.bool n1, .string s1, .string d1], .agg #[.bool n2, .string s2, .string d2]] w1 fun e w' => e = .returned (.tuple #[.agg #[.bool qN, .string qS, .string qD], .int .i64 0]) ∧ Below w1.heap.size w1 w'))
    (H5 : Hid (∀ w1, Below w.heap.size w w1 → Calls Tryz.prog 17 #[.agg #[.bool n2, .string s2, .string d2]] w1 fun e w' => e = .returned (.tuple #[.int .i64 N, .int .i64 0]) ∧ Below w1.heap.size w1 w'))
    (H6 : Hid (∀ w1, Below w.heap.size w w1 → Calls Tryz.prog 17 #[.agg #[.bool dN, .string dS, .string dD]] w1 fun e w' => e = .returned (.tuple #[.int .i64 X, .int .i64 0]) ∧ Below w1.heap.size w1 w'))
    (H7 : Hid (∀ w1, Below w.heap.size w w1 → Calls Tryz.prog 12 #[.agg #[.bool pN, .string pS, .string pD], .agg #[.bool qN, .string qS, .string qD]] w1 fun e w' => e = .returned (.tuple #[.int .i64 Z, .int .i64 0]) ∧ Below w1.heap.size w1 w')) :
    Calls Tryz.prog 8 #[.agg #[.bool n0, .string s0, .string d0], .agg #[.bool n1, .string s1, .string d1], .agg #[.bool n2, .string s2, .string d2]] w fun e w' => e = .returned (.bool true) ∧ Below w.heap.size w w' := by
  go_enter Tryz.func8, Tryz.ntmps8
  go_wp2_with fail
  go_fit (S0.out _)
  rintro e w1 ⟨rfl, b1⟩
  obtain ⟨ka, kb, kc, b1⟩ := al3 b1
  have sz := b1.size
  have bb := b1
  clear b1
  have ta := ka.lt
  have tb := kb.lt
  have tc := kc.lt
  clear ta tb tc
  have cb_0 := cel3_0 kb
  have cb_1 := cel3_1 kb
  have cb_2 := cel3_2 kb
  go_wp2_with fail
  clear cb_0 cb_1 cb_2
  go_fit (S1.out _)
  rintro e w2 ⟨rfl, b1⟩
  have sz := b1.size
  replace ka := ka.below b1
  replace kb := kb.below b1
  replace kc := kc.below b1
  replace bb := Below.after bb b1
  clear b1
  have cc_0 := cel3_0 kc
  have cc_1 := cel3_1 kc
  have cc_2 := cel3_2 kc
  go_wp2_with fail
  clear cc_0 cc_1 cc_2
  go_fit (S2.out _)
  rintro e w3 ⟨rfl, b1⟩
  have sz := b1.size
  replace ka := ka.below b1
  replace kb := kb.below b1
  replace kc := kc.below b1
  replace bb := Below.after bb b1
  clear b1
  have ca_0 := cel3_0 ka
  have ca_1 := cel3_1 ka
  have ca_2 := cel3_2 ka
  have cb_3 := cel3_0 kb
  have cb_4 := cel3_1 kb
  have cb_5 := cel3_2 kb
  go_wp2_with fail
  clear ca_0 ca_1 ca_2 cb_3 cb_4 cb_5
  go_fit (H1.out _ bb)
  rintro e w4 ⟨rfl, b1⟩
  have sz := b1.size
  replace ka := ka.below b1
  replace kb := kb.below b1
  replace kc := kc.below b1
  replace bb := Below.after bb b1
  clear b1
  have ca_0 := cel3_0 ka
  have ca_1 := cel3_1 ka
  have ca_2 := cel3_2 ka
  have cb_3 := cel3_0 kb
  have cb_4 := cel3_1 kb
  have cb_5 := cel3_2 kb
  go_wp2_with fail
  clear ca_0 ca_1 ca_2 cb_3 cb_4 cb_5
  go_fit (H2.out _ bb)
  rintro e w5 ⟨rfl, b1⟩
  have sz := b1.size
  replace ka := ka.below b1
  replace kb := kb.below b1
  replace kc := kc.below b1
  replace bb := Below.after bb b1
  clear b1
  have ca_0 := cel3_0 ka
  have ca_1 := cel3_1 ka
  have ca_2 := cel3_2 ka
  have cc_3 := cel3_0 kc
  have cc_4 := cel3_1 kc
  have cc_5 := cel3_2 kc
  have ca_6 := cel3_0 (ka.alloc (.cells #[.bool dN, .string dS, .string dD] 26))
  have ca_7 := cel3_1 (ka.alloc (.cells #[.bool dN, .string dS, .string dD] 26))
  have ca_8 := cel3_2 (ka.alloc (.cells #[.bool dN, .string dS, .string dD] 26))
  have cc_9 := cel3_0 (kc.alloc (.cells #[.bool dN, .string dS, .string dD] 26))
  have cc_10 := cel3_1 (kc.alloc (.cells #[.bool dN, .string dS, .string dD] 26))
  have cc_11 := cel3_2 (kc.alloc (.cells #[.bool dN, .string dS, .string dD] 26))
  go_wp2_with fail
  clear ca_0 ca_1 ca_2 cc_3 cc_4 cc_5 ca_6 ca_7 ca_8 cc_9 cc_10 cc_11
  go_fit (H3.out _ (ba bb _))
  rintro e w6 ⟨rfl, b1⟩
  obtain ⟨kd, b1⟩ := al1 b1
  have sz := b1.size
  replace ka := ka.below b1
  replace kb := kb.below b1
  replace kc := kc.below b1
  replace bb := Below.after bb b1
  clear b1
  have td := kd.lt
  clear td
  have cb_0 := cel3_0 kb
  have cb_1 := cel3_1 kb
  have cb_2 := cel3_2 kb
  have cc_3 := cel3_0 kc
  have cc_4 := cel3_1 kc
  have cc_5 := cel3_2 kc
  have cb_6 := cel3_0 (kb.alloc (.cells #[.bool pN, .string pS, .string pD] 26))
  have cb_7 := cel3_1 (kb.alloc (.cells #[.bool pN, .string pS, .string pD] 26))
  have cb_8 := cel3_2 (kb.alloc (.cells #[.bool pN, .string pS, .string pD] 26))
  have cc_9 := cel3_0 (kc.alloc (.cells #[.bool pN, .string pS, .string pD] 26))
  have cc_10 := cel3_1 (kc.alloc (.cells #[.bool pN, .string pS, .string pD] 26))
  have cc_11 := cel3_2 (kc.alloc (.cells #[.bool pN, .string pS, .string pD] 26))
  go_wp2_with fail
  clear cb_0 cb_1 cb_2 cc_3 cc_4 cc_5 cb_6 cb_7 cb_8 cc_9 cc_10 cc_11
  go_fit (H4.out _ (ba bb _))
  rintro e w7 ⟨rfl, b1⟩
  obtain ⟨kp, b1⟩ := al1 b1
  have sz := b1.size
  replace ka := ka.below b1
  replace kb := kb.below b1
  replace kc := kc.below b1
  replace kd := kd.below b1
  replace bb := Below.after bb b1
  clear b1
  have tp := kp.lt
  clear tp
  have cc_0 := cel3_0 kc
  have cc_1 := cel3_1 kc
  have cc_2 := cel3_2 kc
  have cc_3 := cel3_0 (kc.alloc (.cells #[.bool qN, .string qS, .string qD] 26))
  have cc_4 := cel3_1 (kc.alloc (.cells #[.bool qN, .string qS, .string qD] 26))
  have cc_5 := cel3_2 (kc.alloc (.cells #[.bool qN, .string qS, .string qD] 26))
  go_wp2_with fail
  clear cc_0 cc_1 cc_2 cc_3 cc_4 cc_5
  go_fit (H5.out _ (ba bb _))
  rintro e w8 ⟨rfl, b1⟩
  obtain ⟨kq, b1⟩ := al1 b1
  have sz := b1.size
  replace ka := ka.below b1
  replace kb := kb.below b1
  replace kc := kc.below b1
  replace kd := kd.below b1
  replace kp := kp.below b1
  replace bb := Below.after bb b1
  clear b1
  have tq := kq.lt
  clear tq
  have cd_0 := cel3_0 kd
  have cd_1 := cel3_1 kd
  have cd_2 := cel3_2 kd
  go_wp2_with fail
  clear cd_0 cd_1 cd_2
  go_fit (H6.out _ bb)
  rintro e w9 ⟨rfl, b1⟩
  have sz := b1.size
  replace ka := ka.below b1
  replace kb := kb.below b1
  replace kc := kc.below b1
  replace kd := kd.below b1
  replace kp := kp.below b1
  replace kq := kq.below b1
  replace bb := Below.after bb b1
  clear b1
  have cp_0 := cel3_0 kp
  have cp_1 := cel3_1 kp
  have cp_2 := cel3_2 kp
  have cq_3 := cel3_0 kq
  have cq_4 := cel3_1 kq
  have cq_5 := cel3_2 kq
  go_wp2_with fail
  clear cp_0 cp_1 cp_2 cq_3 cq_4 cq_5
  go_fit (H7.out _ bb)
  rintro e w10 ⟨rfl, b1⟩
  have sz := b1.size
  replace ka := ka.below b1
  replace kb := kb.below b1
  replace kc := kc.below b1
  replace kd := kd.below b1
  replace kp := kp.below b1
  replace kq := kq.below b1
  replace bb := Below.after bb b1
  clear b1
  go_wp2_with fail
  go_fit (HL.out _ bb)
  rintro e w11 ⟨rfl, b1⟩
  have sz := b1.size
  replace ka := ka.below b1
  replace kb := kb.below b1
  replace kc := kc.below b1
  replace kd := kd.below b1
  replace kp := kp.below b1
  replace kq := kq.below b1
  replace bb := Below.after bb b1
  clear b1
  go_wp2
  go_ret
  exact ⟨rfl, bb⟩
end Go.Proofs.YtlihcbeacjimkaaGreatDoor
