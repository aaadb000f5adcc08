/-
  gussetlaw03.RatField, walked.
-/
import Derived.Test.YtlihcbeacjimkaaGreatDoorG34
namespace Go.Proofs.YtlihcbeacjimkaaGreatDoor
open Go.RowKit Go.Shelf

set_option maxRecDepth 100000 in
set_option maxHeartbeats 8000000 in
theorem field_l0 (n0 n1 n2 : Bool) (s0 d0 s1 d1 s2 d2 : ByteArray) (w : World)
    (HL : Hid (∀ w1, Below w.heap.size w w1 → Calls Tryz.prog 10 #[] w1 fun e w' => e = .returned (.bool true) ∧ Below w1.heap.size w1 w'))
    (S0 : Hid (∀ w1, Calls Tryz.prog 9 #[.agg #[.bool n0, .string s0, .string d0]] w1 fun e w' => e = .returned (.bool false) ∧ Below w1.heap.size w1 w')) :
    Calls Tryz.prog 7 #[.agg #[.bool n0, .string s0, .string d0], .agg #[.bool n1, .string s1, .string d1], .agg #[.bool n2, .string s2, .string d2]] w fun e w' => e = .returned (.bool true) ∧ Below w.heap.size w w' := by
  go_enter Tryz.func7, Tryz.ntmps7
  go_wp2_with fail
  go_fit (S0.out _)
  rintro e w1 ⟨rfl, b1⟩
  obtain ⟨ka, kb, kc, b1⟩ := al3 b1
  have sz := b1.size
  have bb := b1
  clear b1
  have ta := ka.lt
  have tb := kb.lt
  have tc := kc.lt
  clear ta tb tc
  have cb_0 := cel3_0 kb
  have cb_1 := cel3_1 kb
  have cb_2 := cel3_2 kb
  go_wp2_with fail
  clear cb_0 cb_1 cb_2
  go_fit (HL.out _ bb)
  rintro e w2 ⟨rfl, b1⟩
  have sz := b1.size
  replace ka := ka.below b1
  replace kb := kb.below b1
  replace kc := kc.below b1
  replace bb := Below.after bb b1
  clear b1
  go_wp2
  go_ret
  exact ⟨rfl, bb⟩
set_option maxRecDepth 100000 in
set_option maxHeartbeats 8000000 in
theorem field_l1 (n0 n1 n2 : Bool) (s0 d0 s1 d1 s2 d2 : ByteArray) (w : World)
    (HL : Hid (∀ w1, Below w.heap.size w w1 → Calls Tryz.prog 10 #[] w1 fun e w' => e = .returned (.bool true) ∧ Below w1.heap.size w1 w'))
    (S0 : Hid (∀ w1, Calls Tryz.prog 9 #[.agg #[.bool n0, .string s0, .string d0]] w1 fun e w' => e = .returned (.bool true) ∧ Below w1.heap.size w1 w'))
    (S1 : Hid (∀ w1, Calls Tryz.prog 9 #[.agg #[.bool n1, .string s1, .string d1]] w1 fun e w' => e = .returned (.bool false) ∧ Below w1.heap.size w1 w')) :
    Calls Tryz.prog 7 #[.agg #[.bool n0, .string s0, .string d0], .agg #[.bool n1, .string s1, .string d1], .agg #[.bool n2, .string s2, .string d2]] w fun e w' => e = .returned (.bool true) ∧ Below w.heap.size w w' := by
  go_enter Tryz.func7, Tryz.ntmps7
  go_wp2_with fail
  go_fit (S0.out _)
  rintro e w1 ⟨rfl, b1⟩
  obtain ⟨ka, kb, kc, b1⟩ := al3 b1
  have sz := b1.size
  have bb := b1
  clear b1
  have ta := ka.lt
  have tb := kb.lt
  have tc := kc.lt
  clear ta tb tc
  have cb_0 := cel3_0 kb
  have cb_1 := cel3_1 kb
  have cb_2 := cel3_2 kb
  go_wp2_with fail
  clear cb_0 cb_1 cb_2
  go_fit (S1.out _)
  rintro e w2 ⟨rfl, b1⟩
  have sz := b1.size
  replace ka := ka.below b1
  replace kb := kb.below b1
  replace kc := kc.below b1
  replace bb := Below.after bb b1
  clear b1
  have cc_0 := cel3_0 kc
  have cc_1 := cel3_1 kc
  have cc_2 := cel3_2 kc
  go_wp2_with fail
  clear cc_0 cc_1 cc_2
  go_fit (HL.out _ bb)
  rintro e w3 ⟨rfl, b1⟩
  have sz := b1.size
  replace ka := ka.below b1
  replace kb := kb.below b1
  replace kc := kc.below b1
  replace bb := Below.after bb b1
  clear b1
  go_wp2
  go_ret
  exact ⟨rfl, bb⟩
set_option maxRecDepth 100000 in
set_option maxHeartbeats 8000000 in
theorem field_l2 (n0 n1 n2 : Bool) (s0 d0 s1 d1 s2 d2 : ByteArray) (w : World)
    (HL : Hid (∀ w1, Below w.heap.size w w1 → Calls Tryz.prog 10 #[] w1 fun e w' => e = .returned (.bool true) ∧ Below w1.heap.size w1 w'))
    (S0 : Hid (∀ w1, Calls Tryz.prog 9 #[.agg #[.bool n0, .string s0, .string d0]] w1 fun e w' => e = .returned (.bool true) ∧ Below w1.heap.size w1 w'))
    (S1 : Hid (∀ w1, Calls Tryz.prog 9 #[.agg #[.bool n1, .string s1, .string d1]] w1 fun e w' => e = .returned (.bool true) ∧ Below w1.heap.size w1 w'))
    (S2 : Hid (∀ w1, Calls Tryz.prog 9 #[.agg #[.bool n2, .string s2, .string d2]] w1 fun e w' => e = .returned (.bool false) ∧ Below w1.heap.size w1 w')) :
    Calls Tryz.prog 7 #[.agg #[.bool n0, .string s0, .string d0], .agg #[.bool n1, .string s1, .string d1], .agg #[.bool n2, .string s2, .string d2]] w fun e w' => e = .returned (.bool true) ∧ Below w.heap.size w w' := by
  go_enter Tryz.func7, Tryz.ntmps7
  go_wp2_with fail
  go_fit (S0.out _)
  rintro e w1 ⟨rfl, b1⟩
  obtain ⟨ka, kb, kc, b1⟩ := al3 b1
  have sz := b1.size
  have bb := b1
  clear b1
  have ta := ka.lt
  have tb := kb.lt
  have tc := kc.lt
  clear ta tb tc
  have cb_0 := cel3_0 kb
  have cb_1 := cel3_1 kb
  have cb_2 := cel3_2 kb
  go_wp2_with fail
  clear cb_0 cb_1 cb_2
  go_fit (S1.out _)
  rintro e w2 ⟨rfl, b1⟩
  have sz := b1.size
  replace ka := ka.below b1
  replace kb := kb.below b1
  replace kc := kc.below b1
  replace bb := Below.after bb b1
  clear b1
  have cc_0 := cel3_0 kc
  have cc_1 := cel3_1 kc
  have cc_2 := cel3_2 kc
  go_wp2_with fail
  clear cc_0 cc_1 cc_2
  go_fit (S2.out _)
  rintro e w3 ⟨rfl, b1⟩
  have sz := b1.size
  replace ka := ka.below b1
  replace kb := kb.below b1
  replace kc := kc.below b1
  replace bb := Below.after bb b1
  clear b1
  have cc_0 := cel3_0 kc
  have cc_1 := cel3_1 kc
  have cc_2 := cel3_2 kc
  go_wp2_with fail
  clear cc_0 cc_1 cc_2
  go_fit (HL.out _ bb)
  rintro e w4 ⟨rfl, b1⟩
  have sz := b1.size
  replace ka := ka.below b1
  replace kb := kb.below b1
  replace kc := kc.below b1
  replace bb := Below.after bb b1
  clear b1
  go_wp2
  go_ret
  exact ⟨rfl, bb⟩
set_option maxRecDepth 100000 in
set_option maxHeartbeats 8000000 in
theorem field_bad1 (n0 n1 n2 sN tN pN xN yN zN : Bool) (s0 d0 s1 d1 s2 d2 sS sD tS tD pS pD xS xD yS yD zS zD : ByteArray) (E1 E2 E3 E4 E5 E6 : Int) (h1 : ¬ E1 = 0) (w : World)
    (HL : Hid (∀ w1, Below w.heap.size w w1 → Calls Tryz.prog 10 #[] w1 fun e w' => e = .returned (.bool true) ∧ Below w1.heap.size w1 w'))
    (S0 : Hid (∀ w1, Calls Tryz.prog 9 #[.agg #[.bool n0, .string s0, .string d0]] w1 fun e w' => e = .returned (.bool true) ∧ Below w1.heap.size w1 w'))
    (S1 : Hid (∀ w1, Calls Tryz.prog 9 #[.agg #[.bool n1, .string s1, .string d1]] w1 fun e w' => e = .returned (.bool true) ∧ Below w1.heap.size w1 w'))
    (S2 : Hid (∀ w1, Calls Tryz.prog 9 #[.agg #[.bool n2, .string s2, .string d2]] w1 fun e w' => e = .returned (.bool true) ∧ Below w1.heap.size w1 w'))
    (H1 : Hid (∀ w1, Below w.heap.size w w1 → Calls Tryz.prog 13 #[.agg #[.bool n0, .string s0, .string d0], .agg #[.bool n1, .string s1, .string d1]] w1 fun e w' => e = .returned (.tuple #[.agg #[.bool sN, .string sS, .string sD], .int .i64 E1]) ∧ Below w1.heap.size w1 w'))
    (H2 : Hid (∀ w1, Below w.heap.size w w1 → Calls Tryz.prog 13 #[.agg #[.bool n1, .string s1, .string d1], .agg #[.bool n0, .string s0, .string d0]] w1 fun e w' => e = .returned (.tuple #[.agg #[.bool tN, .string tS, .string tD], .int .i64 E2]) ∧ Below w1.heap.size w1 w'))
    (H3 : Hid (∀ w1, Below w.heap.size w w1 → Calls Tryz.prog 15 #[.agg #[.bool sN, .string sS, .string sD], .agg #[.bool n2, .string s2, .string d2]] w1 fun e w' => e = .returned (.tuple #[.agg #[.bool pN, .string pS, .string pD], .int .i64 E3]) ∧ Below w1.heap.size w1 w'))
    (H4 : Hid (∀ w1, Below w.heap.size w w1 → Calls Tryz.prog 15 #[.agg #[.bool n0, .string s0, .string d0], .agg #[.bool n2, .string s2, .string d2]] w1 fun e w' => e = .returned (.tuple #[.agg #[.bool xN, .string xS, .string xD], .int .i64 E4]) ∧ Below w1.heap.size w1 w'))
    (H5 : Hid (∀ w1, Below w.heap.size w w1 → Calls Tryz.prog 15 #[.agg #[.bool n1, .string s1, .string d1], .agg #[.bool n2, .string s2, .string d2]] w1 fun e w' => e = .returned (.tuple #[.agg #[.bool yN, .string yS, .string yD], .int .i64 E5]) ∧ Below w1.heap.size w1 w'))
    (H6 : Hid (∀ w1, Below w.heap.size w w1 → Calls Tryz.prog 13 #[.agg #[.bool xN, .string xS, .string xD], .agg #[.bool yN, .string yS, .string yD]] w1 fun e w' => e = .returned (.tuple #[.agg #[.bool zN, .string zS, .string zD], .int .i64 E6]) ∧ Below w1.heap.size w1 w')) :
    Calls Tryz.prog 7 #[.agg #[.bool n0, .string s0, .string d0], .agg #[.bool n1, .string s1, .string d1], .agg #[.bool n2, .string s2, .string d2]] w fun e w' => e = .returned (.bool true) ∧ Below w.heap.size w w' := by
  go_enter Tryz.func7, Tryz.ntmps7
  go_wp2_with fail
  go_fit (S0.out _)
  rintro e w1 ⟨rfl, b1⟩
  obtain ⟨ka, kb, kc, b1⟩ := al3 b1
  have sz := b1.size
  have bb := b1
  clear b1
  have ta := ka.lt
  have tb := kb.lt
  have tc := kc.lt
  clear ta tb tc
  have cb_0 := cel3_0 kb
  have cb_1 := cel3_1 kb
  have cb_2 := cel3_2 kb
  go_wp2_with fail
  clear cb_0 cb_1 cb_2
  go_fit (S1.out _)
  rintro e w2 ⟨rfl, b1⟩
  have sz := b1.size
  replace ka := ka.below b1
  replace kb := kb.below b1
  replace kc := kc.below b1
  replace bb := Below.after bb b1
  clear b1
  have cc_0 := cel3_0 kc
  have cc_1 := cel3_1 kc
  have cc_2 := cel3_2 kc
  go_wp2_with fail
  clear cc_0 cc_1 cc_2
  go_fit (S2.out _)
  rintro e w3 ⟨rfl, b1⟩
  have sz := b1.size
  replace ka := ka.below b1
  replace kb := kb.below b1
  replace kc := kc.below b1
  replace bb := Below.after bb b1
  clear b1
  have ca_0 := cel3_0 ka
  have ca_1 := cel3_1 ka
  have ca_2 := cel3_2 ka
  have cb_3 := cel3_0 kb
  have cb_4 := cel3_1 kb
  have cb_5 := cel3_2 kb
  go_wp2_with fail
  clear ca_0 ca_1 ca_2 cb_3 cb_4 cb_5
  go_fit (H1.out _ bb)
  rintro e w4 ⟨rfl, b1⟩
  have sz := b1.size
  replace ka := ka.below b1
  replace kb := kb.below b1
  replace kc := kc.below b1
  replace bb := Below.after bb b1
  clear b1
  have ca_0 := cel3_0 ka
  have ca_1 := cel3_1 ka
  have ca_2 := cel3_2 ka
  have cb_3 := cel3_0 kb
  have cb_4 := cel3_1 kb
  have cb_5 := cel3_2 kb
  have ca_6 := cel3_0 (ka.alloc (.cells #[.bool sN, .string sS, .string sD] 26))
  have ca_7 := cel3_1 (ka.alloc (.cells #[.bool sN, .string sS, .string sD] 26))
  have ca_8 := cel3_2 (ka.alloc (.cells #[.bool sN, .string sS, .string sD] 26))
  have cb_9 := cel3_0 (kb.alloc (.cells #[.bool sN, .string sS, .string sD] 26))
  have cb_10 := cel3_1 (kb.alloc (.cells #[.bool sN, .string sS, .string sD] 26))
  have cb_11 := cel3_2 (kb.alloc (.cells #[.bool sN, .string sS, .string sD] 26))
  go_wp2_with fail
  clear ca_0 ca_1 ca_2 cb_3 cb_4 cb_5 ca_6 ca_7 ca_8 cb_9 cb_10 cb_11
  go_fit (H2.out _ (ba bb _))
  rintro e w5 ⟨rfl, b1⟩
  obtain ⟨ks, b1⟩ := al1 b1
  have sz := b1.size
  replace ka := ka.below b1
  replace kb := kb.below b1
  replace kc := kc.below b1
  replace bb := Below.after bb b1
  clear b1
  have ts := ks.lt
  clear ts
  have cs_0 := cel3_0 ks
  have cs_1 := cel3_1 ks
  have cs_2 := cel3_2 ks
  have cc_3 := cel3_0 kc
  have cc_4 := cel3_1 kc
  have cc_5 := cel3_2 kc
  have cs_6 := cel3_0 (ks.alloc (.cells #[.bool tN, .string tS, .string tD] 26))
  have cs_7 := cel3_1 (ks.alloc (.cells #[.bool tN, .string tS, .string tD] 26))
  have cs_8 := cel3_2 (ks.alloc (.cells #[.bool tN, .string tS, .string tD] 26))
  have cc_9 := cel3_0 (kc.alloc (.cells #[.bool tN, .string tS, .string tD] 26))
  have cc_10 := cel3_1 (kc.alloc (.cells #[.bool tN, .string tS, .string tD] 26))
  have cc_11 := cel3_2 (kc.alloc (.cells #[.bool tN, .string tS, .string tD] 26))
  go_wp2_with fail
  clear cs_0 cs_1 cs_2 cc_3 cc_4 cc_5 cs_6 cs_7 cs_8 cc_9 cc_10 cc_11
  go_fit (H3.out _ (ba bb _))
  rintro e w6 ⟨rfl, b1⟩
  obtain ⟨kt, b1⟩ := al1 b1
  have sz := b1.size
  replace ka := ka.below b1
  replace kb := kb.below b1
  replace kc := kc.below b1
  replace ks := ks.below b1
  replace bb := Below.after bb b1
  clear b1
  have tt := kt.lt
  clear tt
  have ca_0 := cel3_0 ka
  have ca_1 := cel3_1 ka
  have ca_2 := cel3_2 ka
  have cc_3 := cel3_0 kc
  have cc_4 := cel3_1 kc
  have cc_5 := cel3_2 kc
  have ca_6 := cel3_0 (ka.alloc (.cells #[.bool pN, .string pS, .string pD] 26))
  have ca_7 := cel3_1 (ka.alloc (.cells #[.bool pN, .string pS, .string pD] 26))
  have ca_8 := cel3_2 (ka.alloc (.cells #[.bool pN, .string pS, .string pD] 26))
  have cc_9 := cel3_0 (kc.alloc (.cells #[.bool pN, .string pS, .string pD] 26))
  have cc_10 := cel3_1 (kc.alloc (.cells #[.bool pN, .string pS, .string pD] 26))
  have cc_11 := cel3_2 (kc.alloc (.cells #[.bool pN, .string pS, .string pD] 26))
  go_wp2_with fail
  clear ca_0 ca_1 ca_2 cc_3 cc_4 cc_5 ca_6 ca_7 ca_8 cc_9 cc_10 cc_11
  go_fit (H4.out _ (ba bb _))
  rintro e w7 ⟨rfl, b1⟩
  obtain ⟨kp, b1⟩ := al1 b1
  have sz := b1.size
  replace ka := ka.below b1
  replace kb := kb.below b1
  replace kc := kc.below b1
  replace ks := ks.below b1
  replace kt := kt.below b1
  replace bb := Below.after bb b1
  clear b1
  have tp := kp.lt
  clear tp
  have cb_0 := cel3_0 kb
  have cb_1 := cel3_1 kb
  have cb_2 := cel3_2 kb
  have cc_3 := cel3_0 kc
  have cc_4 := cel3_1 kc
  have cc_5 := cel3_2 kc
  have cb_6 := cel3_0 (kb.alloc (.cells #[.bool xN, .string xS, .string xD] 26))
  have cb_7 := cel3_1 (kb.alloc (.cells #[.bool xN, .string xS, .string xD] 26))
  have cb_8 := cel3_2 (kb.alloc (.cells #[.bool xN, .string xS, .string xD] 26))
  have cc_9 := cel3_0 (kc.alloc (.cells #[.bool xN, .string xS, .string xD] 26))
  have cc_10 := cel3_1 (kc.alloc (.cells #[.bool xN, .string xS, .string xD] 26))
  have cc_11 := cel3_2 (kc.alloc (.cells #[.bool xN, .string xS, .string xD] 26))
  go_wp2_with fail
  clear cb_0 cb_1 cb_2 cc_3 cc_4 cc_5 cb_6 cb_7 cb_8 cc_9 cc_10 cc_11
  go_fit (H5.out _ (ba bb _))
  rintro e w8 ⟨rfl, b1⟩
  obtain ⟨kx, b1⟩ := al1 b1
  have sz := b1.size
  replace ka := ka.below b1
  replace kb := kb.below b1
  replace kc := kc.below b1
  replace ks := ks.below b1
  replace kt := kt.below b1
  replace kp := kp.below b1
  replace bb := Below.after bb b1
  clear b1
  have tx := kx.lt
  clear tx
  have cx_0 := cel3_0 kx
  have cx_1 := cel3_1 kx
  have cx_2 := cel3_2 kx
  have cx_3 := cel3_0 (kx.alloc (.cells #[.bool yN, .string yS, .string yD] 26))
  have cx_4 := cel3_1 (kx.alloc (.cells #[.bool yN, .string yS, .string yD] 26))
  have cx_5 := cel3_2 (kx.alloc (.cells #[.bool yN, .string yS, .string yD] 26))
  go_wp2_with fail
  clear cx_0 cx_1 cx_2 cx_3 cx_4 cx_5
  go_fit (H6.out _ (ba bb _))
  rintro e w9 ⟨rfl, b1⟩
  obtain ⟨ky, b1⟩ := al1 b1
  have sz := b1.size
  replace ka := ka.below b1
  replace kb := kb.below b1
  replace kc := kc.below b1
  replace ks := ks.below b1
  replace kt := kt.below b1
  replace kp := kp.below b1
  replace kx := kx.below b1
  replace bb := Below.after bb b1
  clear b1
  have ty := ky.lt
  clear ty
  go_wp2_with fail
  go_fit (HL.out _ (ba bb _))
  rintro e w10 ⟨rfl, b1⟩
  obtain ⟨kz, b1⟩ := al1 b1
  have sz := b1.size
  replace ka := ka.below b1
  replace kb := kb.below b1
  replace kc := kc.below b1
  replace ks := ks.below b1
  replace kt := kt.below b1
  replace kp := kp.below b1
  replace kx := kx.below b1
  replace ky := ky.below b1
  replace bb := Below.after bb b1
  clear b1
  have tz := kz.lt
  clear tz
  go_wp2
  go_ret
  exact ⟨rfl, bb⟩
set_option maxRecDepth 100000 in
set_option maxHeartbeats 8000000 in
theorem field_bad3 (n0 n1 n2 sN tN pN xN yN zN : Bool) (s0 d0 s1 d1 s2 d2 sS sD tS tD pS pD xS xD yS yD zS zD : ByteArray) (E3 E4 E5 E6 : Int) (h1 : ¬ E3 = 0) (w : World)
    (HL : Hid (∀ w1, Below w.heap.size w w1 → Calls Tryz.prog 10 #[] w1 fun e w' => e = .returned (.bool true) ∧ Below w1.heap.size w1 w'))
    (S0 : Hid (∀ w1, Calls Tryz.prog 9 #[.agg #[.bool n0, .string s0, .string d0]] w1 fun e w' => e = .returned (.bool true) ∧ Below w1.heap.size w1 w'))
    (S1 : Hid (∀ w1, Calls Tryz.prog 9 #[.agg #[.bool n1, .string s1, .string d1]] w1 fun e w' => e = .returned (.bool true) ∧ Below w1.heap.size w1 w'))
    (S2 : Hid (∀ w1, Calls Tryz.prog 9 #[.agg #[.bool n2, .string s2, .string d2]] w1 fun e w' => e = .returned (.bool true) ∧ Below w1.heap.size w1 w'))
    (H1 : Hid (∀ w1, Below w.heap.size w w1 → Calls Tryz.prog 13 #[.agg #[.bool n0, .string s0, .string d0], .agg #[.bool n1, .string s1, .string d1]] w1 fun e w' => e = .returned (.tuple #[.agg #[.bool sN, .string sS, .string sD], .int .i64 0]) ∧ Below w1.heap.size w1 w'))
    (H2 : Hid (∀ w1, Below w.heap.size w w1 → Calls Tryz.prog 13 #[.agg #[.bool n1, .string s1, .string d1], .agg #[.bool n0, .string s0, .string d0]] w1 fun e w' => e = .returned (.tuple #[.agg #[.bool tN, .string tS, .string tD], .int .i64 0]) ∧ Below w1.heap.size w1 w'))
    (H3 : Hid (∀ w1, Below w.heap.size w w1 → Calls Tryz.prog 15 #[.agg #[.bool sN, .string sS, .string sD], .agg #[.bool n2, .string s2, .string d2]] w1 fun e w' => e = .returned (.tuple #[.agg #[.bool pN, .string pS, .string pD], .int .i64 E3]) ∧ Below w1.heap.size w1 w'))
    (H4 : Hid (∀ w1, Below w.heap.size w w1 → Calls Tryz.prog 15 #[.agg #[.bool n0, .string s0, .string d0], .agg #[.bool n2, .string s2, .string d2]] w1 fun e w' => e = .returned (.tuple #[.agg #[.bool xN, .string xS, .string xD], .int .i64 E4]) ∧ Below w1.heap.size w1 w'))
    (H5 : Hid (∀ w1, Below w.heap.size w w1 → Calls Tryz.prog 15 #[.agg #[.bool n1, .string s1, .string d1], .agg #[.bool n2, .string s2, .string d2]] w1 fun e w' => e = .returned (.tuple #[.agg #[.bool yN, .string yS, .string yD], .int .i64 E5]) ∧ Below w1.heap.size w1 w'))
    (H6 : Hid (∀ w1, Below w.heap.size w w1 → Calls Tryz.prog 13 #[.agg #[.bool xN, .string xS, .string xD], .agg #[.bool yN, .string yS, .string yD]] w1 fun e w' => e = .returned (.tuple #[.agg #[.bool zN, .string zS, .string zD], .int .i64 E6]) ∧ Below w1.heap.size w1 w')) :
    Calls Tryz.prog 7 #[.agg #[.bool n0, .string s0, .string d0], .agg #[.bool n1, .string s1, .string d1], .agg #[.bool n2, .string s2, .string d2]] w fun e w' => e = .returned (.bool true) ∧ Below w.heap.size w w' := by
  go_enter Tryz.func7, Tryz.ntmps7
  go_wp2_with fail
  go_fit (S0.out _)
  rintro e w1 ⟨rfl, b1⟩
  obtain ⟨ka, kb, kc, b1⟩ := al3 b1
  have sz := b1.size
  have bb := b1
  clear b1
  have ta := ka.lt
  have tb := kb.lt
  have tc := kc.lt
  clear ta tb tc
  have cb_0 := cel3_0 kb
  have cb_1 := cel3_1 kb
  have cb_2 := cel3_2 kb
  go_wp2_with fail
  clear cb_0 cb_1 cb_2
  go_fit (S1.out _)
  rintro e w2 ⟨rfl, b1⟩
  have sz := b1.size
  replace ka := ka.below b1
  replace kb := kb.below b1
  replace kc := kc.below b1
  replace bb := Below.after bb b1
  clear b1
  have cc_0 := cel3_0 kc
  have cc_1 := cel3_1 kc
  have cc_2 := cel3_2 kc
  go_wp2_with fail
  clear cc_0 cc_1 cc_2
  go_fit (S2.out _)
  rintro e w3 ⟨rfl, b1⟩
  have sz := b1.size
  replace ka := ka.below b1
  replace kb := kb.below b1
  replace kc := kc.below b1
  replace bb := Below.after bb b1
  clear b1
  have ca_0 := cel3_0 ka
  have ca_1 := cel3_1 ka
  have ca_2 := cel3_2 ka
  have cb_3 := cel3_0 kb
  have cb_4 := cel3_1 kb
  have cb_5 := cel3_2 kb
  go_wp2_with fail
  clear ca_0 ca_1 ca_2 cb_3 cb_4 cb_5
  go_fit (H1.out _ bb)
  rintro e w4 ⟨rfl, b1⟩
  have sz := b1.size
  replace ka := ka.below b1
  replace kb := kb.below b1
  replace kc := kc.below b1
  replace bb := Below.after bb b1
  clear b1
  have ca_0 := cel3_0 ka
  have ca_1 := cel3_1 ka
  have ca_2 := cel3_2 ka
  have cb_3 := cel3_0 kb
  have cb_4 := cel3_1 kb
  have cb_5 := cel3_2 kb
  have ca_6 := cel3_0 (ka.alloc (.cells #[.bool sN, .string sS, .string sD] 26))
  have ca_7 := cel3_1 (ka.alloc (.cells #[.bool sN, .string sS, .string sD] 26))
  have ca_8 := cel3_2 (ka.alloc (.cells #[.bool sN, .string sS, .string sD] 26))
  have cb_9 := cel3_0 (kb.alloc (.cells #[.bool sN, .string sS, .string sD] 26))
  have cb_10 := cel3_1 (kb.alloc (.cells #[.bool sN, .string sS, .string sD] 26))
  have cb_11 := cel3_2 (kb.alloc (.cells #[.bool sN, .string sS, .string sD] 26))
  go_wp2_with fail
  clear ca_0 ca_1 ca_2 cb_3 cb_4 cb_5 ca_6 ca_7 ca_8 cb_9 cb_10 cb_11
  go_fit (H2.out _ (ba bb _))
  rintro e w5 ⟨rfl, b1⟩
  obtain ⟨ks, b1⟩ := al1 b1
  have sz := b1.size
  replace ka := ka.below b1
  replace kb := kb.below b1
  replace kc := kc.below b1
  replace bb := Below.after bb b1
  clear b1
  have ts := ks.lt
  clear ts
  have cs_0 := cel3_0 ks
  have cs_1 := cel3_1 ks
  have cs_2 := cel3_2 ks
  have cc_3 := cel3_0 kc
  have cc_4 := cel3_1 kc
  have cc_5 := cel3_2 kc
  have cs_6 := cel3_0 (ks.alloc (.cells #[.bool tN, .string tS, .string tD] 26))
  have cs_7 := cel3_1 (ks.alloc (.cells #[.bool tN, .string tS, .string tD] 26))
  have cs_8 := cel3_2 (ks.alloc (.cells #[.bool tN, .string tS, .string tD] 26))
  have cc_9 := cel3_0 (kc.alloc (.cells #[.bool tN, .string tS, .string tD] 26))
  have cc_10 := cel3_1 (kc.alloc (.cells #[.bool tN, .string tS, .string tD] 26))
  have cc_11 := cel3_2 (kc.alloc (.cells #[.bool tN, .string tS, .string tD] 26))
  go_wp2_with fail
  clear cs_0 cs_1 cs_2 cc_3 cc_4 cc_5 cs_6 cs_7 cs_8 cc_9 cc_10 cc_11
  go_fit (H3.out _ (ba bb _))
  rintro e w6 ⟨rfl, b1⟩
  obtain ⟨kt, b1⟩ := al1 b1
  have sz := b1.size
  replace ka := ka.below b1
  replace kb := kb.below b1
  replace kc := kc.below b1
  replace ks := ks.below b1
  replace bb := Below.after bb b1
  clear b1
  have tt := kt.lt
  clear tt
  have ca_0 := cel3_0 ka
  have ca_1 := cel3_1 ka
  have ca_2 := cel3_2 ka
  have cc_3 := cel3_0 kc
  have cc_4 := cel3_1 kc
  have cc_5 := cel3_2 kc
  have ca_6 := cel3_0 (ka.alloc (.cells #[.bool pN, .string pS, .string pD] 26))
  have ca_7 := cel3_1 (ka.alloc (.cells #[.bool pN, .string pS, .string pD] 26))
  have ca_8 := cel3_2 (ka.alloc (.cells #[.bool pN, .string pS, .string pD] 26))
  have cc_9 := cel3_0 (kc.alloc (.cells #[.bool pN, .string pS, .string pD] 26))
  have cc_10 := cel3_1 (kc.alloc (.cells #[.bool pN, .string pS, .string pD] 26))
  have cc_11 := cel3_2 (kc.alloc (.cells #[.bool pN, .string pS, .string pD] 26))
  go_wp2_with fail
  clear ca_0 ca_1 ca_2 cc_3 cc_4 cc_5 ca_6 ca_7 ca_8 cc_9 cc_10 cc_11
  go_fit (H4.out _ (ba bb _))
  rintro e w7 ⟨rfl, b1⟩
  obtain ⟨kp, b1⟩ := al1 b1
  have sz := b1.size
  replace ka := ka.below b1
  replace kb := kb.below b1
  replace kc := kc.below b1
  replace ks := ks.below b1
  replace kt := kt.below b1
  replace bb := Below.after bb b1
  clear b1
  have tp := kp.lt
  clear tp
  have cb_0 := cel3_0 kb
  have cb_1 := cel3_1 kb
  have cb_2 := cel3_2 kb
  have cc_3 := cel3_0 kc
  have cc_4 := cel3_1 kc
  have cc_5 := cel3_2 kc
  have cb_6 := cel3_0 (kb.alloc (.cells #[.bool xN, .string xS, .string xD] 26))
  have cb_7 := cel3_1 (kb.alloc (.cells #[.bool xN, .string xS, .string xD] 26))
  have cb_8 := cel3_2 (kb.alloc (.cells #[.bool xN, .string xS, .string xD] 26))
  have cc_9 := cel3_0 (kc.alloc (.cells #[.bool xN, .string xS, .string xD] 26))
  have cc_10 := cel3_1 (kc.alloc (.cells #[.bool xN, .string xS, .string xD] 26))
  have cc_11 := cel3_2 (kc.alloc (.cells #[.bool xN, .string xS, .string xD] 26))
  go_wp2_with fail
  clear cb_0 cb_1 cb_2 cc_3 cc_4 cc_5 cb_6 cb_7 cb_8 cc_9 cc_10 cc_11
  go_fit (H5.out _ (ba bb _))
  rintro e w8 ⟨rfl, b1⟩
  obtain ⟨kx, b1⟩ := al1 b1
  have sz := b1.size
  replace ka := ka.below b1
  replace kb := kb.below b1
  replace kc := kc.below b1
  replace ks := ks.below b1
  replace kt := kt.below b1
  replace kp := kp.below b1
  replace bb := Below.after bb b1
  clear b1
  have tx := kx.lt
  clear tx
  have cx_0 := cel3_0 kx
  have cx_1 := cel3_1 kx
  have cx_2 := cel3_2 kx
  have cx_3 := cel3_0 (kx.alloc (.cells #[.bool yN, .string yS, .string yD] 26))
  have cx_4 := cel3_1 (kx.alloc (.cells #[.bool yN, .string yS, .string yD] 26))
  have cx_5 := cel3_2 (kx.alloc (.cells #[.bool yN, .string yS, .string yD] 26))
  go_wp2_with fail
  clear cx_0 cx_1 cx_2 cx_3 cx_4 cx_5
  go_fit (H6.out _ (ba bb _))
  rintro e w9 ⟨rfl, b1⟩
  obtain ⟨ky, b1⟩ := al1 b1
  have sz := b1.size
  replace ka := ka.below b1
  replace kb := kb.below b1
  replace kc := kc.below b1
  replace ks := ks.below b1
  replace kt := kt.below b1
  replace kp := kp.below b1
  replace kx := kx.below b1
  replace bb := Below.after bb b1
  clear b1
  have ty := ky.lt
  clear ty
  go_wp2_with fail
  go_fit (HL.out _ (ba bb _))
  rintro e w10 ⟨rfl, b1⟩
  obtain ⟨kz, b1⟩ := al1 b1
  have sz := b1.size
  replace ka := ka.below b1
  replace kb := kb.below b1
  replace kc := kc.below b1
  replace ks := ks.below b1
  replace kt := kt.below b1
  replace kp := kp.below b1
  replace kx := kx.below b1
  replace ky := ky.below b1
  replace bb := Below.after bb b1
  clear b1
  have tz := kz.lt
  clear tz
  go_wp2
  go_ret
  exact ⟨rfl, bb⟩
set_option maxRecDepth 100000 in
set_option maxHeartbeats 8000000 in
theorem field_zero (n0 n1 n2 sN pN xN yN qN : Bool) (s0 d0 s1 d1 s2 d2 sS sD pS pD xS xD yS yD qS qD : ByteArray) (w : World)
    (HL : Hid (∀ w1, Below w.heap.size w w1 → Calls Tryz.prog 10 #[] w1 fun e w' => e = .returned (.bool true) ∧ Below w1.heap.size w1 w'))
    (S0 : Hid (∀ w1, Calls Tryz.prog 9 #[.agg #[.bool n0, .string s0, .string d0]] w1 fun e w' => e = .returned (.bool true) ∧ Below w1.heap.size w1 w'))
    (S1 : Hid (∀ w1, Calls Tryz.prog 9 #[.agg #[.bool n1, .string s1, .string d1]] w1 fun e w' => e = .returned (.bool true) ∧ Below w1.heap.size w1 w'))
    (S2 : Hid (∀ w1, Calls Tryz.prog 9 #[.agg #[.bool n2, .string s2, .string d2]] w1 fun e w' => e = .returned (.bool true) ∧ Below w1.heap.size w1 w'))
    (H1 : Hid (∀ w1, Below w.heap.size w w1 → Calls Tryz.prog 13 #[.agg #[.bool n0, .string s0, .string d0], .agg #[.bool n1, .string s1, .string d1]] w1 fun e w' => e = .returned (.tuple #[.agg #[.bool sN, .string sS, .string sD], .int .i64 0]) ∧ Below w1.heap.size w1 w'))
    (H2 : Hid (∀ w1, Below w.heap.size w w1 → Calls Tryz.prog 13 #[.agg #[.bool n1, .string s1, .string d1], .agg #[.bool n0, .string s0, .string d0]] w1 fun e w' => e = .returned (.tuple #[.agg #[.bool sN, .string sS, .string sD], .int .i64 0]) ∧ Below w1.heap.size w1 w'))
    (H3 : Hid (∀ w1, Below w.heap.size w w1 → Calls Tryz.prog 15 #[.agg #[.bool sN, .string sS, .string sD], .agg #[.bool n2, .string s2, .string d2]] w1 fun e w' => e = .returned (.tuple #[.agg #[.bool pN, .string pS, .string pD], .int .i64 0]) ∧ Below w1.heap.size w1 w'))
    (H4 : Hid (∀ w1, Below w.heap.size w w1 → Calls Tryz.prog 15 #[.agg #[.bool n0, .string s0, .string d0], .agg #[.bool n2, .string s2, .string d2]] w1 fun e w' => e = .returned (.tuple #[.agg #[.bool xN, .string xS, .string xD], .int .i64 0]) ∧ Below w1.heap.size w1 w'))
    (H5 : Hid (∀ w1, Below w.heap.size w w1 → Calls Tryz.prog 15 #[.agg #[.bool n1, .string s1, .string d1], .agg #[.bool n2, .string s2, .string d2]] w1 fun e w' => e = .returned (.tuple #[.agg #[.bool yN, .string yS, .string yD], .int .i64 0]) ∧ Below w1.heap.size w1 w'))
    (H6 : Hid (∀ w1, Below w.heap.size w w1 → Calls Tryz.prog 13 #[.agg #[.bool xN, .string xS, .string xD], .agg #[.bool yN, .string yS, .string yD]] w1 fun e w' => e = .returned (.tuple #[.agg #[.bool pN, .string pS, .string pD], .int .i64 0]) ∧ Below w1.heap.size w1 w'))
    (H7 : Hid (∀ w1, Below w.heap.size w w1 → Calls Tryz.prog 16 #[.agg #[.bool n0, .string s0, .string d0], .agg #[.bool n1, .string s1, .string d1]] w1 fun e w' => e = .returned (.tuple #[.agg #[.bool qN, .string qS, .string qD], .int .i64 3]) ∧ Below w1.heap.size w1 w')) :
    Calls Tryz.prog 7 #[.agg #[.bool n0, .string s0, .string d0], .agg #[.bool n1, .string s1, .string d1], .agg #[.bool n2, .string s2, .string d2]] w fun e w' => e = .returned (.bool true) ∧ Below w.heap.size w w' := by
  go_enter Tryz.func7, Tryz.ntmps7
  go_wp2_with fail
  go_fit (S0.out _)
  rintro e w1 ⟨rfl, b1⟩
  obtain ⟨ka, kb, kc, b1⟩ := al3 b1
  have sz := b1.size
  have bb := b1
  clear b1
  have ta := ka.lt
  have tb := kb.lt
  have tc := kc.lt
  clear ta tb tc
  have cb_0 := cel3_0 kb
  have cb_1 := cel3_1 kb
  have cb_2 := cel3_2 kb
  go_wp2_with fail
  clear cb_0 cb_1 cb_2
  go_fit (S1.out _)
  rintro e w2 ⟨rfl, b1⟩
  have sz := b1.size
  replace ka := ka.below b1
  replace kb := kb.below b1
  replace kc := kc.below b1
  replace bb := Below.after bb b1
  clear b1
  have cc_0 := cel3_0 kc
  have cc_1 := cel3_1 kc
  have cc_2 := cel3_2 kc
  go_wp2_with fail
  clear cc_0 cc_1 cc_2
  go_fit (S2.out _)
  rintro e w3 ⟨rfl, b1⟩
  have sz := b1.size
  replace ka := ka.below b1
  replace kb := kb.below b1
  replace kc := kc.below b1
  replace bb := Below.after bb b1
  clear b1
  have ca_0 := cel3_0 ka
  have ca_1 := cel3_1 ka
  have ca_2 := cel3_2 ka
  have cb_3 := cel3_0 kb
  have cb_4 := cel3_1 kb
  have cb_5 := cel3_2 kb
  go_wp2_with fail
  clear ca_0 ca_1 ca_2 cb_3 cb_4 cb_5
  go_fit (H1.out _ bb)
  rintro e w4 ⟨rfl, b1⟩
  have sz := b1.size
  replace ka := ka.below b1
  replace kb := kb.below b1
  replace kc := kc.below b1
  replace bb := Below.after bb b1
  clear b1
  have ca_0 := cel3_0 ka
  have ca_1 := cel3_1 ka
  have ca_2 := cel3_2 ka
  have cb_3 := cel3_0 kb
  have cb_4 := cel3_1 kb
  have cb_5 := cel3_2 kb
  have ca_6 := cel3_0 (ka.alloc (.cells #[.bool sN, .string sS, .string sD] 26))
  have ca_7 := cel3_1 (ka.alloc (.cells #[.bool sN, .string sS, .string sD] 26))
  have ca_8 := cel3_2 (ka.alloc (.cells #[.bool sN, .string sS, .string sD] 26))
  have cb_9 := cel3_0 (kb.alloc (.cells #[.bool sN, .string sS, .string sD] 26))
  have cb_10 := cel3_1 (kb.alloc (.cells #[.bool sN, .string sS, .string sD] 26))
  have cb_11 := cel3_2 (kb.alloc (.cells #[.bool sN, .string sS, .string sD] 26))
  go_wp2_with fail
  clear ca_0 ca_1 ca_2 cb_3 cb_4 cb_5 ca_6 ca_7 ca_8 cb_9 cb_10 cb_11
  go_fit (H2.out _ (ba bb _))
  rintro e w5 ⟨rfl, b1⟩
  obtain ⟨ks, b1⟩ := al1 b1
  have sz := b1.size
  replace ka := ka.below b1
  replace kb := kb.below b1
  replace kc := kc.below b1
  replace bb := Below.after bb b1
  clear b1
  have ts := ks.lt
  clear ts
  have cs_0 := cel3_0 ks
  have cs_1 := cel3_1 ks
  have cs_2 := cel3_2 ks
  have cc_3 := cel3_0 kc
  have cc_4 := cel3_1 kc
  have cc_5 := cel3_2 kc
  have cs_6 := cel3_0 (ks.alloc (.cells #[.bool sN, .string sS, .string sD] 26))
  have cs_7 := cel3_1 (ks.alloc (.cells #[.bool sN, .string sS, .string sD] 26))
  have cs_8 := cel3_2 (ks.alloc (.cells #[.bool sN, .string sS, .string sD] 26))
  have cc_9 := cel3_0 (kc.alloc (.cells #[.bool sN, .string sS, .string sD] 26))
  have cc_10 := cel3_1 (kc.alloc (.cells #[.bool sN, .string sS, .string sD] 26))
  have cc_11 := cel3_2 (kc.alloc (.cells #[.bool sN, .string sS, .string sD] 26))
  go_wp2_with fail
  clear cs_0 cs_1 cs_2 cc_3 cc_4 cc_5 cs_6 cs_7 cs_8 cc_9 cc_10 cc_11
  go_fit (H3.out _ (ba bb _))
  rintro e w6 ⟨rfl, b1⟩
  obtain ⟨kt, b1⟩ := al1 b1
  have sz := b1.size
  replace ka := ka.below b1
  replace kb := kb.below b1
  replace kc := kc.below b1
  replace ks := ks.below b1
  replace bb := Below.after bb b1
  clear b1
  have tt := kt.lt
  clear tt
  have ca_0 := cel3_0 ka
  have ca_1 := cel3_1 ka
  have ca_2 := cel3_2 ka
  have cc_3 := cel3_0 kc
  have cc_4 := cel3_1 kc
  have cc_5 := cel3_2 kc
  have ca_6 := cel3_0 (ka.alloc (.cells #[.bool pN, .string pS, .string pD] 26))
  have ca_7 := cel3_1 (ka.alloc (.cells #[.bool pN, .string pS, .string pD] 26))
  have ca_8 := cel3_2 (ka.alloc (.cells #[.bool pN, .string pS, .string pD] 26))
  have cc_9 := cel3_0 (kc.alloc (.cells #[.bool pN, .string pS, .string pD] 26))
  have cc_10 := cel3_1 (kc.alloc (.cells #[.bool pN, .string pS, .string pD] 26))
  have cc_11 := cel3_2 (kc.alloc (.cells #[.bool pN, .string pS, .string pD] 26))
  go_wp2_with fail
  clear ca_0 ca_1 ca_2 cc_3 cc_4 cc_5 ca_6 ca_7 ca_8 cc_9 cc_10 cc_11
  go_fit (H4.out _ (ba bb _))
  rintro e w7 ⟨rfl, b1⟩
  obtain ⟨kp, b1⟩ := al1 b1
  have sz := b1.size
  replace ka := ka.below b1
  replace kb := kb.below b1
  replace kc := kc.below b1
  replace ks := ks.below b1
  replace kt := kt.below b1
  replace bb := Below.after bb b1
  clear b1
  have tp := kp.lt
  clear tp
  have cb_0 := cel3_0 kb
  have cb_1 := cel3_1 kb
  have cb_2 := cel3_2 kb
  have cc_3 := cel3_0 kc
  have cc_4 := cel3_1 kc
  have cc_5 := cel3_2 kc
  have cb_6 := cel3_0 (kb.alloc (.cells #[.bool xN, .string xS, .string xD] 26))
  have cb_7 := cel3_1 (kb.alloc (.cells #[.bool xN, .string xS, .string xD] 26))
  have cb_8 := cel3_2 (kb.alloc (.cells #[.bool xN, .string xS, .string xD] 26))
  have cc_9 := cel3_0 (kc.alloc (.cells #[.bool xN, .string xS, .string xD] 26))
  have cc_10 := cel3_1 (kc.alloc (.cells #[.bool xN, .string xS, .string xD] 26))
  have cc_11 := cel3_2 (kc.alloc (.cells #[.bool xN, .string xS, .string xD] 26))
  go_wp2_with fail
  clear cb_0 cb_1 cb_2 cc_3 cc_4 cc_5 cb_6 cb_7 cb_8 cc_9 cc_10 cc_11
  go_fit (H5.out _ (ba bb _))
  rintro e w8 ⟨rfl, b1⟩
  obtain ⟨kx, b1⟩ := al1 b1
  have sz := b1.size
  replace ka := ka.below b1
  replace kb := kb.below b1
  replace kc := kc.below b1
  replace ks := ks.below b1
  replace kt := kt.below b1
  replace kp := kp.below b1
  replace bb := Below.after bb b1
  clear b1
  have tx := kx.lt
  clear tx
  have cx_0 := cel3_0 kx
  have cx_1 := cel3_1 kx
  have cx_2 := cel3_2 kx
  have cx_3 := cel3_0 (kx.alloc (.cells #[.bool yN, .string yS, .string yD] 26))
  have cx_4 := cel3_1 (kx.alloc (.cells #[.bool yN, .string yS, .string yD] 26))
  have cx_5 := cel3_2 (kx.alloc (.cells #[.bool yN, .string yS, .string yD] 26))
  go_wp2_with fail
  clear cx_0 cx_1 cx_2 cx_3 cx_4 cx_5
  go_fit (H6.out _ (ba bb _))
  rintro e w9 ⟨rfl, b1⟩
  obtain ⟨ky, b1⟩ := al1 b1
  have sz := b1.size
  replace ka := ka.below b1
  replace kb := kb.below b1
  replace kc := kc.below b1
  replace ks := ks.below b1
  replace kt := kt.below b1
  replace kp := kp.below b1
  replace kx := kx.below b1
  replace bb := Below.after bb b1
  clear b1
  have ty := ky.lt
  clear ty
  have cs_0 := cel3_0 ks
  have cs_1 := cel3_1 ks
  have cs_2 := cel3_2 ks
  have ct_3 := cel3_0 kt
  have ct_4 := cel3_1 kt
  have ct_5 := cel3_2 kt
  have cp_6 := cel3_0 kp
  have cp_7 := cel3_1 kp
  have cp_8 := cel3_2 kp
  have ca_9 := cel3_0 ka
  have ca_10 := cel3_1 ka
  have ca_11 := cel3_2 ka
  have cb_12 := cel3_0 kb
  have cb_13 := cel3_1 kb
  have cb_14 := cel3_2 kb
  have cs_15 := cel3_0 (ks.alloc (.cells #[.bool pN, .string pS, .string pD] 26))
  have cs_16 := cel3_1 (ks.alloc (.cells #[.bool pN, .string pS, .string pD] 26))
  have cs_17 := cel3_2 (ks.alloc (.cells #[.bool pN, .string pS, .string pD] 26))
  have ct_18 := cel3_0 (kt.alloc (.cells #[.bool pN, .string pS, .string pD] 26))
  have ct_19 := cel3_1 (kt.alloc (.cells #[.bool pN, .string pS, .string pD] 26))
  have ct_20 := cel3_2 (kt.alloc (.cells #[.bool pN, .string pS, .string pD] 26))
  have cp_21 := cel3_0 (kp.alloc (.cells #[.bool pN, .string pS, .string pD] 26))
  have cp_22 := cel3_1 (kp.alloc (.cells #[.bool pN, .string pS, .string pD] 26))
  have cp_23 := cel3_2 (kp.alloc (.cells #[.bool pN, .string pS, .string pD] 26))
  have ca_24 := cel3_0 (ka.alloc (.cells #[.bool pN, .string pS, .string pD] 26))
  have ca_25 := cel3_1 (ka.alloc (.cells #[.bool pN, .string pS, .string pD] 26))
  have ca_26 := cel3_2 (ka.alloc (.cells #[.bool pN, .string pS, .string pD] 26))
  have cb_27 := cel3_0 (kb.alloc (.cells #[.bool pN, .string pS, .string pD] 26))
  have cb_28 := cel3_1 (kb.alloc (.cells #[.bool pN, .string pS, .string pD] 26))
  have cb_29 := cel3_2 (kb.alloc (.cells #[.bool pN, .string pS, .string pD] 26))
  go_wp2_with fail
  clear cs_0 cs_1 cs_2 ct_3 ct_4 ct_5 cp_6 cp_7 cp_8 ca_9 ca_10 ca_11 cb_12 cb_13 cb_14 cs_15 cs_16 cs_17 ct_18 ct_19 ct_20 cp_21 cp_22 cp_23 ca_24 ca_25 ca_26 cb_27 cb_28 cb_29
  go_fit (H7.out _ (ba bb _))
  rintro e w10 ⟨rfl, b1⟩
  obtain ⟨kz, b1⟩ := al1 b1
  have sz := b1.size
  replace ka := ka.below b1
  replace kb := kb.below b1
  replace kc := kc.below b1
  replace ks := ks.below b1
  replace kt := kt.below b1
  replace kp := kp.below b1
  replace kx := kx.below b1
  replace ky := ky.below b1
  replace bb := Below.after bb b1
  clear b1
  have tz := kz.lt
  clear tz
  go_wp2_with fail
  go_fit (HL.out _ (ba bb _))
  rintro e w11 ⟨rfl, b1⟩
  obtain ⟨kq, b1⟩ := al1 b1
  have sz := b1.size
  replace ka := ka.below b1
  replace kb := kb.below b1
  replace kc := kc.below b1
  replace ks := ks.below b1
  replace kt := kt.below b1
  replace kp := kp.below b1
  replace kx := kx.below b1
  replace ky := ky.below b1
  replace kz := kz.below b1
  replace bb := Below.after bb b1
  clear b1
  have tq := kq.lt
  clear tq
  go_wp2
  go_ret
  exact ⟨rfl, bb⟩
set_option maxRecDepth 100000 in
set_option maxHeartbeats 8000000 in
theorem field_ok (n0 n1 n2 sN pN xN yN qN : Bool) (s0 d0 s1 d1 s2 d2 sS sD pS pD xS xD yS yD qS qD : ByteArray) (w : World)
    (HL : Hid (∀ w1, Below w.heap.size w w1 → Calls Tryz.prog 10 #[] w1 fun e w' => e = .returned (.bool true) ∧ Below w1.heap.size w1 w'))
    (S0 : Hid (∀ w1, Calls Tryz.prog 9 #[.agg #[.bool n0, .string s0, .string d0]] w1 fun e w' => e = .returned (.bool true) ∧ Below w1.heap.size w1 w'))
    (S1 : Hid (∀ w1, Calls Tryz.prog 9 #[.agg #[.bool n1, .string s1, .string d1]] w1 fun e w' => e = .returned (.bool true) ∧ Below w1.heap.size w1 w'))
    (S2 : Hid (∀ w1, Calls Tryz.prog 9 #[.agg #[.bool n2, .string s2, .string d2]] w1 fun e w' => e = .returned (.bool true) ∧ Below w1.heap.size w1 w'))
    (H1 : Hid (∀ w1, Below w.heap.size w w1 → Calls Tryz.prog 13 #[.agg #[.bool n0, .string s0, .string d0], .agg #[.bool n1, .string s1, .string d1]] w1 fun e w' => e = .returned (.tuple #[.agg #[.bool sN, .string sS, .string sD], .int .i64 0]) ∧ Below w1.heap.size w1 w'))
    (H2 : Hid (∀ w1, Below w.heap.size w w1 → Calls Tryz.prog 13 #[.agg #[.bool n1, .string s1, .string d1], .agg #[.bool n0, .string s0, .string d0]] w1 fun e w' => e = .returned (.tuple #[.agg #[.bool sN, .string sS, .string sD], .int .i64 0]) ∧ Below w1.heap.size w1 w'))
    (H3 : Hid (∀ w1, Below w.heap.size w w1 → Calls Tryz.prog 15 #[.agg #[.bool sN, .string sS, .string sD], .agg #[.bool n2, .string s2, .string d2]] w1 fun e w' => e = .returned (.tuple #[.agg #[.bool pN, .string pS, .string pD], .int .i64 0]) ∧ Below w1.heap.size w1 w'))
    (H4 : Hid (∀ w1, Below w.heap.size w w1 → Calls Tryz.prog 15 #[.agg #[.bool n0, .string s0, .string d0], .agg #[.bool n2, .string s2, .string d2]] w1 fun e w' => e = .returned (.tuple #[.agg #[.bool xN, .string xS, .string xD], .int .i64 0]) ∧ Below w1.heap.size w1 w'))
    (H5 : Hid (∀ w1, Below w.heap.size w w1 → Calls Tryz.prog 15 #[.agg #[.bool n1, .string s1, .string d1], .agg #[.bool n2, .string s2, .string d2]] w1 fun e w' => e = .returned (.tuple #[.agg #[.bool yN, .string yS, .string yD], .int .i64 0]) ∧ Below w1.heap.size w1 w'))
    (H6 : Hid (∀ w1, Below w.heap.size w w1 → Calls Tryz.prog 13 #[.agg #[.bool xN, .string xS, .string xD], .agg #[.bool yN, .string yS, .string yD]] w1 fun e w' => e = .returned (.tuple #[.agg #[.bool pN, .string pS, .string pD], .int .i64 0]) ∧ Below w1.heap.size w1 w'))
    (H7 : Hid (∀ w1, Below w.heap.size w w1 → Calls Tryz.prog 16 #[.agg #[.bool n0, .string s0, .string d0], .agg #[.bool n1, .string s1, .string d1]] w1 fun e w' => e = .returned (.tuple #[.agg #[.bool qN, .string qS, .string qD], .int .i64 0]) ∧ Below w1.heap.size w1 w'))
    (H8 : Hid (∀ w1, Below w.heap.size w w1 → Calls Tryz.prog 15 #[.agg #[.bool qN, .string qS, .string qD], .agg #[.bool n1, .string s1, .string d1]] w1 fun e w' => e = .returned (.tuple #[.agg #[.bool n0, .string s0, .string d0], .int .i64 0]) ∧ Below w1.heap.size w1 w')) :
    Calls Tryz.prog 7 #[.agg #[.bool n0, .string s0, .string d0], .agg #[.bool n1, .string s1, .string d1], .agg #[.bool n2, .string s2, .string d2]] w fun e w' => e = .returned (.bool true) ∧ Below w.heap.size w w' := by
  go_enter Tryz.func7, Tryz.ntmps7
  go_wp2_with fail
  go_fit (S0.out _)
  rintro e w1 ⟨rfl, b1⟩
  obtain ⟨ka, kb, kc, b1⟩ := al3 b1
  have sz := b1.size
  have bb := b1
  clear b1
  have ta := ka.lt
  have tb := kb.lt
  have tc := kc.lt
  clear ta tb tc
  have cb_0 := cel3_0 kb
  have cb_1 := cel3_1 kb
  have cb_2 := cel3_2 kb
  go_wp2_with fail
  clear cb_0 cb_1 cb_2
  go_fit (S1.out _)
  rintro e w2 ⟨rfl, b1⟩
  have sz := b1.size
  replace ka := ka.below b1
  replace kb := kb.below b1
  replace kc := kc.below b1
  replace bb := Below.after bb b1
  clear b1
  have cc_0 := cel3_0 kc
  have cc_1 := cel3_1 kc
  have cc_2 := cel3_2 kc
  go_wp2_with fail
  clear cc_0 cc_1 cc_2
  go_fit (S2.out _)
  rintro e w3 ⟨rfl, b1⟩
  have sz := b1.size
  replace ka := ka.below b1
  replace kb := kb.below b1
  replace kc := kc.below b1
  replace bb := Below.after bb b1
  clear b1
  have ca_0 := cel3_0 ka
  have ca_1 := cel3_1 ka
  have ca_2 := cel3_2 ka
  have cb_3 := cel3_0 kb
  have cb_4 := cel3_1 kb
  have cb_5 := cel3_2 kb
  go_wp2_with fail
  clear ca_0 ca_1 ca_2 cb_3 cb_4 cb_5
  go_fit (H1.out _ bb)
  rintro e w4 ⟨rfl, b1⟩
  have sz := b1.size
  replace ka := ka.below b1
  replace kb := kb.below b1
  replace kc := kc.below b1
  replace bb := Below.after bb b1
  clear b1
  have ca_0 := cel3_0 ka
  have ca_1 := cel3_1 ka
  have ca_2 := cel3_2 ka
  have cb_3 := cel3_0 kb
  have cb_4 := cel3_1 kb
  have cb_5 := cel3_2 kb
  have ca_6 := cel3_0 (ka.alloc (.cells #[.bool sN, .string sS, .string sD] 26))
  have ca_7 := cel3_1 (ka.alloc (.cells #[.bool sN, .string sS, .string sD] 26))
  have ca_8 := cel3_2 (ka.alloc (.cells #[.bool sN, .string sS, .string sD] 26))
  have cb_9 := cel3_0 (kb.alloc (.cells #[.bool sN, .string sS, .string sD] 26))
  have cb_10 := cel3_1 (kb.alloc (.cells #[.bool sN, .string sS, .string sD] 26))
  have cb_11 := cel3_2 (kb.alloc (.cells #[.bool sN, .string sS, .string sD] 26))
  go_wp2_with fail
  clear ca_0 ca_1 ca_2 cb_3 cb_4 cb_5 ca_6 ca_7 ca_8 cb_9 cb_10 cb_11
  go_fit (H2.out _ (ba bb _))
  rintro e w5 ⟨rfl, b1⟩
  obtain ⟨ks, b1⟩ := al1 b1
  have sz := b1.size
  replace ka := ka.below b1
  replace kb := kb.below b1
  replace kc := kc.below b1
  replace bb := Below.after bb b1
  clear b1
  have ts := ks.lt
  clear ts
  have cs_0 := cel3_0 ks
  have cs_1 := cel3_1 ks
  have cs_2 := cel3_2 ks
  have cc_3 := cel3_0 kc
  have cc_4 := cel3_1 kc
  have cc_5 := cel3_2 kc
  have cs_6 := cel3_0 (ks.alloc (.cells #[.bool sN, .string sS, .string sD] 26))
  have cs_7 := cel3_1 (ks.alloc (.cells #[.bool sN, .string sS, .string sD] 26))
  have cs_8 := cel3_2 (ks.alloc (.cells #[.bool sN, .string sS, .string sD] 26))
  have cc_9 := cel3_0 (kc.alloc (.cells #[.bool sN, .string sS, .string sD] 26))
  have cc_10 := cel3_1 (kc.alloc (.cells #[.bool sN, .string sS, .string sD] 26))
  have cc_11 := cel3_2 (kc.alloc (.cells #[.bool sN, .string sS, .string sD] 26))
  go_wp2_with fail
  clear cs_0 cs_1 cs_2 cc_3 cc_4 cc_5 cs_6 cs_7 cs_8 cc_9 cc_10 cc_11
  go_fit (H3.out _ (ba bb _))
  rintro e w6 ⟨rfl, b1⟩
  obtain ⟨kt, b1⟩ := al1 b1
  have sz := b1.size
  replace ka := ka.below b1
  replace kb := kb.below b1
  replace kc := kc.below b1
  replace ks := ks.below b1
  replace bb := Below.after bb b1
  clear b1
  have tt := kt.lt
  clear tt
  have ca_0 := cel3_0 ka
  have ca_1 := cel3_1 ka
  have ca_2 := cel3_2 ka
  have cc_3 := cel3_0 kc
  have cc_4 := cel3_1 kc
  have cc_5 := cel3_2 kc
  have ca_6 := cel3_0 (ka.alloc (.cells #[.bool pN, .string pS, .string pD] 26))
  have ca_7 := cel3_1 (ka.alloc (.cells #[.bool pN, .string pS, .string pD] 26))
  have ca_8 := cel3_2 (ka.alloc (.cells #[.bool pN, .string pS, .string pD] 26))
  have cc_9 := cel3_0 (kc.alloc (.cells #[.bool pN, .string pS, .string pD] 26))
  have cc_10 := cel3_1 (kc.alloc (.cells #[.bool pN, .string pS, .string pD] 26))
  have cc_11 := cel3_2 (kc.alloc (.cells #[.bool pN, .string pS, .string pD] 26))
  go_wp2_with fail
  clear ca_0 ca_1 ca_2 cc_3 cc_4 cc_5 ca_6 ca_7 ca_8 cc_9 cc_10 cc_11
  go_fit (H4.out _ (ba bb _))
  rintro e w7 ⟨rfl, b1⟩
  obtain ⟨kp, b1⟩ := al1 b1
  have sz := b1.size
  replace ka := ka.below b1
  replace kb := kb.below b1
  replace kc := kc.below b1
  replace ks := ks.below b1
  replace kt := kt.below b1
  replace bb := Below.after bb b1
  clear b1
  have tp := kp.lt
  clear tp
  have cb_0 := cel3_0 kb
  have cb_1 := cel3_1 kb
  have cb_2 := cel3_2 kb
  have cc_3 := cel3_0 kc
  have cc_4 := cel3_1 kc
  have cc_5 := cel3_2 kc
  have cb_6 := cel3_0 (kb.alloc (.cells #[.bool xN, .string xS, .string xD] 26))
  have cb_7 := cel3_1 (kb.alloc (.cells #[.bool xN, .string xS, .string xD] 26))
  have cb_8 := cel3_2 (kb.alloc (.cells #[.bool xN, .string xS, .string xD] 26))
  have cc_9 := cel3_0 (kc.alloc (.cells #[.bool xN, .string xS, .string xD] 26))
  have cc_10 := cel3_1 (kc.alloc (.cells #[.bool xN, .string xS, .string xD] 26))
  have cc_11 := cel3_2 (kc.alloc (.cells #[.bool xN, .string xS, .string xD] 26))
  go_wp2_with fail
  clear cb_0 cb_1 cb_2 cc_3 cc_4 cc_5 cb_6 cb_7 cb_8 cc_9 cc_10 cc_11
  go_fit (H5.out _ (ba bb _))
  rintro e w8 ⟨rfl, b1⟩
  obtain ⟨kx, b1⟩ := al1 b1
  have sz := b1.size
  replace ka := ka.below b1
  replace kb := kb.below b1
  replace kc := kc.below b1
  replace ks := ks.below b1
  replace kt := kt.below b1
  replace kp := kp.below b1
  replace bb := Below.after bb b1
  clear b1
  have tx := kx.lt
  clear tx
  have cx_0 := cel3_0 kx
  have cx_1 := cel3_1 kx
  have cx_2 := cel3_2 kx
  have cx_3 := cel3_0 (kx.alloc (.cells #[.bool yN, .string yS, .string yD] 26))
  have cx_4 := cel3_1 (kx.alloc (.cells #[.bool yN, .string yS, .string yD] 26))
  have cx_5 := cel3_2 (kx.alloc (.cells #[.bool yN, .string yS, .string yD] 26))
  go_wp2_with fail
  clear cx_0 cx_1 cx_2 cx_3 cx_4 cx_5
  go_fit (H6.out _ (ba bb _))
  rintro e w9 ⟨rfl, b1⟩
  obtain ⟨ky, b1⟩ := al1 b1
  have sz := b1.size
  replace ka := ka.below b1
  replace kb := kb.below b1
  replace kc := kc.below b1
  replace ks := ks.below b1
  replace kt := kt.below b1
  replace kp := kp.below b1
  replace kx := kx.below b1
  replace bb := Below.after bb b1
  clear b1
  have ty := ky.lt
  clear ty
  have cs_0 := cel3_0 ks
  have cs_1 := cel3_1 ks
  have cs_2 := cel3_2 ks
  have ct_3 := cel3_0 kt
  have ct_4 := cel3_1 kt
  have ct_5 := cel3_2 kt
  have cp_6 := cel3_0 kp
  have cp_7 := cel3_1 kp
  have cp_8 := cel3_2 kp
  have ca_9 := cel3_0 ka
  have ca_10 := cel3_1 ka
  have ca_11 := cel3_2 ka
  have cb_12 := cel3_0 kb
  have cb_13 := cel3_1 kb
  have cb_14 := cel3_2 kb
  have cs_15 := cel3_0 (ks.alloc (.cells #[.bool pN, .string pS, .string pD] 26))
  have cs_16 := cel3_1 (ks.alloc (.cells #[.bool pN, .string pS, .string pD] 26))
  have cs_17 := cel3_2 (ks.alloc (.cells #[.bool pN, .string pS, .string pD] 26))
  have ct_18 := cel3_0 (kt.alloc (.cells #[.bool pN, .string pS, .string pD] 26))
  have ct_19 := cel3_1 (kt.alloc (.cells #[.bool pN, .string pS, .string pD] 26))
  have ct_20 := cel3_2 (kt.alloc (.cells #[.bool pN, .string pS, .string pD] 26))
  have cp_21 := cel3_0 (kp.alloc (.cells #[.bool pN, .string pS, .string pD] 26))
  have cp_22 := cel3_1 (kp.alloc (.cells #[.bool pN, .string pS, .string pD] 26))
  have cp_23 := cel3_2 (kp.alloc (.cells #[.bool pN, .string pS, .string pD] 26))
  have ca_24 := cel3_0 (ka.alloc (.cells #[.bool pN, .string pS, .string pD] 26))
  have ca_25 := cel3_1 (ka.alloc (.cells #[.bool pN, .string pS, .string pD] 26))
  have ca_26 := cel3_2 (ka.alloc (.cells #[.bool pN, .string pS, .string pD] 26))
  have cb_27 := cel3_0 (kb.alloc (.cells #[.bool pN, .string pS, .string pD] 26))
  have cb_28 := cel3_1 (kb.alloc (.cells #[.bool pN, .string pS, .string pD] 26))
  have cb_29 := cel3_2 (kb.alloc (.cells #[.bool pN, .string pS, .string pD] 26))
  go_wp2_with fail
  clear cs_0 cs_1 cs_2 ct_3 ct_4 ct_5 cp_6 cp_7 cp_8 ca_9 ca_10 ca_11 cb_12 cb_13 cb_14 cs_15 cs_16 cs_17 ct_18 ct_19 ct_20 cp_21 cp_22 cp_23 ca_24 ca_25 ca_26 cb_27 cb_28 cb_29
  go_fit (H7.out _ (ba bb _))
  rintro e w10 ⟨rfl, b1⟩
  obtain ⟨kz, b1⟩ := al1 b1
  have sz := b1.size
  replace ka := ka.below b1
  replace kb := kb.below b1
  replace kc := kc.below b1
  replace ks := ks.below b1
  replace kt := kt.below b1
  replace kp := kp.below b1
  replace kx := kx.below b1
  replace ky := ky.below b1
  replace bb := Below.after bb b1
  clear b1
  have tz := kz.lt
  clear tz
  have cb_0 := cel3_0 kb
  have cb_1 := cel3_1 kb
  have cb_2 := cel3_2 kb
  have cb_3 := cel3_0 (kb.alloc (.cells #[.bool qN, .string qS, .string qD] 26))
  have cb_4 := cel3_1 (kb.alloc (.cells #[.bool qN, .string qS, .string qD] 26))
  have cb_5 := cel3_2 (kb.alloc (.cells #[.bool qN, .string qS, .string qD] 26))
  go_wp2_with fail
  clear cb_0 cb_1 cb_2 cb_3 cb_4 cb_5
  go_fit (H8.out _ (ba bb _))
  rintro e w11 ⟨rfl, b1⟩
  obtain ⟨kq, b1⟩ := al1 b1
  have sz := b1.size
  replace ka := ka.below b1
  replace kb := kb.below b1
  replace kc := kc.below b1
  replace ks := ks.below b1
  replace kt := kt.below b1
  replace kp := kp.below b1
  replace kx := kx.below b1
  replace ky := ky.below b1
  replace kz := kz.below b1
  replace bb := Below.after bb b1
  clear b1
  have tq := kq.lt
  clear tq
  have ca_0 := cel3_0 ka
  have ca_1 := cel3_1 ka
  have ca_2 := cel3_2 ka
  have ca_3 := cel3_0 (ka.alloc (.cells #[.bool n0, .string s0, .string d0] 26))
  have ca_4 := cel3_1 (ka.alloc (.cells #[.bool n0, .string s0, .string d0] 26))
  have ca_5 := cel3_2 (ka.alloc (.cells #[.bool n0, .string s0, .string d0] 26))
  go_wp2_with fail
  clear ca_0 ca_1 ca_2 ca_3 ca_4 ca_5
  go_fit (HL.out _ (ba bb _))
  rintro e w12 ⟨rfl, b1⟩
  obtain ⟨kk, b1⟩ := al1 b1
  have sz := b1.size
  replace ka := ka.below b1
  replace kb := kb.below b1
  replace kc := kc.below b1
  replace ks := ks.below b1
  replace kt := kt.below b1
  replace kp := kp.below b1
  replace kx := kx.below b1
  replace ky := ky.below b1
  replace kz := kz.below b1
  replace kq := kq.below b1
  replace bb := Below.after bb b1
  clear b1
  have tk := kk.lt
  clear tk
  go_wp2
  go_ret
  exact ⟨rfl, bb⟩
end Go.Proofs.YtlihcbeacjimkaaGreatDoor
