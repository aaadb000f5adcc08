/-
  gussetlaw03: fine; RatProducts, walked.
  gussetlaw03.RatProducts.
-/
import Derived.Test.YtdbnkcimcpnpdaaGreatDoorG42
import Derived.Test.YtdbnkcimcpnpdaaGreatDoorG48
import Derived.Test.YtdbnkcimcpnpdaaGreatDoorG49
namespace Go.Proofs.YtdbnkcimcpnpdaaGreatDoor
open Go.RowKit Go.Shelf

set_option maxRecDepth 100000 in
set_option maxHeartbeats 8000000 in
theorem products_l (n0 n1 : Bool) (s0 d0 s1 d1 : ByteArray) (w : World)
  (HL : Hid (∀ w1, Below w.heap.size w w1 → Calls Tryz.prog 10 #[] w1 fun e w' => e = .returned (.bool true) ∧ Below w1.heap.size w1 w'))
  (F0 : Hid (∀ w1, Calls Tryz.prog 9 #[.agg #[.bool n0, .string s0, .string d0], .agg #[.bool n1, .string s1, .string d1]] w1 fun e w' => e = .returned (.bool false) ∧ Below w1.heap.size w1 w')) :
  Calls Tryz.prog 4 #[.agg #[.bool n0, .string s0, .string d0], .agg #[.bool n1, .string s1, .string d1]] w fun e w' => e = .returned (.bool true) ∧ Below w.heap.size w w' := by
 go_enter Tryz.func4, Tryz.ntmps4
 go_wp2_with fail
 go_fit (F0.out _)
 rintro e w1 ⟨rfl, b1⟩
 obtain ⟨ka, kb, b1⟩ := al2 b1
 have sz := b1.size
 have bb := b1
 clear b1
 have ta := ka.lt
 have tb := kb.lt
 clear ta tb
 go_wp2_with fail
 go_fit (HL.out _ bb)
 rintro e w2 ⟨rfl, b1⟩
 have sz := b1.size
 replace ka := ka.below b1
 replace kb := kb.below b1
 replace bb := Below.after bb b1
 clear b1
 go_wp2
 go_ret
 exact ⟨rfl, bb⟩
set_option maxRecDepth 100000 in
set_option maxHeartbeats 8000000 in
theorem products_zero (n0 n1 pN : Bool) (s0 d0 s1 d1 pS pD : ByteArray) (w : World)
  (HL : Hid (∀ w1, Below w.heap.size w w1 → Calls Tryz.prog 10 #[] w1 fun e w' => e = .returned (.bool true) ∧ Below w1.heap.size w1 w'))
  (F0 : Hid (∀ w1, Calls Tryz.prog 9 #[.agg #[.bool n0, .string s0, .string d0], .agg #[.bool n1, .string s1, .string d1]] w1 fun e w' => e = .returned (.bool true) ∧ Below w1.heap.size w1 w'))
  (H1 : Hid (∀ w1, Below w.heap.size w w1 → Calls Tryz.prog 19 #[.agg #[.bool n0, .string s0, .string d0], .agg #[.bool n1, .string s1, .string d1]] w1 fun e w' => e = .returned (.tuple #[.agg #[.bool pN, .string pS, .string pD], .int .i64 0]) ∧ Below w1.heap.size w1 w'))
  (H2 : Hid (∀ w1, Below w.heap.size w w1 → Calls Tryz.prog 20 #[.agg #[.bool n0, .string s0, .string d0], .agg #[.bool n1, .string s1, .string d1]] w1 fun e w' => e = .returned (.tuple #[.agg #[.bool false, .string { data := #[] }, .string { data := #[] }], .int .i64 3]) ∧ Below w1.heap.size w1 w'))
  (H3 : Hid (∀ w1, Calls Tryz.prog 21 #[.agg #[.bool n0, .string s0, .string d0], .agg #[.bool n1, .string s1, .string d1]] w1 fun e w' => e = .returned (.agg #[.bool pN, .string pS, .string pD]) ∧ Below w1.heap.size w1 w'))
  (H4 : Hid (∀ w1, Calls Tryz.prog 18 #[.agg #[.bool n1, .string s1, .string d1]] w1 fun e w' => e = .returned (.int .i64 0) ∧ Below w1.heap.size w1 w')) :
  Calls Tryz.prog 4 #[.agg #[.bool n0, .string s0, .string d0], .agg #[.bool n1, .string s1, .string d1]] w fun e w' => e = .returned (.bool true) ∧ Below w.heap.size w w' := by
 go_enter Tryz.func4, Tryz.ntmps4
 go_wp2_with fail
 go_fit (F0.out _)
 rintro e w1 ⟨rfl, b1⟩
 obtain ⟨ka, kb, b1⟩ := al2 b1
 have sz := b1.size
 have bb := b1
 clear b1
 have ta := ka.lt
 have tb := kb.lt
 clear ta tb
 have ca_0 := cel3_0 ka
 have ca_1 := cel3_1 ka
 have ca_2 := cel3_2 ka
 have cb_3 := cel3_0 kb
 have cb_4 := cel3_1 kb
 have cb_5 := cel3_2 kb
 go_wp2_with fail
 clear ca_0 ca_1 ca_2 cb_3 cb_4 cb_5
 go_fit (H1.out _ bb)
 rintro e w2 ⟨rfl, b1⟩
 have sz := b1.size
 replace ka := ka.below b1
 replace kb := kb.below b1
 replace bb := Below.after bb b1
 clear b1
 have ca_0 := cel3_0 ka
 have ca_1 := cel3_1 ka
 have ca_2 := cel3_2 ka
 have cb_3 := cel3_0 kb
 have cb_4 := cel3_1 kb
 have cb_5 := cel3_2 kb
 have ca_6 := cel3_0 (ka.alloc (.cells #[.bool pN, .string pS, .string pD] 26))
 have ca_7 := cel3_1 (ka.alloc (.cells #[.bool pN, .string pS, .string pD] 26))
 have ca_8 := cel3_2 (ka.alloc (.cells #[.bool pN, .string pS, .string pD] 26))
 have cb_9 := cel3_0 (kb.alloc (.cells #[.bool pN, .string pS, .string pD] 26))
 have cb_10 := cel3_1 (kb.alloc (.cells #[.bool pN, .string pS, .string pD] 26))
 have cb_11 := cel3_2 (kb.alloc (.cells #[.bool pN, .string pS, .string pD] 26))
 go_wp2_with fail
 clear ca_0 ca_1 ca_2 cb_3 cb_4 cb_5 ca_6 ca_7 ca_8 cb_9 cb_10 cb_11
 go_fit (H2.out _ (ba bb _))
 rintro e w3 ⟨rfl, b1⟩
 obtain ⟨kp, b1⟩ := al1 b1
 have sz := b1.size
 replace ka := ka.below b1
 replace kb := kb.below b1
 replace bb := Below.after bb b1
 clear b1
 have tp := kp.lt
 clear tp
 have ca_0 := cel3_0 ka
 have ca_1 := cel3_1 ka
 have ca_2 := cel3_2 ka
 have cb_3 := cel3_0 kb
 have cb_4 := cel3_1 kb
 have cb_5 := cel3_2 kb
 have cp_6 := cel3_0 kp
 have cp_7 := cel3_1 kp
 have cp_8 := cel3_2 kp
 have ca_9 := cel3_0 (ka.alloc (.cells #[.bool false, .string { data := #[] }, .string { data := #[] }] 26))
 have ca_10 := cel3_1 (ka.alloc (.cells #[.bool false, .string { data := #[] }, .string { data := #[] }] 26))
 have ca_11 := cel3_2 (ka.alloc (.cells #[.bool false, .string { data := #[] }, .string { data := #[] }] 26))
 have cb_12 := cel3_0 (kb.alloc (.cells #[.bool false, .string { data := #[] }, .string { data := #[] }] 26))
 have cb_13 := cel3_1 (kb.alloc (.cells #[.bool false, .string { data := #[] }, .string { data := #[] }] 26))
 have cb_14 := cel3_2 (kb.alloc (.cells #[.bool false, .string { data := #[] }, .string { data := #[] }] 26))
 have cp_15 := cel3_0 (kp.alloc (.cells #[.bool false, .string { data := #[] }, .string { data := #[] }] 26))
 have cp_16 := cel3_1 (kp.alloc (.cells #[.bool false, .string { data := #[] }, .string { data := #[] }] 26))
 have cp_17 := cel3_2 (kp.alloc (.cells #[.bool false, .string { data := #[] }, .string { data := #[] }] 26))
 go_wp2_with fail
 obtain ⟨w4, hw, kq, b1⟩ := mk1 w3 [.bool false, .string { data := #[] }, .string { data := #[] }] 26
 rw [← hw]
 clear ca_0 ca_1 ca_2 cb_3 cb_4 cb_5 cp_6 cp_7 cp_8 ca_9 ca_10 ca_11 cb_12 cb_13 cb_14 cp_15 cp_16 cp_17
 clear hw
 have sz := b1.size
 have tq := kq.lt
 replace ka := ka.below b1
 replace kb := kb.below b1
 replace kp := kp.below b1
 replace bb := Below.after bb b1
 clear b1
 clear sz tq
 go_region_held3 (fun w' => w'.cell? ⟨w.heap.size, 0, none⟩ = some (.bool n0) ∧ w'.cell? ⟨w.heap.size, 1, none⟩ = some (.string s0) ∧ w'.cell? ⟨w.heap.size, 2, none⟩ = some (.string d0) ∧ w'.cell? ⟨w.heap.size + 1, 0, none⟩ = some (.bool n1) ∧ w'.cell? ⟨w.heap.size + 1, 1, none⟩ = some (.string s1) ∧ w'.cell? ⟨w.heap.size + 1, 2, none⟩ = some (.string d1) ∧ w'.cell? ⟨w2.heap.size, 0, none⟩ = some (.bool pN) ∧ w'.cell? ⟨w2.heap.size, 1, none⟩ = some (.string pS) ∧ w'.cell? ⟨w2.heap.size, 2, none⟩ = some (.string pD)) (exact ⟨cel3_0 ka, cel3_1 ka, cel3_2 ka, cel3_0 kb, cel3_1 kb, cel3_2 kb, cel3_0 kp, cel3_1 kp, cel3_2 kp⟩) (first | (go_at_call 21; go_fit (H3.out _); rintro e wn ⟨rfl, bn⟩; replace ka := ka.below ⟨bn.os, bn.tape, bn.output, bn.size, bn.block⟩; replace kb := kb.below ⟨bn.os, bn.tape, bn.output, bn.size, bn.block⟩; replace kp := kp.below ⟨bn.os, bn.tape, bn.output, bn.size, bn.block⟩; replace kq := kq.below ⟨bn.os, bn.tape, bn.output, bn.size, bn.block⟩; replace bb := Below.after bb ⟨bn.os, bn.tape, bn.output, bn.size, bn.block⟩) | fail)
 have ca_0 := cel3_0 ka
 have ca_1 := cel3_1 ka
 have ca_2 := cel3_2 ka
 have cb_3 := cel3_0 kb
 have cb_4 := cel3_1 kb
 have cb_5 := cel3_2 kb
 have cp_6 := cel3_0 kp
 have cp_7 := cel3_1 kp
 have cp_8 := cel3_2 kp
 have cq_9 := cel3_0 kq
 have cq_10 := cel3_1 kq
 have cq_11 := cel3_2 kq
 go_wp2_with fail
 clear ca_0 ca_1 ca_2 cb_3 cb_4 cb_5 cp_6 cp_7 cp_8 cq_9 cq_10 cq_11
 go_fit (H4.out _)
 rintro e w5 ⟨rfl, b1⟩
 have sz := b1.size
 replace ka := ka.below b1
 replace kb := kb.below b1
 replace kp := kp.below b1
 replace kq := kq.below b1
 replace bb := Below.after bb b1
 clear b1
 have ca_0 := cel3_0 ka
 have ca_1 := cel3_1 ka
 have ca_2 := cel3_2 ka
 have cb_3 := cel3_0 kb
 have cb_4 := cel3_1 kb
 have cb_5 := cel3_2 kb
 have cq_6 := cel3_0 kq
 have cq_7 := cel3_1 kq
 have cq_8 := cel3_2 kq
 go_wp2_with fail
 clear ca_0 ca_1 ca_2 cb_3 cb_4 cb_5 cq_6 cq_7 cq_8
 go_fit (HL.out _ bb)
 rintro e w6 ⟨rfl, b1⟩
 have sz := b1.size
 replace ka := ka.below b1
 replace kb := kb.below b1
 replace kp := kp.below b1
 replace kq := kq.below b1
 replace bb := Below.after bb b1
 clear b1
 go_wp2
 go_ret
 exact ⟨rfl, bb⟩
set_option maxRecDepth 100000 in
set_option maxHeartbeats 8000000 in
theorem products_ok (n0 n1 pN qN : Bool) (s0 d0 s1 d1 pS pD qS qD : ByteArray) (X : Int) (hX : ¬ X = 0) (w : World)
  (HL : Hid (∀ w1, Below w.heap.size w w1 → Calls Tryz.prog 10 #[] w1 fun e w' => e = .returned (.bool true) ∧ Below w1.heap.size w1 w'))
  (F0 : Hid (∀ w1, Calls Tryz.prog 9 #[.agg #[.bool n0, .string s0, .string d0], .agg #[.bool n1, .string s1, .string d1]] w1 fun e w' => e = .returned (.bool true) ∧ Below w1.heap.size w1 w'))
  (H1 : Hid (∀ w1, Below w.heap.size w w1 → Calls Tryz.prog 19 #[.agg #[.bool n0, .string s0, .string d0], .agg #[.bool n1, .string s1, .string d1]] w1 fun e w' => e = .returned (.tuple #[.agg #[.bool pN, .string pS, .string pD], .int .i64 0]) ∧ Below w1.heap.size w1 w'))
  (H2 : Hid (∀ w1, Below w.heap.size w w1 → Calls Tryz.prog 20 #[.agg #[.bool n0, .string s0, .string d0], .agg #[.bool n1, .string s1, .string d1]] w1 fun e w' => e = .returned (.tuple #[.agg #[.bool qN, .string qS, .string qD], .int .i64 0]) ∧ Below w1.heap.size w1 w'))
  (H3 : Hid (∀ w1, Calls Tryz.prog 21 #[.agg #[.bool n0, .string s0, .string d0], .agg #[.bool n1, .string s1, .string d1]] w1 fun e w' => e = .returned (.agg #[.bool pN, .string pS, .string pD]) ∧ Below w1.heap.size w1 w'))
  (H4 : Hid (∀ w1, Calls Tryz.prog 18 #[.agg #[.bool n1, .string s1, .string d1]] w1 fun e w' => e = .returned (.int .i64 X) ∧ Below w1.heap.size w1 w'))
  (H5 : Hid (∀ w1, Calls Tryz.prog 22 #[.agg #[.bool n0, .string s0, .string d0], .agg #[.bool n1, .string s1, .string d1]] w1 fun e w' => e = .returned (.agg #[.bool qN, .string qS, .string qD]) ∧ Below w1.heap.size w1 w')) :
  Calls Tryz.prog 4 #[.agg #[.bool n0, .string s0, .string d0], .agg #[.bool n1, .string s1, .string d1]] w fun e w' => e = .returned (.bool true) ∧ Below w.heap.size w w' := by
 go_enter Tryz.func4, Tryz.ntmps4
 go_wp2_with fail
 go_fit (F0.out _)
 rintro e w1 ⟨rfl, b1⟩
 obtain ⟨ka, kb, b1⟩ := al2 b1
 have sz := b1.size
 have bb := b1
 clear b1
 have ta := ka.lt
 have tb := kb.lt
 clear ta tb
 have ca_0 := cel3_0 ka
 have ca_1 := cel3_1 ka
 have ca_2 := cel3_2 ka
 have cb_3 := cel3_0 kb
 have cb_4 := cel3_1 kb
 have cb_5 := cel3_2 kb
 go_wp2_with fail
 clear ca_0 ca_1 ca_2 cb_3 cb_4 cb_5
 go_fit (H1.out _ bb)
 rintro e w2 ⟨rfl, b1⟩
 have sz := b1.size
 replace ka := ka.below b1
 replace kb := kb.below b1
 replace bb := Below.after bb b1
 clear b1
 have ca_0 := cel3_0 ka
 have ca_1 := cel3_1 ka
 have ca_2 := cel3_2 ka
 have cb_3 := cel3_0 kb
 have cb_4 := cel3_1 kb
 have cb_5 := cel3_2 kb
 have ca_6 := cel3_0 (ka.alloc (.cells #[.bool pN, .string pS, .string pD] 26))
 have ca_7 := cel3_1 (ka.alloc (.cells #[.bool pN, .string pS, .string pD] 26))
 have ca_8 := cel3_2 (ka.alloc (.cells #[.bool pN, .string pS, .string pD] 26))
 have cb_9 := cel3_0 (kb.alloc (.cells #[.bool pN, .string pS, .string pD] 26))
 have cb_10 := cel3_1 (kb.alloc (.cells #[.bool pN, .string pS, .string pD] 26))
 have cb_11 := cel3_2 (kb.alloc (.cells #[.bool pN, .string pS, .string pD] 26))
 go_wp2_with fail
 clear ca_0 ca_1 ca_2 cb_3 cb_4 cb_5 ca_6 ca_7 ca_8 cb_9 cb_10 cb_11
 go_fit (H2.out _ (ba bb _))
 rintro e w3 ⟨rfl, b1⟩
 obtain ⟨kp, b1⟩ := al1 b1
 have sz := b1.size
 replace ka := ka.below b1
 replace kb := kb.below b1
 replace bb := Below.after bb b1
 clear b1
 have tp := kp.lt
 clear tp
 have ca_0 := cel3_0 ka
 have ca_1 := cel3_1 ka
 have ca_2 := cel3_2 ka
 have cb_3 := cel3_0 kb
 have cb_4 := cel3_1 kb
 have cb_5 := cel3_2 kb
 have cp_6 := cel3_0 kp
 have cp_7 := cel3_1 kp
 have cp_8 := cel3_2 kp
 have ca_9 := cel3_0 (ka.alloc (.cells #[.bool qN, .string qS, .string qD] 26))
 have ca_10 := cel3_1 (ka.alloc (.cells #[.bool qN, .string qS, .string qD] 26))
 have ca_11 := cel3_2 (ka.alloc (.cells #[.bool qN, .string qS, .string qD] 26))
 have cb_12 := cel3_0 (kb.alloc (.cells #[.bool qN, .string qS, .string qD] 26))
 have cb_13 := cel3_1 (kb.alloc (.cells #[.bool qN, .string qS, .string qD] 26))
 have cb_14 := cel3_2 (kb.alloc (.cells #[.bool qN, .string qS, .string qD] 26))
 have cp_15 := cel3_0 (kp.alloc (.cells #[.bool qN, .string qS, .string qD] 26))
 have cp_16 := cel3_1 (kp.alloc (.cells #[.bool qN, .string qS, .string qD] 26))
 have cp_17 := cel3_2 (kp.alloc (.cells #[.bool qN, .string qS, .string qD] 26))
 go_wp2_with fail
 obtain ⟨w4, hw, kq, b1⟩ := mk1 w3 [.bool qN, .string qS, .string qD] 26
 rw [← hw]
 clear ca_0 ca_1 ca_2 cb_3 cb_4 cb_5 cp_6 cp_7 cp_8 ca_9 ca_10 ca_11 cb_12 cb_13 cb_14 cp_15 cp_16 cp_17
 clear hw
 have sz := b1.size
 have tq := kq.lt
 replace ka := ka.below b1
 replace kb := kb.below b1
 replace kp := kp.below b1
 replace bb := Below.after bb b1
 clear b1
 clear sz tq
 go_region_held3 (fun w' => w'.cell? ⟨w.heap.size, 0, none⟩ = some (.bool n0) ∧ w'.cell? ⟨w.heap.size, 1, none⟩ = some (.string s0) ∧ w'.cell? ⟨w.heap.size, 2, none⟩ = some (.string d0) ∧ w'.cell? ⟨w.heap.size + 1, 0, none⟩ = some (.bool n1) ∧ w'.cell? ⟨w.heap.size + 1, 1, none⟩ = some (.string s1) ∧ w'.cell? ⟨w.heap.size + 1, 2, none⟩ = some (.string d1) ∧ w'.cell? ⟨w2.heap.size, 0, none⟩ = some (.bool pN) ∧ w'.cell? ⟨w2.heap.size, 1, none⟩ = some (.string pS) ∧ w'.cell? ⟨w2.heap.size, 2, none⟩ = some (.string pD)) (exact ⟨cel3_0 ka, cel3_1 ka, cel3_2 ka, cel3_0 kb, cel3_1 kb, cel3_2 kb, cel3_0 kp, cel3_1 kp, cel3_2 kp⟩) (first | (go_at_call 21; go_fit (H3.out _); rintro e wn ⟨rfl, bn⟩; replace ka := ka.below ⟨bn.os, bn.tape, bn.output, bn.size, bn.block⟩; replace kb := kb.below ⟨bn.os, bn.tape, bn.output, bn.size, bn.block⟩; replace kp := kp.below ⟨bn.os, bn.tape, bn.output, bn.size, bn.block⟩; replace kq := kq.below ⟨bn.os, bn.tape, bn.output, bn.size, bn.block⟩; replace bb := Below.after bb ⟨bn.os, bn.tape, bn.output, bn.size, bn.block⟩) | fail)
 have ca_0 := cel3_0 ka
 have ca_1 := cel3_1 ka
 have ca_2 := cel3_2 ka
 have cb_3 := cel3_0 kb
 have cb_4 := cel3_1 kb
 have cb_5 := cel3_2 kb
 have cp_6 := cel3_0 kp
 have cp_7 := cel3_1 kp
 have cp_8 := cel3_2 kp
 have cq_9 := cel3_0 kq
 have cq_10 := cel3_1 kq
 have cq_11 := cel3_2 kq
 go_wp2_with fail
 clear ca_0 ca_1 ca_2 cb_3 cb_4 cb_5 cp_6 cp_7 cp_8 cq_9 cq_10 cq_11
 go_fit (H4.out _)
 rintro e w5 ⟨rfl, b1⟩
 have sz := b1.size
 replace ka := ka.below b1
 replace kb := kb.below b1
 replace kp := kp.below b1
 replace kq := kq.below b1
 replace bb := Below.after bb b1
 clear b1
 have ca_0 := cel3_0 ka
 have ca_1 := cel3_1 ka
 have ca_2 := cel3_2 ka
 have cb_3 := cel3_0 kb
 have cb_4 := cel3_1 kb
 have cb_5 := cel3_2 kb
 have cq_6 := cel3_0 kq
 have cq_7 := cel3_1 kq
 have cq_8 := cel3_2 kq
 go_wp2_with fail
 clear ca_0 ca_1 ca_2 cb_3 cb_4 cb_5 cq_6 cq_7 cq_8
 go_region_held3 (fun w' => w'.cell? ⟨w.heap.size, 0, none⟩ = some (.bool n0) ∧ w'.cell? ⟨w.heap.size, 1, none⟩ = some (.string s0) ∧ w'.cell? ⟨w.heap.size, 2, none⟩ = some (.string d0) ∧ w'.cell? ⟨w.heap.size + 1, 0, none⟩ = some (.bool n1) ∧ w'.cell? ⟨w.heap.size + 1, 1, none⟩ = some (.string s1) ∧ w'.cell? ⟨w.heap.size + 1, 2, none⟩ = some (.string d1) ∧ w'.cell? ⟨w3.heap.size, 0, none⟩ = some (.bool qN) ∧ w'.cell? ⟨w3.heap.size, 1, none⟩ = some (.string qS) ∧ w'.cell? ⟨w3.heap.size, 2, none⟩ = some (.string qD)) (exact ⟨cel3_0 ka, cel3_1 ka, cel3_2 ka, cel3_0 kb, cel3_1 kb, cel3_2 kb, cel3_0 kq, cel3_1 kq, cel3_2 kq⟩) (first | (go_at_call 22; go_fit (H5.out _); rintro e wn ⟨rfl, bn⟩; replace ka := ka.below ⟨bn.os, bn.tape, bn.output, bn.size, bn.block⟩; replace kb := kb.below ⟨bn.os, bn.tape, bn.output, bn.size, bn.block⟩; replace kp := kp.below ⟨bn.os, bn.tape, bn.output, bn.size, bn.block⟩; replace kq := kq.below ⟨bn.os, bn.tape, bn.output, bn.size, bn.block⟩; replace bb := Below.after bb ⟨bn.os, bn.tape, bn.output, bn.size, bn.block⟩) | (go_at_call 10; go_fit (HL.out _ ?_); (first | exact bb | exact bb.drew); rintro e wn ⟨rfl, bn⟩; replace ka := ka.below ⟨bn.os, bn.tape, bn.output, bn.size, bn.block⟩; replace kb := kb.below ⟨bn.os, bn.tape, bn.output, bn.size, bn.block⟩; replace kp := kp.below ⟨bn.os, bn.tape, bn.output, bn.size, bn.block⟩; replace kq := kq.below ⟨bn.os, bn.tape, bn.output, bn.size, bn.block⟩; replace bb := Below.after bb ⟨bn.os, bn.tape, bn.output, bn.size, bn.block⟩))
 go_wp2
 go_ret
 exact ⟨rfl, bb⟩
end Go.Proofs.YtdbnkcimcpnpdaaGreatDoor
namespace Go.Proofs.YtdbnkcimcpnpdaaGreatDoor
open Go.RowKit Go.Shelf

theorem products_law (n0 n1 : Bool) (s0 d0 s1 d1 : ByteArray) (w : World) (hT : Tab w) (hP : TabP w) :
  Calls Tryz.prog 4 #[.agg #[.bool n0, .string s0, .string d0], .agg #[.bool n1, .string s1, .string d1]] w fun e w' => e = .returned (.bool true) ∧ Below w.heap.size w w' := by
 have HL : Hid (∀ w1, Below w.heap.size w w1 → Calls Tryz.prog 10 #[] w1 fun e w' => e = .returned (.bool true) ∧ Below w1.heap.size w1 w') := fun w1 b => live3_any w1 (hT.below b) (hP.bel b)
 by_cases l0 : s0.size ≤ 120 ∧ d0.size ≤ 120
 ·have S0 : Hid (∀ w1, Calls Tryz.prog 34 #[.agg #[.bool n0, .string s0, .string d0]] w1 fun e w' => e = .returned (.bool true) ∧ Below w1.heap.size w1 w') := fun w1 => small3_yes n0 s0 d0 w1 l0.1 l0.2
  by_cases l1 : s1.size ≤ 120 ∧ d1.size ≤ 120
  ·have S1 : Hid (∀ w1, Calls Tryz.prog 34 #[.agg #[.bool n1, .string s1, .string d1]] w1 fun e w' => e = .returned (.bool true) ∧ Below w1.heap.size w1 w') := fun w1 => small3_yes n1 s1 d1 w1 l1.1 l1.2
   have hb := fun w1 => bothq_any n0 n1 s0 d0 s1 d1 w1 (by omega) (by omega) (by omega) (by omega)
   by_cases hab : twoq n0 s0 d0 n1 s1 d1 = 0
   ·rw [hab] at hb
    have o0 := (chkq_zero (twoq_zero.1 hab).1).1
    have o1 := (chkq_zero (twoq_zero.1 hab).2).1
    obtain ⟨nf, sf, df, hf, hok, hsz, hq, hback⟩ := named3
    have F := fun w1 => fine_ok n0 n1 s0 d0 s1 d1 w1 S0 S1 hb
    have h1 := fun w1 (b : Below w.heap.size w w1) => qmul_ok n0 n1 s0 d0 s1 d1 w1 (hT.below b) hab (K := 120) (by omega) l0.1 l0.2 l1.1 l1.2
    have h3 := fun w1 => rtimesq_any n0 n1 s0 d0 s1 d1 w1 o0 o1 (K := 120) (by omega) l0.1 l0.2 l1.1 l1.2
    simp only [hf] at h1 h3
    by_cases hz : natOf s1 = 0
    ·have e1 : s1 = ByteArray.empty := by
      by_cases hs : 0 < s1.size
      ·have := natOf_pos o1.1.1 hs
       omega
      ·exact ByteArray.size_eq_zero_iff.1 (by omega)
     subst e1
     have en : n1 = false := by
      cases n1 with
      | false => rfl
      | true => exact absurd (o1.1.2 rfl) (by decide)
     subst en
     exact products_zero n0 false _ s0 d0 ByteArray.empty d1 _ _ w HL F h1 (fun w1 b => qdiv_zero n0 false s0 d0 ByteArray.empty d1 w1 (hT.below b) hab hz) h3 (fun w1 => rsign_zero d1 w1)
    ·have h2 := fun w1 (b : Below w.heap.size w w1) => qdiv_ok n0 n1 s0 d0 s1 d1 w1 (hT.below b) hab (K := 120) (by omega) l0.1 l0.2 l1.1 l1.2 (by omega)
     have h5 := fun w1 => roverq_any n0 n1 s0 d0 s1 d1 w1 o0 (K := 120) (by omega) l0.1 l0.2 l1.1 l1.2 (by omega)
     simp only [hf] at h2 h5
     cases n1 with
     | true => exact products_ok n0 true _ _ s0 d0 s1 d1 _ _ _ _ (-1) (by omega) w HL F h1 h2 h3 (fun w1 => rsign_neg s1 d1 w1) h5
     | false => exact products_ok n0 false _ _ s0 d0 s1 d1 _ _ _ _ 1 (by omega) w HL F h1 h2 h3 (fun w1 => rsign_pos s1 d1 (isE (by omega)) w1) h5
   ·exact products_l n0 n1 s0 d0 s1 d1 w HL (fun w1 => fine_2 n0 n1 s0 d0 s1 d1 _ (by omega) w1 S0 S1 hb)
  ·exact products_l n0 n1 s0 d0 s1 d1 w HL (fun w1 => fine_1 n0 n1 s0 d0 s1 d1 w1 S0 (fun w1 => small3_no n1 s1 d1 w1 l1))
 ·exact products_l n0 n1 s0 d0 s1 d1 w HL (fun w1 => fine_0 n0 n1 s0 d0 s1 d1 w1 (fun w1 => small3_no n0 s0 d0 w1 l0))
end Go.Proofs.YtdbnkcimcpnpdaaGreatDoor
