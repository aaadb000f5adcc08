/-
  gussetref03.Of; gussetlaw03.RatMakes, walked.
-/
import Derived.Test.YtlihcbeacjimkaaGreatDoorLm0
namespace Go.Proofs.YtlihcbeacjimkaaGreatDoor
open Go.RowKit Go.Shelf

set_option maxRecDepth 100000 in
set_option maxHeartbeats 2000000 in
theorem rofq_walk (zN : Bool) (zS : ByteArray) (n : Int) (w : World)
    (H1 : Hid (∀ w1, Calls Tryz.prog 34 #[.int .i64 n] w1 fun e w' => e = .returned (.agg #[.bool zN, .string zS]) ∧ Below w1.heap.size w1 w')) :
    Calls Tryz.prog 26 #[.int .i64 n] w fun e w' => e = .returned (.agg #[.bool zN, .string zS, .string ⟨#[1]⟩]) ∧ Below w.heap.size w w' := by
  go_enter Tryz.func26, Tryz.ntmps26
  go_wp2_with fail
  go_fit (H1.out _)
  rintro e w1 ⟨rfl, b1⟩
  obtain ⟨kr, b1⟩ := al1 b1
  have sz := b1.size
  have bb := b1
  clear b1
  have tr := kr.lt
  have cr_0 := cel3_0 kr
  have fr_1 := Cel.frozen kr 0
  have cr_2 := cel3_1 kr
  have fr_3 := Cel.frozen kr 1
  have cr_4 := cel3_2 kr
  have fr_5 := Cel.frozen kr 2
  go_wp2
  exact post_q (p := 2) (by kernel_rfl) rfl rfl (((kr.set 0 _).set 1 _).set 2 _) ⟨rfl, bset (bset (bset bb (by omega) 0 _) (by omega) 1 _) (by omega) 2 _⟩
theorem rofq_any (z : Int) (h1 : -9223372036854775808 ≤ z) (h2 : z < 9223372036854775808) (w : World) :
    Calls Tryz.prog 26 #[.int .i64 z] w fun e w' => e = .returned (qI (z : Rat)) ∧ Below w.heap.size w w' := by
  obtain ⟨nf, sf, hf, -⟩ := named0
  rw [qI_int z (hf z)]
  exact rofq_walk _ _ z w (fun w1 => by have := rof_any z h1 h2 w1; rwa [hf] at this)

set_option maxRecDepth 100000 in
set_option maxHeartbeats 8000000 in
theorem makes_l0 (n0 n1 : Bool) (s0 s1 : ByteArray) (x : Int) (h0 : (200 : Int) < s0.size) (w : World)
    (HL : Hid (∀ w1, Below w.heap.size w w1 → Calls Tryz.prog 10 #[] w1 fun e w' => e = .returned (.bool true) ∧ Below w1.heap.size w1 w')) :
    Calls Tryz.prog 4 #[.agg #[.bool n0, .string s0], .agg #[.bool n1, .string s1], .int .i64 x] w fun e w' => e = .returned (.bool true) ∧ Below w.heap.size w w' := by
  go_enter Tryz.func4, Tryz.ntmps4
  go_wp2_with fail
  go_fit (HL.out _ (ba (ba (Below.refl _ _) _) _))
  rintro e w1 ⟨rfl, b1⟩
  obtain ⟨ka, kb, b1⟩ := al2 b1
  have sz := b1.size
  have bb := b1
  clear b1
  have ta := ka.lt
  have tb := kb.lt
  go_wp2
  go_ret
  exact ⟨rfl, bb⟩
set_option maxRecDepth 100000 in
set_option maxHeartbeats 8000000 in
theorem makes_l1 (n0 n1 : Bool) (s0 s1 : ByteArray) (x : Int) (h0 : ¬ (200 : Int) < s0.size) (h1 : (200 : Int) < s1.size) (w : World)
    (HL : Hid (∀ w1, Below w.heap.size w w1 → Calls Tryz.prog 10 #[] w1 fun e w' => e = .returned (.bool true) ∧ Below w1.heap.size w1 w')) :
    Calls Tryz.prog 4 #[.agg #[.bool n0, .string s0], .agg #[.bool n1, .string s1], .int .i64 x] w fun e w' => e = .returned (.bool true) ∧ Below w.heap.size w w' := by
  go_enter Tryz.func4, Tryz.ntmps4
  go_wp2_with fail
  go_fit (HL.out _ (ba (ba (Below.refl _ _) _) _))
  rintro e w1 ⟨rfl, b1⟩
  obtain ⟨ka, kb, b1⟩ := al2 b1
  have sz := b1.size
  have bb := b1
  clear b1
  have ta := ka.lt
  have tb := kb.lt
  go_wp2
  go_ret
  exact ⟨rfl, bb⟩
set_option maxRecDepth 100000 in
set_option maxHeartbeats 8000000 in
theorem makes_bad (n0 n1 : Bool) (s0 s1 : ByteArray) (x : Int) (h0 : ¬ (200 : Int) < s0.size) (h1 : ¬ (200 : Int) < s1.size) (E : Int) (hE : ¬ E = 0) (w : World)
    (HL : Hid (∀ w1, Below w.heap.size w w1 → Calls Tryz.prog 10 #[] w1 fun e w' => e = .returned (.bool true) ∧ Below w1.heap.size w1 w'))
    (H1 : Hid (∀ w1, Below w.heap.size w w1 → Calls Tryz.prog 22 #[.agg #[.bool n0, .string s0], .agg #[.bool n1, .string s1]] w1 fun e w' => e = .returned (.tuple #[.agg #[.bool false, .string { data := #[] }, .string { data := #[] }], .int .i64 E]) ∧ Below w1.heap.size w1 w'))
    (H2 : Hid (∀ w1, Calls Tryz.prog 23 #[.agg #[.bool n0, .string s0], .agg #[.bool n1, .string s1]] w1 fun e w' => e = .returned (.int .i64 E) ∧ Below w1.heap.size w1 w')) :
    Calls Tryz.prog 4 #[.agg #[.bool n0, .string s0], .agg #[.bool n1, .string s1], .int .i64 x] w fun e w' => e = .returned (.bool true) ∧ Below w.heap.size w w' := by
  go_enter Tryz.func4, Tryz.ntmps4
  go_wp2_with fail
  go_fit (H1.out _ (ba (ba (Below.refl _ _) _) _))
  rintro e w1 ⟨rfl, b1⟩
  obtain ⟨ka, kb, b1⟩ := al2 b1
  have sz := b1.size
  have bb := b1
  clear b1
  have ta := ka.lt
  have tb := kb.lt
  clear ta tb
  have ca_0 := cel2_0' ka
  have ca_1 := cel2_1' ka
  have cb_2 := cel2_0' kb
  have cb_3 := cel2_1' kb
  have ca_4 := cel2_0' (ka.alloc (.cells #[.bool false, .string { data := #[] }, .string { data := #[] }] 26))
  have ca_5 := cel2_1' (ka.alloc (.cells #[.bool false, .string { data := #[] }, .string { data := #[] }] 26))
  have cb_6 := cel2_0' (kb.alloc (.cells #[.bool false, .string { data := #[] }, .string { data := #[] }] 26))
  have cb_7 := cel2_1' (kb.alloc (.cells #[.bool false, .string { data := #[] }, .string { data := #[] }] 26))
  go_wp2_with fail
  clear ca_0 ca_1 cb_2 cb_3 ca_4 ca_5 cb_6 cb_7
  go_fit (H2.out _)
  rintro e w2 ⟨rfl, b1⟩
  obtain ⟨kq, b1⟩ := al1 b1
  have sz := b1.size
  replace ka := ka.below b1
  replace kb := kb.below b1
  replace bb := Below.after bb b1
  clear b1
  have tq := kq.lt
  clear tq
  have ca_0 := cel2_0' ka
  have ca_1 := cel2_1' ka
  have cb_2 := cel2_0' kb
  have cb_3 := cel2_1' kb
  have cq_4 := cel3_0 kq
  have cq_5 := cel3_1 kq
  have cq_6 := cel3_2 kq
  go_wp2_with fail
  clear ca_0 ca_1 cb_2 cb_3 cq_4 cq_5 cq_6
  go_fit (HL.out _ bb)
  rintro e w3 ⟨rfl, b1⟩
  have sz := b1.size
  replace ka := ka.below b1
  replace kb := kb.below b1
  replace kq := kq.below b1
  replace bb := Below.after bb b1
  clear b1
  go_wp2
  go_ret
  exact ⟨rfl, bb⟩
set_option maxRecDepth 100000 in
set_option maxHeartbeats 8000000 in
theorem makes_zero (n0 n1 : Bool) (s0 : ByteArray) (x : Int) (h0 : ¬ (200 : Int) < s0.size) (w : World)
    (HL : Hid (∀ w1, Below w.heap.size w w1 → Calls Tryz.prog 10 #[] w1 fun e w' => e = .returned (.bool true) ∧ Below w1.heap.size w1 w'))
    (H1 : Hid (∀ w1, Below w.heap.size w w1 → Calls Tryz.prog 22 #[.agg #[.bool n0, .string s0], .agg #[.bool n1, .string ByteArray.empty]] w1 fun e w' => e = .returned (.tuple #[.agg #[.bool false, .string { data := #[] }, .string { data := #[] }], .int .i64 3]) ∧ Below w1.heap.size w1 w'))
    (H2 : Hid (∀ w1, Calls Tryz.prog 23 #[.agg #[.bool n0, .string s0], .agg #[.bool n1, .string ByteArray.empty]] w1 fun e w' => e = .returned (.int .i64 0) ∧ Below w1.heap.size w1 w')) :
    Calls Tryz.prog 4 #[.agg #[.bool n0, .string s0], .agg #[.bool n1, .string ByteArray.empty], .int .i64 x] w fun e w' => e = .returned (.bool true) ∧ Below w.heap.size w w' := by
  go_enter Tryz.func4, Tryz.ntmps4
  go_wp2_with fail
  go_fit (H1.out _ (ba (ba (Below.refl _ _) _) _))
  rintro e w1 ⟨rfl, b1⟩
  obtain ⟨ka, kb, b1⟩ := al2 b1
  have sz := b1.size
  have bb := b1
  clear b1
  have ta := ka.lt
  have tb := kb.lt
  clear ta tb
  have ca_0 := cel2_0' ka
  have ca_1 := cel2_1' ka
  have cb_2 := cel2_0' kb
  have cb_3 := cel2_1' kb
  have ca_4 := cel2_0' (ka.alloc (.cells #[.bool false, .string { data := #[] }, .string { data := #[] }] 26))
  have ca_5 := cel2_1' (ka.alloc (.cells #[.bool false, .string { data := #[] }, .string { data := #[] }] 26))
  have cb_6 := cel2_0' (kb.alloc (.cells #[.bool false, .string { data := #[] }, .string { data := #[] }] 26))
  have cb_7 := cel2_1' (kb.alloc (.cells #[.bool false, .string { data := #[] }, .string { data := #[] }] 26))
  go_wp2_with fail
  clear ca_0 ca_1 cb_2 cb_3 ca_4 ca_5 cb_6 cb_7
  go_fit (H2.out _)
  rintro e w2 ⟨rfl, b1⟩
  obtain ⟨kq, b1⟩ := al1 b1
  have sz := b1.size
  replace ka := ka.below b1
  replace kb := kb.below b1
  replace bb := Below.after bb b1
  clear b1
  have tq := kq.lt
  clear tq
  have ca_0 := cel2_0' ka
  have ca_1 := cel2_1' ka
  have cb_2 := cel2_0' kb
  have cb_3 := cel2_1' kb
  have cq_4 := cel3_0 kq
  have cq_5 := cel3_1 kq
  have cq_6 := cel3_2 kq
  go_wp2_with fail
  clear ca_0 ca_1 cb_2 cb_3 cq_4 cq_5 cq_6
  go_fit (HL.out _ bb)
  rintro e w3 ⟨rfl, b1⟩
  have sz := b1.size
  replace ka := ka.below b1
  replace kb := kb.below b1
  replace kq := kq.below b1
  replace bb := Below.after bb b1
  clear b1
  go_wp2
  go_ret
  exact ⟨rfl, bb⟩
set_option maxRecDepth 100000 in
set_option maxHeartbeats 8000000 in
theorem makes_ok (n0 n1 qN pN : Bool) (s0 s1 qS qD pS pD : ByteArray) (x : Int) (h0 : ¬ (200 : Int) < s0.size) (h1 : ¬ (200 : Int) < s1.size) (hs : s1.toList.isEmpty = false) (w : World)
    (HL : Hid (∀ w1, Below w.heap.size w w1 → Calls Tryz.prog 10 #[] w1 fun e w' => e = .returned (.bool true) ∧ Below w1.heap.size w1 w'))
    (H1 : Hid (∀ w1, Below w.heap.size w w1 → Calls Tryz.prog 22 #[.agg #[.bool n0, .string s0], .agg #[.bool n1, .string s1]] w1 fun e w' => e = .returned (.tuple #[.agg #[.bool qN, .string qS, .string qD], .int .i64 0]) ∧ Below w1.heap.size w1 w'))
    (H2 : Hid (∀ w1, Calls Tryz.prog 23 #[.agg #[.bool n0, .string s0], .agg #[.bool n1, .string s1]] w1 fun e w' => e = .returned (.int .i64 0) ∧ Below w1.heap.size w1 w'))
    (H3 : Hid (∀ w1, Calls Tryz.prog 24 #[.agg #[.bool n0, .string s0], .agg #[.bool n1, .string s1]] w1 fun e w' => e = .returned (.agg #[.bool qN, .string qS, .string qD]) ∧ Below w1.heap.size w1 w'))
    (H4 : Hid (∀ w1, Calls Tryz.prog 25 #[.int .i64 x] w1 fun e w' => e = .returned (.agg #[.bool pN, .string pS, .string pD]) ∧ Below w1.heap.size w1 w'))
    (H5 : Hid (∀ w1, Calls Tryz.prog 26 #[.int .i64 x] w1 fun e w' => e = .returned (.agg #[.bool pN, .string pS, .string pD]) ∧ Below w1.heap.size w1 w')) :
    Calls Tryz.prog 4 #[.agg #[.bool n0, .string s0], .agg #[.bool n1, .string s1], .int .i64 x] w fun e w' => e = .returned (.bool true) ∧ Below w.heap.size w w' := by
  go_enter Tryz.func4, Tryz.ntmps4
  go_wp2_with fail
  go_fit (H1.out _ (ba (ba (Below.refl _ _) _) _))
  rintro e w1 ⟨rfl, b1⟩
  obtain ⟨ka, kb, b1⟩ := al2 b1
  have sz := b1.size
  have bb := b1
  clear b1
  have ta := ka.lt
  have tb := kb.lt
  clear ta tb
  have ca_0 := cel2_0' ka
  have ca_1 := cel2_1' ka
  have cb_2 := cel2_0' kb
  have cb_3 := cel2_1' kb
  have ca_4 := cel2_0' (ka.alloc (.cells #[.bool qN, .string qS, .string qD] 26))
  have ca_5 := cel2_1' (ka.alloc (.cells #[.bool qN, .string qS, .string qD] 26))
  have cb_6 := cel2_0' (kb.alloc (.cells #[.bool qN, .string qS, .string qD] 26))
  have cb_7 := cel2_1' (kb.alloc (.cells #[.bool qN, .string qS, .string qD] 26))
  go_wp2_with fail
  clear ca_0 ca_1 cb_2 cb_3 ca_4 ca_5 cb_6 cb_7
  go_fit (H2.out _)
  rintro e w2 ⟨rfl, b1⟩
  obtain ⟨kq, b1⟩ := al1 b1
  have sz := b1.size
  replace ka := ka.below b1
  replace kb := kb.below b1
  replace bb := Below.after bb b1
  clear b1
  have tq := kq.lt
  clear tq
  have ca_0 := cel2_0' ka
  have ca_1 := cel2_1' ka
  have cb_2 := cel2_0' kb
  have cb_3 := cel2_1' kb
  have cq_4 := cel3_0 kq
  have cq_5 := cel3_1 kq
  have cq_6 := cel3_2 kq
  go_wp2_with fail
  clear b1
  clear ca_0 ca_1 cb_2 cb_3 cq_4 cq_5 cq_6
  go_region_held3 (fun w' => w'.cell? ⟨w.heap.size, 0, none⟩ = some (.bool n0) ∧ w'.cell? ⟨w.heap.size, 1, none⟩ = some (.string s0) ∧ w'.cell? ⟨w.heap.size + 1, 0, none⟩ = some (.bool n1) ∧ w'.cell? ⟨w.heap.size + 1, 1, none⟩ = some (.string s1) ∧ w'.cell? ⟨w1.heap.size, 0, none⟩ = some (.bool qN) ∧ w'.cell? ⟨w1.heap.size, 1, none⟩ = some (.string qS) ∧ w'.cell? ⟨w1.heap.size, 2, none⟩ = some (.string qD)) (exact ⟨cel2_0' ka, cel2_1' ka, cel2_0' kb, cel2_1' kb, cel3_0 kq, cel3_1 kq, cel3_2 kq⟩) (first | (go_at_call 24; go_fit (H3.out _); rintro e wn ⟨rfl, bn⟩; replace ka := ka.below ⟨bn.os, bn.tape, bn.output, bn.size, bn.block⟩; replace kb := kb.below ⟨bn.os, bn.tape, bn.output, bn.size, bn.block⟩; replace kq := kq.below ⟨bn.os, bn.tape, bn.output, bn.size, bn.block⟩; replace bb := Below.after bb ⟨bn.os, bn.tape, bn.output, bn.size, bn.block⟩) | (go_at_call 25; go_fit (H4.out _); rintro e wn ⟨rfl, bn⟩; replace ka := ka.below ⟨bn.os, bn.tape, bn.output, bn.size, bn.block⟩; replace kb := kb.below ⟨bn.os, bn.tape, bn.output, bn.size, bn.block⟩; replace kq := kq.below ⟨bn.os, bn.tape, bn.output, bn.size, bn.block⟩; replace bb := Below.after bb ⟨bn.os, bn.tape, bn.output, bn.size, bn.block⟩) | (go_at_call 26; go_fit (H5.out _); rintro e wn ⟨rfl, bn⟩; replace ka := ka.below ⟨bn.os, bn.tape, bn.output, bn.size, bn.block⟩; replace kb := kb.below ⟨bn.os, bn.tape, bn.output, bn.size, bn.block⟩; replace kq := kq.below ⟨bn.os, bn.tape, bn.output, bn.size, bn.block⟩; replace bb := Below.after bb ⟨bn.os, bn.tape, bn.output, bn.size, bn.block⟩) | (go_at_call 10; go_fit (HL.out _ ?_); (first | exact bb | exact bb.drew); rintro e wn ⟨rfl, bn⟩; replace ka := ka.below ⟨bn.os, bn.tape, bn.output, bn.size, bn.block⟩; replace kb := kb.below ⟨bn.os, bn.tape, bn.output, bn.size, bn.block⟩; replace kq := kq.below ⟨bn.os, bn.tape, bn.output, bn.size, bn.block⟩; replace bb := Below.after bb ⟨bn.os, bn.tape, bn.output, bn.size, bn.block⟩))
  go_wp2
  go_ret
  exact ⟨rfl, bb⟩
end Go.Proofs.YtlihcbeacjimkaaGreatDoor
