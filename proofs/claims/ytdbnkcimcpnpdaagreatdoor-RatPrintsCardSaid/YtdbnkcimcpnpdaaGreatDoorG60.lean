/-
  gussetlaw03: RatPrints, walked.
  gussetlaw03.RatPrints.
-/
import Derived.Test.YtdbnkcimcpnpdaaGreatDoorG58
namespace Go.Proofs.YtdbnkcimcpnpdaaGreatDoor
open Go.RowKit Go.Shelf

set_option maxRecDepth 100000 in
set_option maxHeartbeats 8000000 in
theorem prts_l1 (n0 : Bool) (s0 d0 : ByteArray) (h : (24 : Int) < s0.size) (w : World)
  (HL : Hid (∀ w1, Below w.heap.size w w1 → Calls Tryz.prog 10 #[] w1 fun e w' => e = .returned (.bool true) ∧ Below w1.heap.size w1 w')) :
  Calls Tryz.prog 6 #[.agg #[.bool n0, .string s0, .string d0]] w fun e w' => e = .returned (.bool true) ∧ Below w.heap.size w w' := by
 go_enter Tryz.func6, Tryz.ntmps6
 go_wp2_with fail
 go_fit (HL.out _ (ba (Below.refl _ _) _))
 rintro e w1 ⟨rfl, b1⟩
 obtain ⟨ka, b1⟩ := al1 b1
 have sz := b1.size
 have bb := b1
 clear b1
 have ta := ka.lt
 clear ta
 go_wp2
 go_ret
 exact ⟨rfl, bb⟩
set_option maxRecDepth 100000 in
set_option maxHeartbeats 8000000 in
theorem prts_l2 (n0 : Bool) (s0 d0 : ByteArray) (h0 : ¬ (24 : Int) < s0.size) (h : (24 : Int) < d0.size) (w : World)
  (HL : Hid (∀ w1, Below w.heap.size w w1 → Calls Tryz.prog 10 #[] w1 fun e w' => e = .returned (.bool true) ∧ Below w1.heap.size w1 w')) :
  Calls Tryz.prog 6 #[.agg #[.bool n0, .string s0, .string d0]] w fun e w' => e = .returned (.bool true) ∧ Below w.heap.size w w' := by
 go_enter Tryz.func6, Tryz.ntmps6
 go_wp2_with fail
 go_fit (HL.out _ (ba (Below.refl _ _) _))
 rintro e w1 ⟨rfl, b1⟩
 obtain ⟨ka, b1⟩ := al1 b1
 have sz := b1.size
 have bb := b1
 clear b1
 have ta := ka.lt
 clear ta
 go_wp2
 go_ret
 exact ⟨rfl, bb⟩
set_option maxRecDepth 100000 in
set_option maxHeartbeats 8000000 in
theorem prts_l3 (n0 : Bool) (s0 d0 : ByteArray) (h0 : ¬ (24 : Int) < s0.size) (h : ¬ (24 : Int) < d0.size) (c : Int) (hc : ¬ c = 0) (w : World)
  (HL : Hid (∀ w1, Below w.heap.size w w1 → Calls Tryz.prog 10 #[] w1 fun e w' => e = .returned (.bool true) ∧ Below w1.heap.size w1 w'))
  (K0 : Hid (∀ w1, Calls Tryz.prog 25 #[.agg #[.bool n0, .string s0, .string d0]] w1 fun e w' => e = .returned (.int .i64 c) ∧ Below w1.heap.size w1 w')) :
  Calls Tryz.prog 6 #[.agg #[.bool n0, .string s0, .string d0]] w fun e w' => e = .returned (.bool true) ∧ Below w.heap.size w w' := by
 go_enter Tryz.func6, Tryz.ntmps6
 go_wp2_with fail
 go_fit (K0.out _)
 rintro e w1 ⟨rfl, b1⟩
 obtain ⟨ka, b1⟩ := al1 b1
 have sz := b1.size
 have bb := b1
 clear b1
 have ta := ka.lt
 clear ta
 have ca_0 := cel3_0 ka
 have ca_1 := cel3_1 ka
 have ca_2 := cel3_2 ka
 go_wp2_with fail
 clear ca_0 ca_1 ca_2
 go_fit (HL.out _ bb)
 rintro e w2 ⟨rfl, b1⟩
 have sz := b1.size
 replace ka := ka.below b1
 replace bb := Below.after bb b1
 clear b1
 go_wp2
 go_ret
 exact ⟨rfl, bb⟩
set_option maxRecDepth 100000 in
set_option maxHeartbeats 8000000 in
theorem prts_ok (n0 : Bool) (s0 d0 : ByteArray) (h0 : ¬ (24 : Int) < s0.size) (h : ¬ (24 : Int) < d0.size) (R : ByteArray) (w : World)
  (HL : Hid (∀ w1, Below w.heap.size w w1 → Calls Tryz.prog 10 #[] w1 fun e w' => e = .returned (.bool true) ∧ Below w1.heap.size w1 w'))
  (K0 : Hid (∀ w1, Calls Tryz.prog 25 #[.agg #[.bool n0, .string s0, .string d0]] w1 fun e w' => e = .returned (.int .i64 0) ∧ Below w1.heap.size w1 w'))
  (D0 : Hid (∀ w1, Below w.heap.size w w1 → Calls Tryz.prog 26 #[.agg #[.bool n0, .string s0, .string d0]] w1 fun e w' => e = .returned (.tuple #[.string R, .int .i64 0]) ∧ Below w1.heap.size w1 w'))
  (D1 : Hid (∀ w1, Below w.heap.size w w1 → Calls Tryz.prog 23 #[.string R] w1 fun e w' => e = .returned (.tuple #[.agg #[.bool n0, .string s0, .string d0], .int .i64 0]) ∧ Below w1.heap.size w1 w'))
  (H5 : Hid (∀ w1, Calls Tryz.prog 27 #[.agg #[.bool n0, .string s0, .string d0]] w1 fun e w' => e = .returned (.string R) ∧ Below w1.heap.size w1 w')) :
  Calls Tryz.prog 6 #[.agg #[.bool n0, .string s0, .string d0]] w fun e w' => e = .returned (.bool true) ∧ Below w.heap.size w w' := by
 go_enter Tryz.func6, Tryz.ntmps6
 go_wp2_with fail
 go_fit (K0.out _)
 rintro e w1 ⟨rfl, b1⟩
 obtain ⟨ka, b1⟩ := al1 b1
 have sz := b1.size
 have bb := b1
 clear b1
 have ta := ka.lt
 clear ta
 have ca_0 := cel3_0 ka
 have ca_1 := cel3_1 ka
 have ca_2 := cel3_2 ka
 go_wp2_with fail
 clear ca_0 ca_1 ca_2
 go_fit (D0.out _ bb)
 rintro e w2 ⟨rfl, b1⟩
 have sz := b1.size
 replace ka := ka.below b1
 replace bb := Below.after bb b1
 clear b1
 have ca_0 := cel3_0 ka
 have ca_1 := cel3_1 ka
 have ca_2 := cel3_2 ka
 go_wp2_with fail
 clear ca_0 ca_1 ca_2
 go_fit (D1.out _ bb)
 rintro e w3 ⟨rfl, b1⟩
 have sz := b1.size
 replace ka := ka.below b1
 replace bb := Below.after bb b1
 clear b1
 have ca_0 := cel3_0 ka
 have ca_1 := cel3_1 ka
 have ca_2 := cel3_2 ka
 have ca_3 := cel3_0 (ka.alloc (.cells #[.bool n0, .string s0, .string d0] 26))
 have ca_4 := cel3_1 (ka.alloc (.cells #[.bool n0, .string s0, .string d0] 26))
 have ca_5 := cel3_2 (ka.alloc (.cells #[.bool n0, .string s0, .string d0] 26))
 go_wp2_with fail
 clear ca_0 ca_1 ca_2 ca_3 ca_4 ca_5
 go_fit (H5.out _)
 rintro e w4 ⟨rfl, b1⟩
 obtain ⟨kb, b1⟩ := al1 b1
 have sz := b1.size
 replace ka := ka.below b1
 replace bb := Below.after bb b1
 clear b1
 have tb := kb.lt
 clear tb
 have ca_0 := cel3_0 ka
 have ca_1 := cel3_1 ka
 have ca_2 := cel3_2 ka
 have cb_3 := cel3_0 kb
 have cb_4 := cel3_1 kb
 have cb_5 := cel3_2 kb
 have ca_6 := cel3_0 ka
 have ca_7 := cel3_1 ka
 have ca_8 := cel3_2 ka
 have cb_9 := cel3_0 kb
 have cb_10 := cel3_1 kb
 have cb_11 := cel3_2 kb
 go_wp2_with fail
 clear ca_0 ca_1 ca_2 cb_3 cb_4 cb_5 ca_6 ca_7 ca_8 cb_9 cb_10 cb_11
 go_fit (HL.out _ bb)
 rintro e w5 ⟨rfl, b1⟩
 have sz := b1.size
 replace ka := ka.below b1
 replace kb := kb.below b1
 replace bb := Below.after bb b1
 clear b1
 go_wp2
 go_ret
 exact ⟨rfl, bb⟩
end Go.Proofs.YtdbnkcimcpnpdaaGreatDoor
namespace Go.Proofs.YtdbnkcimcpnpdaaGreatDoor
open Go.RowKit Go.Shelf

theorem rprints_law (n0 : Bool) (s0 d0 : ByteArray) (w : World) (hT : Tab w) (hP : TabP w) (hm : MaxL w) :
  Calls Tryz.prog 6 #[.agg #[.bool n0, .string s0, .string d0]] w fun e w' => e = .returned (.bool true) ∧ Below w.heap.size w w' := by
 have HL : Hid (∀ w1, Below w.heap.size w w1 → Calls Tryz.prog 10 #[] w1 fun e w' => e = .returned (.bool true) ∧ Below w1.heap.size w1 w') := fun w1 b => live3_any w1 (hT.below b) (hP.bel b)
 by_cases l0 : (24 : Int) < s0.size
 ·exact prts_l1 n0 s0 d0 l0 w HL
 by_cases l1 : (24 : Int) < d0.size
 ·exact prts_l2 n0 s0 d0 l0 l1 w HL
 have K := fun w1 => refc_any n0 s0 d0 w1 (by omega) (by omega)
 by_cases hc : chkq n0 s0 d0 = 0
 ·have o := (chkq_zero hc).1
  rw [hc] at K
  exact prts_ok n0 s0 d0 l0 l1 _ w HL K (fun w1 b => qprint_ok n0 s0 d0 w1 (hT.below b) (hP.bel b) hc (by omega) (by omega)) (fun w1 b => qparse_text n0 s0 d0 w1 (hT.below b) (hm.below b) o (by omega) (by omega)) (fun w1 => rtextq_any n0 s0 d0 w1 o (by omega) (by omega))
 ·exact prts_l3 n0 s0 d0 l0 l1 _ (by omega) w HL K
end Go.Proofs.YtdbnkcimcpnpdaaGreatDoor
