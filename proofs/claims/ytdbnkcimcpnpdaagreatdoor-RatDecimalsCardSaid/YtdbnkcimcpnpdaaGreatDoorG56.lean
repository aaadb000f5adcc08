/-
  gussetlaw03: RatDecimals, walked.
  gussetlaw03.RatDecimals.
-/
import Derived.Test.YtdbnkcimcpnpdaaGreatDoorG55
namespace Go.Proofs.YtdbnkcimcpnpdaaGreatDoor
open Go.RowKit Go.Shelf

set_option maxRecDepth 100000 in
set_option maxHeartbeats 8000000 in
theorem decs_l1 (n0 : Bool) (s0 d0 : ByteArray) (P : Int) (h : (60 : Int) < s0.size) (w : World)
  (HL : Hid (∀ w1, Below w.heap.size w w1 → Calls Tryz.prog 10 #[] w1 fun e w' => e = .returned (.bool true) ∧ Below w1.heap.size w1 w')) :
  Calls Tryz.prog 7 #[.agg #[.bool n0, .string s0, .string d0], .int .i64 P] w fun e w' => e = .returned (.bool true) ∧ Below w.heap.size w w' := by
 go_enter Tryz.func7, Tryz.ntmps7
 go_wp2_with fail
 go_fit (HL.out _ (ba (Below.refl _ _) _))
 rintro e w1 ⟨rfl, b1⟩
 obtain ⟨ka, b1⟩ := al1 b1
 have sz := b1.size
 have bb := b1
 clear b1
 have ta := ka.lt
 clear ta
 go_wp2
 go_ret
 exact ⟨rfl, bb⟩
set_option maxRecDepth 100000 in
set_option maxHeartbeats 8000000 in
theorem decs_l2 (n0 : Bool) (s0 d0 : ByteArray) (P : Int) (h0 : ¬ (60 : Int) < s0.size) (h : (60 : Int) < d0.size) (w : World)
  (HL : Hid (∀ w1, Below w.heap.size w w1 → Calls Tryz.prog 10 #[] w1 fun e w' => e = .returned (.bool true) ∧ Below w1.heap.size w1 w')) :
  Calls Tryz.prog 7 #[.agg #[.bool n0, .string s0, .string d0], .int .i64 P] w fun e w' => e = .returned (.bool true) ∧ Below w.heap.size w w' := by
 go_enter Tryz.func7, Tryz.ntmps7
 go_wp2_with fail
 go_fit (HL.out _ (ba (Below.refl _ _) _))
 rintro e w1 ⟨rfl, b1⟩
 obtain ⟨ka, b1⟩ := al1 b1
 have sz := b1.size
 have bb := b1
 clear b1
 have ta := ka.lt
 clear ta
 go_wp2
 go_ret
 exact ⟨rfl, bb⟩
set_option maxRecDepth 100000 in
set_option maxHeartbeats 8000000 in
theorem decs_l3 (n0 : Bool) (s0 d0 : ByteArray) (P : Int) (h0 : ¬ (60 : Int) < s0.size) (h : ¬ (60 : Int) < d0.size) (c : Int) (hc : ¬ c = 0) (w : World)
  (HL : Hid (∀ w1, Below w.heap.size w w1 → Calls Tryz.prog 10 #[] w1 fun e w' => e = .returned (.bool true) ∧ Below w1.heap.size w1 w'))
  (K0 : Hid (∀ w1, Calls Tryz.prog 25 #[.agg #[.bool n0, .string s0, .string d0]] w1 fun e w' => e = .returned (.int .i64 c) ∧ Below w1.heap.size w1 w')) :
  Calls Tryz.prog 7 #[.agg #[.bool n0, .string s0, .string d0], .int .i64 P] w fun e w' => e = .returned (.bool true) ∧ Below w.heap.size w w' := by
 go_enter Tryz.func7, Tryz.ntmps7
 go_wp2_with fail
 go_fit (K0.out _)
 rintro e w1 ⟨rfl, b1⟩
 obtain ⟨ka, b1⟩ := al1 b1
 have sz := b1.size
 have bb := b1
 clear b1
 have ta := ka.lt
 clear ta
 have ca_0 := cel3_0 ka
 have ca_1 := cel3_1 ka
 have ca_2 := cel3_2 ka
 go_wp2_with fail
 clear ca_0 ca_1 ca_2
 go_fit (HL.out _ bb)
 rintro e w2 ⟨rfl, b1⟩
 have sz := b1.size
 replace ka := ka.below b1
 replace bb := Below.after bb b1
 clear b1
 go_wp2
 go_ret
 exact ⟨rfl, bb⟩
set_option maxRecDepth 100000 in
set_option maxHeartbeats 8000000 in
theorem decs_low (n0 : Bool) (s0 d0 : ByteArray) (P : Int) (h0 : ¬ (60 : Int) < s0.size) (h : ¬ (60 : Int) < d0.size) (hp : P < 0) (w : World)
  (HL : Hid (∀ w1, Below w.heap.size w w1 → Calls Tryz.prog 10 #[] w1 fun e w' => e = .returned (.bool true) ∧ Below w1.heap.size w1 w'))
  (K0 : Hid (∀ w1, Calls Tryz.prog 25 #[.agg #[.bool n0, .string s0, .string d0]] w1 fun e w' => e = .returned (.int .i64 0) ∧ Below w1.heap.size w1 w'))
  (D0 : Hid (∀ w1, Below w.heap.size w w1 → Calls Tryz.prog 28 #[.agg #[.bool n0, .string s0, .string d0], .int .i64 P] w1 fun e w' => e = .returned (.tuple #[.string { data := #[] }, .int .i64 1]) ∧ Below w1.heap.size w1 w')) :
  Calls Tryz.prog 7 #[.agg #[.bool n0, .string s0, .string d0], .int .i64 P] w fun e w' => e = .returned (.bool true) ∧ Below w.heap.size w w' := by
 go_enter Tryz.func7, Tryz.ntmps7
 go_wp2_with fail
 go_fit (K0.out _)
 rintro e w1 ⟨rfl, b1⟩
 obtain ⟨ka, b1⟩ := al1 b1
 have sz := b1.size
 have bb := b1
 clear b1
 have ta := ka.lt
 clear ta
 have ca_0 := cel3_0 ka
 have ca_1 := cel3_1 ka
 have ca_2 := cel3_2 ka
 go_wp2_with fail
 clear ca_0 ca_1 ca_2
 go_fit (D0.out _ bb)
 rintro e w2 ⟨rfl, b1⟩
 have sz := b1.size
 replace ka := ka.below b1
 replace bb := Below.after bb b1
 clear b1
 have ca_0 := cel3_0 ka
 have ca_1 := cel3_1 ka
 have ca_2 := cel3_2 ka
 go_wp2_with fail
 clear ca_0 ca_1 ca_2
 go_fit (HL.out _ bb)
 rintro e w3 ⟨rfl, b1⟩
 have sz := b1.size
 replace ka := ka.below b1
 replace bb := Below.after bb b1
 clear b1
 go_wp2
 go_ret
 exact ⟨rfl, bb⟩
set_option maxRecDepth 100000 in
set_option maxHeartbeats 8000000 in
theorem decs_high (n0 : Bool) (s0 d0 : ByteArray) (P : Int) (h0 : ¬ (60 : Int) < s0.size) (h : ¬ (60 : Int) < d0.size) (hp0 : ¬ P < 0) (hp : 100 < P) (w : World)
  (HL : Hid (∀ w1, Below w.heap.size w w1 → Calls Tryz.prog 10 #[] w1 fun e w' => e = .returned (.bool true) ∧ Below w1.heap.size w1 w'))
  (K0 : Hid (∀ w1, Calls Tryz.prog 25 #[.agg #[.bool n0, .string s0, .string d0]] w1 fun e w' => e = .returned (.int .i64 0) ∧ Below w1.heap.size w1 w'))
  (D0 : Hid (∀ w1, Below w.heap.size w w1 → Calls Tryz.prog 28 #[.agg #[.bool n0, .string s0, .string d0], .int .i64 P] w1 fun e w' => e = .returned (.tuple #[.string { data := #[] }, .int .i64 1]) ∧ Below w1.heap.size w1 w')) :
  Calls Tryz.prog 7 #[.agg #[.bool n0, .string s0, .string d0], .int .i64 P] w fun e w' => e = .returned (.bool true) ∧ Below w.heap.size w w' := by
 go_enter Tryz.func7, Tryz.ntmps7
 go_wp2_with fail
 go_fit (K0.out _)
 rintro e w1 ⟨rfl, b1⟩
 obtain ⟨ka, b1⟩ := al1 b1
 have sz := b1.size
 have bb := b1
 clear b1
 have ta := ka.lt
 clear ta
 have ca_0 := cel3_0 ka
 have ca_1 := cel3_1 ka
 have ca_2 := cel3_2 ka
 go_wp2_with fail
 clear ca_0 ca_1 ca_2
 go_fit (D0.out _ bb)
 rintro e w2 ⟨rfl, b1⟩
 have sz := b1.size
 replace ka := ka.below b1
 replace bb := Below.after bb b1
 clear b1
 have ca_0 := cel3_0 ka
 have ca_1 := cel3_1 ka
 have ca_2 := cel3_2 ka
 go_wp2_with fail
 clear ca_0 ca_1 ca_2
 go_fit (HL.out _ bb)
 rintro e w3 ⟨rfl, b1⟩
 have sz := b1.size
 replace ka := ka.below b1
 replace bb := Below.after bb b1
 clear b1
 go_wp2
 go_ret
 exact ⟨rfl, bb⟩
set_option maxRecDepth 100000 in
set_option maxHeartbeats 8000000 in
theorem decs_ok (n0 : Bool) (s0 d0 : ByteArray) (P : Int) (h0 : ¬ (60 : Int) < s0.size) (h : ¬ (60 : Int) < d0.size) (R : ByteArray) (hp0 : ¬ P < 0) (hp : ¬ 100 < P) (w : World)
  (HL : Hid (∀ w1, Below w.heap.size w w1 → Calls Tryz.prog 10 #[] w1 fun e w' => e = .returned (.bool true) ∧ Below w1.heap.size w1 w'))
  (K0 : Hid (∀ w1, Calls Tryz.prog 25 #[.agg #[.bool n0, .string s0, .string d0]] w1 fun e w' => e = .returned (.int .i64 0) ∧ Below w1.heap.size w1 w'))
  (D0 : Hid (∀ w1, Below w.heap.size w w1 → Calls Tryz.prog 28 #[.agg #[.bool n0, .string s0, .string d0], .int .i64 P] w1 fun e w' => e = .returned (.tuple #[.string R, .int .i64 0]) ∧ Below w1.heap.size w1 w'))
  (H5 : Hid (∀ w1, Calls Tryz.prog 29 #[.agg #[.bool n0, .string s0, .string d0], .int .i64 P] w1 fun e w' => e = .returned (.string R) ∧ Below w1.heap.size w1 w')) :
  Calls Tryz.prog 7 #[.agg #[.bool n0, .string s0, .string d0], .int .i64 P] w fun e w' => e = .returned (.bool true) ∧ Below w.heap.size w w' := by
 go_enter Tryz.func7, Tryz.ntmps7
 go_wp2_with fail
 go_fit (K0.out _)
 rintro e w1 ⟨rfl, b1⟩
 obtain ⟨ka, b1⟩ := al1 b1
 have sz := b1.size
 have bb := b1
 clear b1
 have ta := ka.lt
 clear ta
 have ca_0 := cel3_0 ka
 have ca_1 := cel3_1 ka
 have ca_2 := cel3_2 ka
 go_wp2_with fail
 clear ca_0 ca_1 ca_2
 go_fit (D0.out _ bb)
 rintro e w2 ⟨rfl, b1⟩
 have sz := b1.size
 replace ka := ka.below b1
 replace bb := Below.after bb b1
 clear b1
 have ca_0 := cel3_0 ka
 have ca_1 := cel3_1 ka
 have ca_2 := cel3_2 ka
 go_wp2_with fail
 clear ca_0 ca_1 ca_2
 go_fit (H5.out _)
 rintro e w3 ⟨rfl, b1⟩
 have sz := b1.size
 replace ka := ka.below b1
 replace bb := Below.after bb b1
 clear b1
 go_wp2_with fail
 go_fit (HL.out _ bb)
 rintro e w4 ⟨rfl, b1⟩
 have sz := b1.size
 replace ka := ka.below b1
 replace bb := Below.after bb b1
 clear b1
 go_wp2
 go_ret
 exact ⟨rfl, bb⟩
end Go.Proofs.YtdbnkcimcpnpdaaGreatDoor
namespace Go.Proofs.YtdbnkcimcpnpdaaGreatDoor
open Go.RowKit Go.Shelf

theorem decimals_law (n0 : Bool) (s0 d0 : ByteArray) (P : Int) (w : World) (hT : Tab w) (hP : TabP w) :
  Calls Tryz.prog 7 #[.agg #[.bool n0, .string s0, .string d0], .int .i64 P] w fun e w' => e = .returned (.bool true) ∧ Below w.heap.size w w' := by
 have HL : Hid (∀ w1, Below w.heap.size w w1 → Calls Tryz.prog 10 #[] w1 fun e w' => e = .returned (.bool true) ∧ Below w1.heap.size w1 w') := fun w1 b => live3_any w1 (hT.below b) (hP.bel b)
 by_cases l0 : (60 : Int) < s0.size
 ·exact decs_l1 n0 s0 d0 P l0 w HL
 by_cases l1 : (60 : Int) < d0.size
 ·exact decs_l2 n0 s0 d0 P l0 l1 w HL
 have K := fun w1 => refc_any n0 s0 d0 w1 (by omega) (by omega)
 by_cases hc : chkq n0 s0 d0 = 0
 ·have o := (chkq_zero hc).1
  rw [hc] at K
  have HC := fun (w1 : World) (b : Below w.heap.size w w1) => show ∀ w2, Below w1.heap.size w1 w2 → Calls Tryz.prog 46 #[.agg #[.bool n0, .string s0, .string d0]] w2 fun e w' => e = .returned (.int .i64 0) ∧ Below w2.heap.size w2 w' from fun w2 b2 => by
   have := rchk_any n0 s0 d0 w2 (hT.below (Below.after b b2))
   rwa [hc] at this
  by_cases p0 : P < 0
  ·exact decs_low n0 s0 d0 P l0 l1 p0 w HL K (fun w1 b => dec_low n0 s0 d0 P p0 w1 (HC w1 b))
  by_cases p1 : 100 < P
  ·exact decs_high n0 s0 d0 P l0 l1 p0 p1 w HL K (fun w1 b => dec_high n0 s0 d0 P p0 p1 w1 (HC w1 b))
  obtain ⟨p, rfl⟩ : ∃ p : Nat, P = (p : Int) := ⟨P.toNat, by omega⟩
  exact decs_ok n0 s0 d0 p l0 l1 _ p0 p1 w HL K (fun w1 b => qdec_ok n0 s0 d0 p w1 (hT.below b) (hP.bel b) hc (by omega) (K := 60) (by omega) (by omega) (by omega)) (fun w1 => rdecq_any n0 s0 d0 p w1 o (by omega) (by omega) (by omega))
 ·exact decs_l3 n0 s0 d0 P l0 l1 _ (by omega) w HL K
end Go.Proofs.YtdbnkcimcpnpdaaGreatDoor
