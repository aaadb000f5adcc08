/-
  gussetlaw03: RatSums, walked.
  gussetlaw03.RatSums.
-/
import Derived.Test.YtdbnkcimcpnpdaaGreatDoorG42
import Derived.Test.YtdbnkcimcpnpdaaGreatDoorG49
import Derived.Test.YtdbnkcimcpnpdaaGreatDoorG52
namespace Go.Proofs.YtdbnkcimcpnpdaaGreatDoor
open Go.RowKit Go.Shelf

set_option maxRecDepth 100000 in
set_option maxHeartbeats 8000000 in
theorem sums_l (n0 n1 : Bool) (s0 d0 s1 d1 : ByteArray) (w : World)
  (HL : Hid (∀ w1, Below w.heap.size w w1 → Calls Tryz.prog 10 #[] w1 fun e w' => e = .returned (.bool true) ∧ Below w1.heap.size w1 w'))
  (F0 : Hid (∀ w1, Calls Tryz.prog 9 #[.agg #[.bool n0, .string s0, .string d0], .agg #[.bool n1, .string s1, .string d1]] w1 fun e w' => e = .returned (.bool false) ∧ Below w1.heap.size w1 w')) :
  Calls Tryz.prog 3 #[.agg #[.bool n0, .string s0, .string d0], .agg #[.bool n1, .string s1, .string d1]] w fun e w' => e = .returned (.bool true) ∧ Below w.heap.size w w' := by
 go_enter Tryz.func3, Tryz.ntmps3
 go_wp2_with fail
 go_fit (F0.out _)
 rintro e w1 ⟨rfl, b1⟩
 obtain ⟨ka, kb, b1⟩ := al2 b1
 have sz := b1.size
 have bb := b1
 clear b1
 have ta := ka.lt
 have tb := kb.lt
 clear ta tb
 go_wp2_with fail
 go_fit (HL.out _ bb)
 rintro e w2 ⟨rfl, b1⟩
 have sz := b1.size
 replace ka := ka.below b1
 replace kb := kb.below b1
 replace bb := Below.after bb b1
 clear b1
 go_wp2
 go_ret
 exact ⟨rfl, bb⟩
set_option maxRecDepth 100000 in
set_option maxHeartbeats 8000000 in
theorem sums_ok (n0 n1 xN yN : Bool) (s0 d0 s1 d1 xS xD yS yD : ByteArray) (C N : Int) (w : World)
  (HL : Hid (∀ w1, Below w.heap.size w w1 → Calls Tryz.prog 10 #[] w1 fun e w' => e = .returned (.bool true) ∧ Below w1.heap.size w1 w'))
  (F0 : Hid (∀ w1, Calls Tryz.prog 9 #[.agg #[.bool n0, .string s0, .string d0], .agg #[.bool n1, .string s1, .string d1]] w1 fun e w' => e = .returned (.bool true) ∧ Below w1.heap.size w1 w'))
  (H1 : Hid (∀ w1, Below w.heap.size w w1 → Calls Tryz.prog 11 #[.agg #[.bool n0, .string s0, .string d0], .agg #[.bool n1, .string s1, .string d1]] w1 fun e w' => e = .returned (.tuple #[.int .i64 C, .int .i64 0]) ∧ Below w1.heap.size w1 w'))
  (H2 : Hid (∀ w1, Below w.heap.size w w1 → Calls Tryz.prog 12 #[.agg #[.bool n0, .string s0, .string d0], .agg #[.bool n1, .string s1, .string d1]] w1 fun e w' => e = .returned (.tuple #[.agg #[.bool xN, .string xS, .string xD], .int .i64 0]) ∧ Below w1.heap.size w1 w'))
  (H3 : Hid (∀ w1, Below w.heap.size w w1 → Calls Tryz.prog 13 #[.agg #[.bool n0, .string s0, .string d0], .agg #[.bool n1, .string s1, .string d1]] w1 fun e w' => e = .returned (.tuple #[.agg #[.bool yN, .string yS, .string yD], .int .i64 0]) ∧ Below w1.heap.size w1 w'))
  (H4 : Hid (∀ w1, Below w.heap.size w w1 → Calls Tryz.prog 14 #[.agg #[.bool n0, .string s0, .string d0]] w1 fun e w' => e = .returned (.tuple #[.int .i64 N, .int .i64 0]) ∧ Below w1.heap.size w1 w'))
  (H5 : Hid (∀ w1, Calls Tryz.prog 15 #[.agg #[.bool n0, .string s0, .string d0], .agg #[.bool n1, .string s1, .string d1]] w1 fun e w' => e = .returned (.int .i64 C) ∧ Below w1.heap.size w1 w'))
  (H6 : Hid (∀ w1, Calls Tryz.prog 16 #[.agg #[.bool n0, .string s0, .string d0], .agg #[.bool n1, .string s1, .string d1]] w1 fun e w' => e = .returned (.agg #[.bool xN, .string xS, .string xD]) ∧ Below w1.heap.size w1 w'))
  (H7 : Hid (∀ w1, Calls Tryz.prog 17 #[.agg #[.bool n0, .string s0, .string d0], .agg #[.bool n1, .string s1, .string d1]] w1 fun e w' => e = .returned (.agg #[.bool yN, .string yS, .string yD]) ∧ Below w1.heap.size w1 w'))
  (H8 : Hid (∀ w1, Calls Tryz.prog 18 #[.agg #[.bool n0, .string s0, .string d0]] w1 fun e w' => e = .returned (.int .i64 N) ∧ Below w1.heap.size w1 w')) :
  Calls Tryz.prog 3 #[.agg #[.bool n0, .string s0, .string d0], .agg #[.bool n1, .string s1, .string d1]] w fun e w' => e = .returned (.bool true) ∧ Below w.heap.size w w' := by
 go_enter Tryz.func3, Tryz.ntmps3
 go_wp2_with fail
 go_fit (F0.out _)
 rintro e w1 ⟨rfl, b1⟩
 obtain ⟨ka, kb, b1⟩ := al2 b1
 have sz := b1.size
 have bb := b1
 clear b1
 have ta := ka.lt
 have tb := kb.lt
 clear ta tb
 have ca_0 := cel3_0 ka
 have ca_1 := cel3_1 ka
 have ca_2 := cel3_2 ka
 have cb_3 := cel3_0 kb
 have cb_4 := cel3_1 kb
 have cb_5 := cel3_2 kb
 go_wp2_with fail
 clear ca_0 ca_1 ca_2 cb_3 cb_4 cb_5
 go_fit (H1.out _ bb)
 rintro e w2 ⟨rfl, b1⟩
 have sz := b1.size
 replace ka := ka.below b1
 replace kb := kb.below b1
 replace bb := Below.after bb b1
 clear b1
 have ca_0 := cel3_0 ka
 have ca_1 := cel3_1 ka
 have ca_2 := cel3_2 ka
 have cb_3 := cel3_0 kb
 have cb_4 := cel3_1 kb
 have cb_5 := cel3_2 kb
 go_wp2_with fail
 clear ca_0 ca_1 ca_2 cb_3 cb_4 cb_5
 go_fit (H2.out _ bb)
 rintro e w3 ⟨rfl, b1⟩
 have sz := b1.size
 replace ka := ka.below b1
 replace kb := kb.below b1
 replace bb := Below.after bb b1
 clear b1
 have ca_0 := cel3_0 ka
 have ca_1 := cel3_1 ka
 have ca_2 := cel3_2 ka
 have cb_3 := cel3_0 kb
 have cb_4 := cel3_1 kb
 have cb_5 := cel3_2 kb
 have ca_6 := cel3_0 (ka.alloc (.cells #[.bool xN, .string xS, .string xD] 26))
 have ca_7 := cel3_1 (ka.alloc (.cells #[.bool xN, .string xS, .string xD] 26))
 have ca_8 := cel3_2 (ka.alloc (.cells #[.bool xN, .string xS, .string xD] 26))
 have cb_9 := cel3_0 (kb.alloc (.cells #[.bool xN, .string xS, .string xD] 26))
 have cb_10 := cel3_1 (kb.alloc (.cells #[.bool xN, .string xS, .string xD] 26))
 have cb_11 := cel3_2 (kb.alloc (.cells #[.bool xN, .string xS, .string xD] 26))
 go_wp2_with fail
 clear ca_0 ca_1 ca_2 cb_3 cb_4 cb_5 ca_6 ca_7 ca_8 cb_9 cb_10 cb_11
 go_fit (H3.out _ (ba bb _))
 rintro e w4 ⟨rfl, b1⟩
 obtain ⟨kx, b1⟩ := al1 b1
 have sz := b1.size
 replace ka := ka.below b1
 replace kb := kb.below b1
 replace bb := Below.after bb b1
 clear b1
 have tx := kx.lt
 clear tx
 have ca_0 := cel3_0 ka
 have ca_1 := cel3_1 ka
 have ca_2 := cel3_2 ka
 have cb_3 := cel3_0 kb
 have cb_4 := cel3_1 kb
 have cb_5 := cel3_2 kb
 have cx_6 := cel3_0 kx
 have cx_7 := cel3_1 kx
 have cx_8 := cel3_2 kx
 have ca_9 := cel3_0 (ka.alloc (.cells #[.bool yN, .string yS, .string yD] 26))
 have ca_10 := cel3_1 (ka.alloc (.cells #[.bool yN, .string yS, .string yD] 26))
 have ca_11 := cel3_2 (ka.alloc (.cells #[.bool yN, .string yS, .string yD] 26))
 have cb_12 := cel3_0 (kb.alloc (.cells #[.bool yN, .string yS, .string yD] 26))
 have cb_13 := cel3_1 (kb.alloc (.cells #[.bool yN, .string yS, .string yD] 26))
 have cb_14 := cel3_2 (kb.alloc (.cells #[.bool yN, .string yS, .string yD] 26))
 have cx_15 := cel3_0 (kx.alloc (.cells #[.bool yN, .string yS, .string yD] 26))
 have cx_16 := cel3_1 (kx.alloc (.cells #[.bool yN, .string yS, .string yD] 26))
 have cx_17 := cel3_2 (kx.alloc (.cells #[.bool yN, .string yS, .string yD] 26))
 go_wp2_with fail
 clear ca_0 ca_1 ca_2 cb_3 cb_4 cb_5 cx_6 cx_7 cx_8 ca_9 ca_10 ca_11 cb_12 cb_13 cb_14 cx_15 cx_16 cx_17
 go_fit (H4.out _ (ba bb _))
 rintro e w5 ⟨rfl, b1⟩
 obtain ⟨ky, b1⟩ := al1 b1
 have sz := b1.size
 replace ka := ka.below b1
 replace kb := kb.below b1
 replace kx := kx.below b1
 replace bb := Below.after bb b1
 clear b1
 have ty := ky.lt
 clear ty
 have ca_0 := cel3_0 ka
 have ca_1 := cel3_1 ka
 have ca_2 := cel3_2 ka
 have cb_3 := cel3_0 kb
 have cb_4 := cel3_1 kb
 have cb_5 := cel3_2 kb
 have cx_6 := cel3_0 kx
 have cx_7 := cel3_1 kx
 have cx_8 := cel3_2 kx
 have cy_9 := cel3_0 ky
 have cy_10 := cel3_1 ky
 have cy_11 := cel3_2 ky
 go_wp2_with fail
 clear ca_0 ca_1 ca_2 cb_3 cb_4 cb_5 cx_6 cx_7 cx_8 cy_9 cy_10 cy_11
 go_region_held3 (fun w' => w'.cell? ⟨w.heap.size, 0, none⟩ = some (.bool n0) ∧ w'.cell? ⟨w.heap.size, 1, none⟩ = some (.string s0) ∧ w'.cell? ⟨w.heap.size, 2, none⟩ = some (.string d0) ∧ w'.cell? ⟨w.heap.size + 1, 0, none⟩ = some (.bool n1) ∧ w'.cell? ⟨w.heap.size + 1, 1, none⟩ = some (.string s1) ∧ w'.cell? ⟨w.heap.size + 1, 2, none⟩ = some (.string d1) ∧ w'.cell? ⟨w3.heap.size, 0, none⟩ = some (.bool xN) ∧ w'.cell? ⟨w3.heap.size, 1, none⟩ = some (.string xS) ∧ w'.cell? ⟨w3.heap.size, 2, none⟩ = some (.string xD) ∧ w'.cell? ⟨w4.heap.size, 0, none⟩ = some (.bool yN) ∧ w'.cell? ⟨w4.heap.size, 1, none⟩ = some (.string yS) ∧ w'.cell? ⟨w4.heap.size, 2, none⟩ = some (.string yD)) (exact ⟨cel3_0 ka, cel3_1 ka, cel3_2 ka, cel3_0 kb, cel3_1 kb, cel3_2 kb, cel3_0 kx, cel3_1 kx, cel3_2 kx, cel3_0 ky, cel3_1 ky, cel3_2 ky⟩) (first | (go_at_call 15; go_fit (H5.out _); rintro e wn ⟨rfl, bn⟩; replace ka := ka.below ⟨bn.os, bn.tape, bn.output, bn.size, bn.block⟩; replace kb := kb.below ⟨bn.os, bn.tape, bn.output, bn.size, bn.block⟩; replace kx := kx.below ⟨bn.os, bn.tape, bn.output, bn.size, bn.block⟩; replace ky := ky.below ⟨bn.os, bn.tape, bn.output, bn.size, bn.block⟩; replace bb := Below.after bb ⟨bn.os, bn.tape, bn.output, bn.size, bn.block⟩) | (go_at_call 16; go_fit (H6.out _); rintro e wn ⟨rfl, bn⟩; replace ka := ka.below ⟨bn.os, bn.tape, bn.output, bn.size, bn.block⟩; replace kb := kb.below ⟨bn.os, bn.tape, bn.output, bn.size, bn.block⟩; replace kx := kx.below ⟨bn.os, bn.tape, bn.output, bn.size, bn.block⟩; replace ky := ky.below ⟨bn.os, bn.tape, bn.output, bn.size, bn.block⟩; replace bb := Below.after bb ⟨bn.os, bn.tape, bn.output, bn.size, bn.block⟩) | (go_at_call 17; go_fit (H7.out _); rintro e wn ⟨rfl, bn⟩; replace ka := ka.below ⟨bn.os, bn.tape, bn.output, bn.size, bn.block⟩; replace kb := kb.below ⟨bn.os, bn.tape, bn.output, bn.size, bn.block⟩; replace kx := kx.below ⟨bn.os, bn.tape, bn.output, bn.size, bn.block⟩; replace ky := ky.below ⟨bn.os, bn.tape, bn.output, bn.size, bn.block⟩; replace bb := Below.after bb ⟨bn.os, bn.tape, bn.output, bn.size, bn.block⟩) | (go_at_call 18; go_fit (H8.out _); rintro e wn ⟨rfl, bn⟩; replace ka := ka.below ⟨bn.os, bn.tape, bn.output, bn.size, bn.block⟩; replace kb := kb.below ⟨bn.os, bn.tape, bn.output, bn.size, bn.block⟩; replace kx := kx.below ⟨bn.os, bn.tape, bn.output, bn.size, bn.block⟩; replace ky := ky.below ⟨bn.os, bn.tape, bn.output, bn.size, bn.block⟩; replace bb := Below.after bb ⟨bn.os, bn.tape, bn.output, bn.size, bn.block⟩) | (go_at_call 10; go_fit (HL.out _ ?_); (first | exact bb | exact bb.drew); rintro e wn ⟨rfl, bn⟩; replace ka := ka.below ⟨bn.os, bn.tape, bn.output, bn.size, bn.block⟩; replace kb := kb.below ⟨bn.os, bn.tape, bn.output, bn.size, bn.block⟩; replace kx := kx.below ⟨bn.os, bn.tape, bn.output, bn.size, bn.block⟩; replace ky := ky.below ⟨bn.os, bn.tape, bn.output, bn.size, bn.block⟩; replace bb := Below.after bb ⟨bn.os, bn.tape, bn.output, bn.size, bn.block⟩))
 go_wp2
 go_ret
 exact ⟨rfl, bb⟩
end Go.Proofs.YtdbnkcimcpnpdaaGreatDoor
namespace Go.Proofs.YtdbnkcimcpnpdaaGreatDoor
open Go.RowKit Go.Shelf

theorem rsignq_any (n : Bool) (s d : ByteArray) (w : World) (o : OkQ n s d) :
  Calls Tryz.prog 18 #[.agg #[.bool n, .string s, .string d]] w fun e w' => e = .returned (.int .i64 (Q.cmp (qOf n s d) 0)) ∧ Below w.heap.size w w' := by
 by_cases hs : 0 < s.size
 ·have hp := natOf_pos o.1.1 hs
  cases n with
  | true =>
   have e : Q.cmp (qOf true s d) 0 = -1 := by
    unfold Q.cmp
    rw [if_pos ((Q.lt0 _).2 (by rw [o.low.1]; show -((natOf s : Nat) : Int) < 0; omega))]
   rw [e]
   exact rsign_neg s d w
  | false =>
   have e : Q.cmp (qOf false s d) 0 = 1 := by
    unfold Q.cmp
    rw [if_neg (fun h => by have := (Q.lt0 _).1 h; rw [o.low.1, zOf_false] at this; omega), if_pos ((Q.gt0 _).2 (by rw [o.low.1, zOf_false]; omega))]
   rw [e]
   exact rsign_pos s d (isE hp) w
 ·have e1 : s = ByteArray.empty := ByteArray.size_eq_zero_iff.1 (by omega)
  subst e1
  have en : n = false := by
   cases n with
   | false => rfl
   | true => exact absurd (o.1.2 rfl) (by decide)
  subst en
  have e : Q.cmp (qOf false ByteArray.empty d) 0 = 0 := by
   have hn : (qOf false ByteArray.empty d).num = 0 := by rw [o.low.1]; rfl
   unfold Q.cmp
   rw [if_neg (fun h => by have := (Q.lt0 _).1 h; omega), if_neg (fun h => by have := (Q.gt0 _).1 h; omega)]
  rw [e]
  exact rsign_zero d w
theorem sums_law (n0 n1 : Bool) (s0 d0 s1 d1 : ByteArray) (w : World) (hT : Tab w) (hP : TabP w) :
  Calls Tryz.prog 3 #[.agg #[.bool n0, .string s0, .string d0], .agg #[.bool n1, .string s1, .string d1]] w fun e w' => e = .returned (.bool true) ∧ Below w.heap.size w w' := by
 have HL : Hid (∀ w1, Below w.heap.size w w1 → Calls Tryz.prog 10 #[] w1 fun e w' => e = .returned (.bool true) ∧ Below w1.heap.size w1 w') := fun w1 b => live3_any w1 (hT.below b) (hP.bel b)
 by_cases l0 : s0.size ≤ 120 ∧ d0.size ≤ 120
 ·have S0 : Hid (∀ w1, Calls Tryz.prog 34 #[.agg #[.bool n0, .string s0, .string d0]] w1 fun e w' => e = .returned (.bool true) ∧ Below w1.heap.size w1 w') := fun w1 => small3_yes n0 s0 d0 w1 l0.1 l0.2
  by_cases l1 : s1.size ≤ 120 ∧ d1.size ≤ 120
  ·have S1 : Hid (∀ w1, Calls Tryz.prog 34 #[.agg #[.bool n1, .string s1, .string d1]] w1 fun e w' => e = .returned (.bool true) ∧ Below w1.heap.size w1 w') := fun w1 => small3_yes n1 s1 d1 w1 l1.1 l1.2
   have hb := fun w1 => bothq_any n0 n1 s0 d0 s1 d1 w1 (by omega) (by omega) (by omega) (by omega)
   by_cases hab : twoq n0 s0 d0 n1 s1 d1 = 0
   ·rw [hab] at hb
    have c0 := (twoq_zero.1 hab).1
    have o0 := (chkq_zero c0).1
    have o1 := (chkq_zero (twoq_zero.1 hab).2).1
    obtain ⟨nf, sf, df, hf, hok, hsz, hq, hback⟩ := named3
    have F := fun w1 => fine_ok n0 n1 s0 d0 s1 d1 w1 S0 S1 hb
    have h1 := fun w1 (b : Below w.heap.size w w1) => qcmp_ok n0 n1 s0 d0 s1 d1 w1 (hT.below b) hab (K := 120) (by omega) l0.1 l0.2 l1.1 l1.2
    have h2 := fun w1 (b : Below w.heap.size w w1) => qadd_ok n0 n1 s0 d0 s1 d1 w1 (hT.below b) hab (K := 120) (by omega) l0.1 l0.2 l1.1 l1.2
    have h3 := fun w1 (b : Below w.heap.size w w1) => qsub_ok n0 n1 s0 d0 s1 d1 w1 (hT.below b) hab (K := 120) (by omega) l0.1 l0.2 l1.1 l1.2
    have h4 := fun w1 (b : Below w.heap.size w w1) => qsign_ok n0 s0 d0 w1 (hT.below b) c0
    have h5 := fun w1 => rorderq_any n0 n1 s0 d0 s1 d1 w1 o0 o1 (K := 120) (by omega) l0.1 l0.2 l1.1 l1.2
    have h6 := fun w1 => rsumq_any n0 n1 s0 d0 s1 d1 w1 o0 o1 (K := 120) (by omega) l0.1 l0.2 l1.1 l1.2
    have h7 := fun w1 => rlessq_any n0 n1 s0 d0 s1 d1 w1 o0 o1 (K := 120) (by omega) l0.1 l0.2 l1.1 l1.2
    have h8 := fun w1 => rsignq_any n0 s0 d0 w1 o0
    simp only [hf] at h2 h3 h6 h7
    exact sums_ok n0 n1 _ _ s0 d0 s1 d1 _ _ _ _ _ _ w HL F h1 h2 h3 h4 h5 h6 h7 h8
   ·exact sums_l n0 n1 s0 d0 s1 d1 w HL (fun w1 => fine_2 n0 n1 s0 d0 s1 d1 _ (by omega) w1 S0 S1 hb)
  ·exact sums_l n0 n1 s0 d0 s1 d1 w HL (fun w1 => fine_1 n0 n1 s0 d0 s1 d1 w1 S0 (fun w1 => small3_no n1 s1 d1 w1 l1))
 ·exact sums_l n0 n1 s0 d0 s1 d1 w HL (fun w1 => fine_0 n0 n1 s0 d0 s1 d1 w1 (fun w1 => small3_no n0 s0 d0 w1 l0))
end Go.Proofs.YtdbnkcimcpnpdaaGreatDoor
