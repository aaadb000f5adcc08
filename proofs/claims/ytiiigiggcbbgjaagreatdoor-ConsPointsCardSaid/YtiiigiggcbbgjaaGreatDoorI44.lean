/-
  gussetlaw06: ConsPoints, walked.
  gussetlaw06: ConsAngles, walked; gussetref06: Far2.
  gussetlaw06: ConsNearest holds.
  gussetlaw06: ConsParts holds.
  gussetref06: Asked; gussetref05: Asked of one point.
  gussetlaw06: ConsPoints, walked.
  Two points: span.Check, gussetref05.Asked; package cons: Middle, Far2, walked.
  gussetlaw06: ConsPoints, walked.
  Package cons: Sharp, walked, where both ways are.
  Package span: no way to a centre.
-/
import Derived.Test.YtiiigiggcbbgjaaGreatDoorI43
set_option maxRecDepth 100000
set_option maxHeartbeats 16000000
namespace Go.Proofs.YtiiigiggcbbgjaaGreatDoor
open Go.RowKit
theorem points6_b (n0 n1 n2 n3 n4 n5 : Bool) (s0 d0 s1 d1 s2 d2 s3 d3 s4 d4 s5 d5 : ByteArray) (m0 m3 : Bool) (m1 m2 m4 m5 : ByteArray) (dN : Bool) (dS dD : ByteArray) (E : Int) (w : World) (hE : ¬ E = 0)
  (HS : Hid (∀ w1, Calls Tryz.prog 18 #[.agg #[.bool n0, .string s0, .string d0, .bool n1, .string s1, .string d1, .bool n2, .string s2, .string d2, .bool n3, .string s3, .string d3, .bool n4, .string s4, .string d4, .bool n5, .string s5, .string d5]] w1 (Re w1 (.bool true))))
  (MD : Hid (∀ w1, Below w.heap.size w w1 → Calls Tryz.prog 20 #[.agg #[.bool n0, .string s0, .string d0, .bool n1, .string s1, .string d1], .agg #[.bool n2, .string s2, .string d2, .bool n3, .string s3, .string d3]] w1 (Re w1 (.tuple #[.agg #[.bool m0, .string m1, .string m2, .bool m3, .string m4, .string m5], .int .i64 (0)]))))
  (FA : Hid (∀ w1, Below w.heap.size w w1 → Calls Tryz.prog 21 #[.agg #[.bool n0, .string s0, .string d0, .bool n1, .string s1, .string d1], .agg #[.bool n2, .string s2, .string d2, .bool n3, .string s3, .string d3]] w1 (Re w1 (.tuple #[.agg #[.bool dN, .string dS, .string dD], .int .i64 (0)]))))
  (CE : Hid (∀ w1, Below w.heap.size w w1 → Calls Tryz.prog 22 #[.agg #[.bool n0, .string s0, .string d0, .bool n1, .string s1, .string d1], .agg #[.bool n2, .string s2, .string d2, .bool n3, .string s3, .string d3], .agg #[.bool n4, .string s4, .string d4, .bool n5, .string s5, .string d5]] w1 (Re w1 (.tuple #[.agg #[.bool false, .string { data := #[] }, .string { data := #[] }, .bool false, .string { data := #[] }, .string { data := #[] }], .int .i64 (E)]))))
  (A2 : Hid (∀ (w1 : World) (B : Nat), Below w.heap.size w w1 → Cel w1 B [.bool n0, .string s0, .string d0, .bool n1, .string s1, .string d1, .bool n2, .string s2, .string d2, .bool n3, .string s3, .string d3] 28 → Calls Tryz.prog 9 #[.slice (some ⟨B, 0, none⟩) 2 2] w1 (Re w1 (.int .i64 (0)))))
  (HA : Hid (∀ w1, Below w.heap.size w w1 → Calls Tryz.prog 23 #[.agg #[.bool n0, .string s0, .string d0, .bool n1, .string s1, .string d1], .agg #[.bool n2, .string s2, .string d2, .bool n3, .string s3, .string d3], .agg #[.bool n4, .string s4, .string d4, .bool n5, .string s5, .string d5]] w1 (Re w1 (.int .i64 (E)))))
  (MI : Hid (∀ w1, Below w.heap.size w w1 → Calls Tryz.prog 24 #[.agg #[.bool n0, .string s0, .string d0, .bool n1, .string s1, .string d1], .agg #[.bool n2, .string s2, .string d2, .bool n3, .string s3, .string d3]] w1 (Re w1 (.agg #[.bool m0, .string m1, .string m2, .bool m3, .string m4, .string m5]))))
  (FR : Hid (∀ w1, Below w.heap.size w w1 → Calls Tryz.prog 25 #[.agg #[.bool n0, .string s0, .string d0, .bool n1, .string s1, .string d1], .agg #[.bool n2, .string s2, .string d2, .bool n3, .string s3, .string d3]] w1 (Re w1 (.agg #[.bool dN, .string dS, .string dD]))))
  (HL : Hid (∀ w1, Below w.heap.size w w1 → Calls Tryz.prog 19 #[] w1 (Re w1 (.bool true)))) :
  Calls Tryz.prog 4 #[.agg #[.bool n0, .string s0, .string d0, .bool n1, .string s1, .string d1, .bool n2, .string s2, .string d2, .bool n3, .string s3, .string d3, .bool n4, .string s4, .string d4, .bool n5, .string s5, .string d5]] w (Re w (.bool true)) := by
 go_enter Tryz.func4, Tryz.ntmps4
 go_wp2_with (first | (refine wpList_load_row rfl 45 _ rfl w.heap.size rfl 45 _ (0, 0) _ (Cel.new w [.bool n0, .string s0, .string d0, .bool n1, .string s1, .string d1, .bool n2, .string s2, .string d2, .bool n3, .string s3, .string d3, .bool n4, .string s4, .string d4, .bool n5, .string s5, .string d5] 45) Tryz.underlying45 rfl (by kernel_rfl) ?_) | fail)
 go_wp2_with fail
 go_fit (HS.out _)
 rintro e w1 ⟨rfl, b1⟩
 obtain ⟨kt, bb⟩ := al1 b1
 clear b1
 obtain ⟨c0, c1, c2, c3, c4, c5, c6, c7, c8, c9, c10, c11, c12, c13, c14, c15, c16, c17⟩ := c18 kt
 go_wp2_with fail
 go_fit (MD.out _ bb)
 rintro e w2 ⟨rfl, b1⟩
 replace kt := kt.below b1
 replace bb := Below.after bb b1
 clear b1
 clear c0 c1 c2 c3 c4 c5 c6 c7 c8 c9 c10 c11 c12 c13 c14 c15 c16 c17
 obtain ⟨c0, c1, c2, c3, c4, c5, c6, c7, c8, c9, c10, c11, c12, c13, c14, c15, c16, c17⟩ := c18 (kt.alloc (.cells #[.bool m0, .string m1, .string m2, .bool m3, .string m4, .string m5] 28))
 go_wp2_with fail
 obtain ⟨x2, hw, km, b1⟩ := mk1 w2 [.bool m0, .string m1, .string m2, .bool m3, .string m4, .string m5] 28
 rw [← hw]
 clear hw c0 c1 c2 c3 c4 c5 c6 c7 c8 c9 c10 c11 c12 c13 c14 c15 c16 c17
 replace kt := kt.below b1
 replace bb := Below.after bb b1
 clear b1
 go_fit (FA.out _ bb)
 rintro e w3 ⟨rfl, b1⟩
 replace kt := kt.below b1
 replace km := km.below b1
 replace bb := Below.after bb b1
 clear b1
 obtain ⟨c0, c1, c2, c3, c4, c5, c6, c7, c8, c9, c10, c11, c12, c13, c14, c15, c16, c17⟩ := c18 (kt.alloc (.cells #[.bool dN, .string dS, .string dD] 26))
 go_wp2_with fail
 obtain ⟨x3, hw, kd, b1⟩ := mk1 w3 [.bool dN, .string dS, .string dD] 26
 rw [← hw]
 clear hw c0 c1 c2 c3 c4 c5 c6 c7 c8 c9 c10 c11 c12 c13 c14 c15 c16 c17
 replace kt := kt.below b1
 replace km := km.below b1
 replace bb := Below.after bb b1
 clear b1
 go_fit (CE.out _ bb)
 rintro e w4 ⟨rfl, b1⟩
 replace kt := kt.below b1
 replace km := km.below b1
 replace kd := kd.below b1
 replace bb := Below.after bb b1
 clear b1
 obtain ⟨c0, c1, c2, c3, c4, c5, c6, c7, c8, c9, c10, c11, c12, c13, c14, c15, c16, c17⟩ := c18 (kt.alloc (.cells #[.bool false, .string { data := #[] }, .string { data := #[] }, .bool false, .string { data := #[] }, .string { data := #[] }] 28))
 go_wp2_with fail
 obtain ⟨x4, hw, kc, kl, b1⟩ := mk2 w4 [.bool false, .string { data := #[] }, .string { data := #[] }, .bool false, .string { data := #[] }, .string { data := #[] }] [.bool n0, .string s0, .string d0, .bool n1, .string s1, .string d1, .bool n2, .string s2, .string d2, .bool n3, .string s3, .string d3] 28 28
 rw [← hw]
 clear hw c0 c1 c2 c3 c4 c5 c6 c7 c8 c9 c10 c11 c12 c13 c14 c15 c16 c17
 replace kt := kt.below b1
 replace km := km.below b1
 replace kd := kd.below b1
 replace bb := Below.after bb b1
 clear b1
 go_fit (A2.out _ _ bb kl)
 rintro e w5 ⟨rfl, b1⟩
 replace kt := kt.below b1
 replace km := km.below b1
 replace kd := kd.below b1
 replace kc := kc.below b1
 replace bb := Below.after bb b1
 clear b1
 clear kl
 obtain ⟨c0, c1, c2, c3, c4, c5, c6, c7, c8, c9, c10, c11, c12, c13, c14, c15, c16, c17⟩ := c18 kt
 go_wp2_with fail
 go_fit (HA.out _ bb)
 rintro e w6 ⟨rfl, b1⟩
 replace kt := kt.below b1
 replace km := km.below b1
 replace kd := kd.below b1
 replace kc := kc.below b1
 replace bb := Below.after bb b1
 clear b1
 clear c0 c1 c2 c3 c4 c5 c6 c7 c8 c9 c10 c11 c12 c13 c14 c15 c16 c17
 go_wp2_with fail
 clear HS HA MD FA CE A2
 have bd := bdrew w6
 replace kt := kt.below bd
 replace km := km.below bd
 replace kd := kd.below bd
 replace kc := kc.below bd
 replace bb := Below.after bb bd
 clear bd
 refine wp_region_held_drew (S := fun w' => xc18 w' w.heap.size (.bool n0) (.string s0) (.string d0) (.bool n1) (.string s1) (.string d1) (.bool n2) (.string s2) (.string d2) (.bool n3) (.string s3) (.string d3) (.bool n4) (.string s4) (.string d4) (.bool n5) (.string s5) (.string d5) ∧ xc6 w' w2.heap.size (.bool m0) (.string m1) (.string m2) (.bool m3) (.string m4) (.string m5) ∧ xc3 w' w3.heap.size (.bool dN) (.string dS) (.string dD)) (by kernel_rfl) ⟨xk18 kt, xk6 km, xk3 kd⟩ (fun hS => ?_)
 refine WA.start (n := 30) (by kernel_rfl) ?_
 refine WA.tp 0 rfl ?_
 refine WA.tp 1 rfl ?_
 refine WA.tp 2 rfl ?_
 refine WA.tp 3 rfl ?_
 refine WA.tp 4 rfl ?_
 refine WA.tp 5 rfl ?_
 refine WA.tp 6 rfl ?_
 refine WA.tp 7 rfl ?_
 refine WA.tp 8 rfl ?_
 refine WA.tp 9 rfl ?_
 refine WA.tp 10 rfl ?_
 refine WA.tp 11 rfl ?_
 refine WA.tp 12 rfl ?_
 refine WA.tp 13 rfl ?_
 refine WA.tp 14 rfl ?_
 refine WA.tp 15 rfl ?_
 refine WA.tp 16 rfl ?_
 refine WA.cal 17 rfl (fun K hK => ?_)
 simp only [List.getElem_toArray, List.getElem_cons_succ, List.getElem_cons_zero]
 go_simp
 go_fit (MI.out _ bb)
 rintro e wn ⟨rfl, bn⟩
 replace kt := kt.below bn
 replace km := km.below bn
 replace kd := kd.below bn
 replace kc := kc.below bn
 replace bb := Below.after bb bn
 try go_wp2_with fail
 clear hS
 refine hK.out _ _ ⟨xk18 kt, xk6 km, xk3 kd⟩ (fun hS => ?_)
 clear hK K bn
 refine WA.tp 18 rfl ?_
 refine WA.tp 19 rfl ?_
 refine WA.tp 20 rfl ?_
 refine WA.tp 21 rfl ?_
 refine WA.tp 22 rfl ?_
 refine WA.tp 23 rfl ?_
 refine WA.tp 24 rfl ?_
 refine WA.cal 25 rfl (fun K hK => ?_)
 simp only [List.getElem_toArray, List.getElem_cons_succ, List.getElem_cons_zero]
 go_simp
 go_fit (FR.out _ bb)
 rintro e wn ⟨rfl, bn⟩
 replace kt := kt.below bn
 replace km := km.below bn
 replace kd := kd.below bn
 replace kc := kc.below bn
 replace bb := Below.after bb bn
 try go_wp2_with fail
 clear hS
 refine hK.out _ _ ⟨xk18 kt, xk6 km, xk3 kd⟩ (fun hS => ?_)
 clear hK K bn
 refine WA.tp 26 rfl ?_
 refine WA.tp 27 rfl ?_
 refine WA.tp 28 rfl ?_
 refine WA.tp 29 rfl ?_
 refine WA.done (by kernel_rfl) ?_
 clear hS
 clear MI FR
 obtain ⟨c0, c1, c2, c3, c4, c5⟩ := xk6 kc
 go_wp2_with fail
 go_fit (HL.out _ bb)
 rintro e w7 ⟨rfl, b1⟩
 replace kt := kt.below b1
 replace km := km.below b1
 replace kd := kd.below b1
 replace kc := kc.below b1
 replace bb := Below.after bb b1
 clear b1
 go_wp2
 go_ret
 exact ⟨rfl, bb⟩
theorem points6_f (n0 n1 n2 n3 n4 n5 : Bool) (s0 d0 s1 d1 s2 d2 s3 d3 s4 d4 s5 d5 : ByteArray) (m0 m3 : Bool) (m1 m2 m4 m5 : ByteArray) (dN : Bool) (dS dD : ByteArray) (w : World)
  (HS : Hid (∀ w1, Calls Tryz.prog 18 #[.agg #[.bool n0, .string s0, .string d0, .bool n1, .string s1, .string d1, .bool n2, .string s2, .string d2, .bool n3, .string s3, .string d3, .bool n4, .string s4, .string d4, .bool n5, .string s5, .string d5]] w1 (Re w1 (.bool true))))
  (MD : Hid (∀ w1, Below w.heap.size w w1 → Calls Tryz.prog 20 #[.agg #[.bool n0, .string s0, .string d0, .bool n1, .string s1, .string d1], .agg #[.bool n2, .string s2, .string d2, .bool n3, .string s3, .string d3]] w1 (Re w1 (.tuple #[.agg #[.bool m0, .string m1, .string m2, .bool m3, .string m4, .string m5], .int .i64 (0)]))))
  (FA : Hid (∀ w1, Below w.heap.size w w1 → Calls Tryz.prog 21 #[.agg #[.bool n0, .string s0, .string d0, .bool n1, .string s1, .string d1], .agg #[.bool n2, .string s2, .string d2, .bool n3, .string s3, .string d3]] w1 (Re w1 (.tuple #[.agg #[.bool dN, .string dS, .string dD], .int .i64 (0)]))))
  (CE : Hid (∀ w1, Below w.heap.size w w1 → Calls Tryz.prog 22 #[.agg #[.bool n0, .string s0, .string d0, .bool n1, .string s1, .string d1], .agg #[.bool n2, .string s2, .string d2, .bool n3, .string s3, .string d3], .agg #[.bool n4, .string s4, .string d4, .bool n5, .string s5, .string d5]] w1 (Re w1 (.tuple #[.agg #[.bool false, .string { data := #[] }, .string { data := #[] }, .bool false, .string { data := #[] }, .string { data := #[] }], .int .i64 (6)]))))
  (A2 : Hid (∀ (w1 : World) (B : Nat), Below w.heap.size w w1 → Cel w1 B [.bool n0, .string s0, .string d0, .bool n1, .string s1, .string d1, .bool n2, .string s2, .string d2, .bool n3, .string s3, .string d3] 28 → Calls Tryz.prog 9 #[.slice (some ⟨B, 0, none⟩) 2 2] w1 (Re w1 (.int .i64 (0)))))
  (HA : Hid (∀ w1, Below w.heap.size w w1 → Calls Tryz.prog 23 #[.agg #[.bool n0, .string s0, .string d0, .bool n1, .string s1, .string d1], .agg #[.bool n2, .string s2, .string d2, .bool n3, .string s3, .string d3], .agg #[.bool n4, .string s4, .string d4, .bool n5, .string s5, .string d5]] w1 (Re w1 (.int .i64 (0)))))
  (MI : Hid (∀ w1, Below w.heap.size w w1 → Calls Tryz.prog 24 #[.agg #[.bool n0, .string s0, .string d0, .bool n1, .string s1, .string d1], .agg #[.bool n2, .string s2, .string d2, .bool n3, .string s3, .string d3]] w1 (Re w1 (.agg #[.bool m0, .string m1, .string m2, .bool m3, .string m4, .string m5]))))
  (FR : Hid (∀ w1, Below w.heap.size w w1 → Calls Tryz.prog 25 #[.agg #[.bool n0, .string s0, .string d0, .bool n1, .string s1, .string d1], .agg #[.bool n2, .string s2, .string d2, .bool n3, .string s3, .string d3]] w1 (Re w1 (.agg #[.bool dN, .string dS, .string dD]))))
  (HO : Hid (∀ w1, Below w.heap.size w w1 → Calls Tryz.prog 26 #[.agg #[.bool n0, .string s0, .string d0, .bool n1, .string s1, .string d1], .agg #[.bool n2, .string s2, .string d2, .bool n3, .string s3, .string d3], .agg #[.bool n4, .string s4, .string d4, .bool n5, .string s5, .string d5]] w1 (Re w1 (.int .i64 (0)))))
  (HL : Hid (∀ w1, Below w.heap.size w w1 → Calls Tryz.prog 19 #[] w1 (Re w1 (.bool true)))) :
  Calls Tryz.prog 4 #[.agg #[.bool n0, .string s0, .string d0, .bool n1, .string s1, .string d1, .bool n2, .string s2, .string d2, .bool n3, .string s3, .string d3, .bool n4, .string s4, .string d4, .bool n5, .string s5, .string d5]] w (Re w (.bool true)) := by
 go_enter Tryz.func4, Tryz.ntmps4
 go_wp2_with (first | (refine wpList_load_row rfl 45 _ rfl w.heap.size rfl 45 _ (0, 0) _ (Cel.new w [.bool n0, .string s0, .string d0, .bool n1, .string s1, .string d1, .bool n2, .string s2, .string d2, .bool n3, .string s3, .string d3, .bool n4, .string s4, .string d4, .bool n5, .string s5, .string d5] 45) Tryz.underlying45 rfl (by kernel_rfl) ?_) | fail)
 go_wp2_with fail
 go_fit (HS.out _)
 rintro e w1 ⟨rfl, b1⟩
 obtain ⟨kt, bb⟩ := al1 b1
 clear b1
 obtain ⟨c0, c1, c2, c3, c4, c5, c6, c7, c8, c9, c10, c11, c12, c13, c14, c15, c16, c17⟩ := c18 kt
 go_wp2_with fail
 go_fit (MD.out _ bb)
 rintro e w2 ⟨rfl, b1⟩
 replace kt := kt.below b1
 replace bb := Below.after bb b1
 clear b1
 clear c0 c1 c2 c3 c4 c5 c6 c7 c8 c9 c10 c11 c12 c13 c14 c15 c16 c17
 obtain ⟨c0, c1, c2, c3, c4, c5, c6, c7, c8, c9, c10, c11, c12, c13, c14, c15, c16, c17⟩ := c18 (kt.alloc (.cells #[.bool m0, .string m1, .string m2, .bool m3, .string m4, .string m5] 28))
 go_wp2_with fail
 obtain ⟨x2, hw, km, b1⟩ := mk1 w2 [.bool m0, .string m1, .string m2, .bool m3, .string m4, .string m5] 28
 rw [← hw]
 clear hw c0 c1 c2 c3 c4 c5 c6 c7 c8 c9 c10 c11 c12 c13 c14 c15 c16 c17
 replace kt := kt.below b1
 replace bb := Below.after bb b1
 clear b1
 go_fit (FA.out _ bb)
 rintro e w3 ⟨rfl, b1⟩
 replace kt := kt.below b1
 replace km := km.below b1
 replace bb := Below.after bb b1
 clear b1
 obtain ⟨c0, c1, c2, c3, c4, c5, c6, c7, c8, c9, c10, c11, c12, c13, c14, c15, c16, c17⟩ := c18 (kt.alloc (.cells #[.bool dN, .string dS, .string dD] 26))
 go_wp2_with fail
 obtain ⟨x3, hw, kd, b1⟩ := mk1 w3 [.bool dN, .string dS, .string dD] 26
 rw [← hw]
 clear hw c0 c1 c2 c3 c4 c5 c6 c7 c8 c9 c10 c11 c12 c13 c14 c15 c16 c17
 replace kt := kt.below b1
 replace km := km.below b1
 replace bb := Below.after bb b1
 clear b1
 go_fit (CE.out _ bb)
 rintro e w4 ⟨rfl, b1⟩
 replace kt := kt.below b1
 replace km := km.below b1
 replace kd := kd.below b1
 replace bb := Below.after bb b1
 clear b1
 obtain ⟨c0, c1, c2, c3, c4, c5, c6, c7, c8, c9, c10, c11, c12, c13, c14, c15, c16, c17⟩ := c18 (kt.alloc (.cells #[.bool false, .string { data := #[] }, .string { data := #[] }, .bool false, .string { data := #[] }, .string { data := #[] }] 28))
 go_wp2_with fail
 obtain ⟨x4, hw, kc, kl, b1⟩ := mk2 w4 [.bool false, .string { data := #[] }, .string { data := #[] }, .bool false, .string { data := #[] }, .string { data := #[] }] [.bool n0, .string s0, .string d0, .bool n1, .string s1, .string d1, .bool n2, .string s2, .string d2, .bool n3, .string s3, .string d3] 28 28
 rw [← hw]
 clear hw c0 c1 c2 c3 c4 c5 c6 c7 c8 c9 c10 c11 c12 c13 c14 c15 c16 c17
 replace kt := kt.below b1
 replace km := km.below b1
 replace kd := kd.below b1
 replace bb := Below.after bb b1
 clear b1
 go_fit (A2.out _ _ bb kl)
 rintro e w5 ⟨rfl, b1⟩
 replace kt := kt.below b1
 replace km := km.below b1
 replace kd := kd.below b1
 replace kc := kc.below b1
 replace bb := Below.after bb b1
 clear b1
 clear kl
 obtain ⟨c0, c1, c2, c3, c4, c5, c6, c7, c8, c9, c10, c11, c12, c13, c14, c15, c16, c17⟩ := c18 kt
 go_wp2_with fail
 go_fit (HA.out _ bb)
 rintro e w6 ⟨rfl, b1⟩
 replace kt := kt.below b1
 replace km := km.below b1
 replace kd := kd.below b1
 replace kc := kc.below b1
 replace bb := Below.after bb b1
 clear b1
 clear c0 c1 c2 c3 c4 c5 c6 c7 c8 c9 c10 c11 c12 c13 c14 c15 c16 c17
 go_wp2_with fail
 clear HS HA MD FA CE A2
 have bd := bdrew w6
 replace kt := kt.below bd
 replace km := km.below bd
 replace kd := kd.below bd
 replace kc := kc.below bd
 replace bb := Below.after bb bd
 clear bd
 refine wp_region_held_drew (S := fun w' => xc18 w' w.heap.size (.bool n0) (.string s0) (.string d0) (.bool n1) (.string s1) (.string d1) (.bool n2) (.string s2) (.string d2) (.bool n3) (.string s3) (.string d3) (.bool n4) (.string s4) (.string d4) (.bool n5) (.string s5) (.string d5) ∧ xc6 w' w2.heap.size (.bool m0) (.string m1) (.string m2) (.bool m3) (.string m4) (.string m5) ∧ xc3 w' w3.heap.size (.bool dN) (.string dS) (.string dD)) (by kernel_rfl) ⟨xk18 kt, xk6 km, xk3 kd⟩ (fun hS => ?_)
 refine WA.start (n := 30) (by kernel_rfl) ?_
 refine WA.tp 0 rfl ?_
 refine WA.tp 1 rfl ?_
 refine WA.tp 2 rfl ?_
 refine WA.tp 3 rfl ?_
 refine WA.tp 4 rfl ?_
 refine WA.tp 5 rfl ?_
 refine WA.tp 6 rfl ?_
 refine WA.tp 7 rfl ?_
 refine WA.tp 8 rfl ?_
 refine WA.tp 9 rfl ?_
 refine WA.tp 10 rfl ?_
 refine WA.tp 11 rfl ?_
 refine WA.tp 12 rfl ?_
 refine WA.tp 13 rfl ?_
 refine WA.tp 14 rfl ?_
 refine WA.tp 15 rfl ?_
 refine WA.tp 16 rfl ?_
 refine WA.cal 17 rfl (fun K hK => ?_)
 simp only [List.getElem_toArray, List.getElem_cons_succ, List.getElem_cons_zero]
 go_simp
 go_fit (MI.out _ bb)
 rintro e wn ⟨rfl, bn⟩
 replace kt := kt.below bn
 replace km := km.below bn
 replace kd := kd.below bn
 replace kc := kc.below bn
 replace bb := Below.after bb bn
 try go_wp2_with fail
 clear hS
 refine hK.out _ _ ⟨xk18 kt, xk6 km, xk3 kd⟩ (fun hS => ?_)
 clear hK K bn
 refine WA.tp 18 rfl ?_
 refine WA.tp 19 rfl ?_
 refine WA.tp 20 rfl ?_
 refine WA.tp 21 rfl ?_
 refine WA.tp 22 rfl ?_
 refine WA.tp 23 rfl ?_
 refine WA.tp 24 rfl ?_
 refine WA.cal 25 rfl (fun K hK => ?_)
 simp only [List.getElem_toArray, List.getElem_cons_succ, List.getElem_cons_zero]
 go_simp
 go_fit (FR.out _ bb)
 rintro e wn ⟨rfl, bn⟩
 replace kt := kt.below bn
 replace km := km.below bn
 replace kd := kd.below bn
 replace kc := kc.below bn
 replace bb := Below.after bb bn
 try go_wp2_with fail
 clear hS
 refine hK.out _ _ ⟨xk18 kt, xk6 km, xk3 kd⟩ (fun hS => ?_)
 clear hK K bn
 refine WA.tp 26 rfl ?_
 refine WA.tp 27 rfl ?_
 refine WA.tp 28 rfl ?_
 refine WA.tp 29 rfl ?_
 refine WA.done (by kernel_rfl) ?_
 clear hS
 clear MI FR
 obtain ⟨c0, c1, c2, c3, c4, c5, c6, c7, c8, c9, c10, c11, c12, c13, c14, c15, c16, c17⟩ := c18 kt
 go_wp2_with fail
 go_fit (HO.out _ bb)
 rintro e w7 ⟨rfl, b1⟩
 replace kt := kt.below b1
 replace km := km.below b1
 replace kd := kd.below b1
 replace kc := kc.below b1
 replace bb := Below.after bb b1
 clear b1
 clear c0 c1 c2 c3 c4 c5 c6 c7 c8 c9 c10 c11 c12 c13 c14 c15 c16 c17
 obtain ⟨c0, c1, c2, c3, c4, c5⟩ := xk6 kc
 go_wp2_with fail
 go_fit (HL.out _ bb)
 rintro e w8 ⟨rfl, b1⟩
 replace kt := kt.below b1
 replace km := km.below b1
 replace kd := kd.below b1
 replace kc := kc.below b1
 replace bb := Below.after bb b1
 clear b1
 go_wp2
 go_ret
 exact ⟨rfl, bb⟩
theorem far6_walk (n0 n1 n2 n3 : Bool) (s0 d0 s1 d1 s2 d2 s3 d3 : ByteArray) (u0 u1 : Bool) (v0 e0 v1 e1 : ByteArray) (rN : Bool) (rS rD : ByteArray) (w : World)
  (HM : Hid (∀ w1, Below w.heap.size w w1 → Calls Tryz.prog 37 #[.agg #[.bool n2, .string s2, .string d2, .bool n3, .string s3, .string d3], .agg #[.bool n0, .string s0, .string d0, .bool n1, .string s1, .string d1]] w1 (Re w1 (.agg #[.bool u0, .string v0, .string e0, .bool u1, .string v1, .string e1]))))
  (HN : Hid (∀ w1, Below w.heap.size w w1 → Calls Tryz.prog 63 #[.agg #[.bool u0, .string v0, .string e0, .bool u1, .string v1, .string e1]] w1 (Re w1 (.agg #[.bool rN, .string rS, .string rD])))) :
  Calls Tryz.prog 25 #[.agg #[.bool n0, .string s0, .string d0, .bool n1, .string s1, .string d1], .agg #[.bool n2, .string s2, .string d2, .bool n3, .string s3, .string d3]] w (Re w (.agg #[.bool rN, .string rS, .string rD])) := by
 go_enter Tryz.func25, Tryz.ntmps25
 go_wp2_with fail
 obtain ⟨w0, hw, ka, kb, kr, bb⟩ := mk3 w [.bool n0, .string s0, .string d0, .bool n1, .string s1, .string d1] [.bool n2, .string s2, .string d2, .bool n3, .string s3, .string d3] [.bool false, .string { data := #[] }, .string { data := #[] }] 28 28 26
 rw [← hw]
 clear hw
 go_fit (HM.out _ bb)
 rintro e w1 ⟨rfl, b1⟩
 replace kr := kr.below b1
 replace bb := Below.after bb b1
 clear b1
 go_wp2_with fail
 go_fit (HN.out _ bb)
 rintro e w2 ⟨rfl, b1⟩
 replace kr := kr.below b1
 replace bb := Below.after bb b1
 clear b1 ka kb
 have e0 := cel3_0 kr
 have f0 := Cel.frozen kr 0
 have e1 := cel3_1 kr
 have f1 := Cel.frozen kr 1
 have e2 := cel3_2 kr
 have f2 := Cel.frozen kr 2
 go_wp2
 exact post_q (p := 4) (by kernel_rfl) rfl rfl (((kr.set 0 _).set 1 _).set 2 _) ⟨rfl, bset (bset (bset bb (by omega) 0 _) (by omega) 1 _) (by omega) 2 _⟩
theorem bq_frac {N M : Int} (h1 : 0 < M) (h2 : M ≤ 1000) (h3 : 0 ≤ N) (h4 : N ≤ M) : Bq (Rat.divInt N M) 2 := by
 obtain ⟨m, rfl⟩ := Int.eq_ofNat_of_zero_le (Int.le_of_lt h1)
 show Bq (mkRat N m) 2
 exact vq_mk (by omega) (by unfold Bd; omega) (by unfold Bd; omega)
theorem sh6_t {s d : ByteArray} (h : sh6 s d = true) : s.size ≤ 60 ∧ d.size ≤ 60 := of_decide_eq_true h
theorem le100 {s d : ByteArray} (h : s.size ≤ 60 ∧ d.size ≤ 60) : s.size ≤ 100 ∧ d.size ≤ 100 := ⟨by omega, by omega⟩
theorem asked6_walk (n0 n1 n2 n3 n4 n5 : Bool) (s0 d0 s1 d1 s2 d2 s3 d3 s4 d4 s5 d5 : ByteArray) (E : Int) (w : World)
  (HA : Hid (∀ (w1 : World) (B : Nat), Below w.heap.size w w1 → Cel w1 B [.bool n0, .string s0, .string d0, .bool n1, .string s1, .string d1, .bool n2, .string s2, .string d2, .bool n3, .string s3, .string d3, .bool n4, .string s4, .string d4, .bool n5, .string s5, .string d5] 28 → Calls Tryz.prog 9 #[.slice (some ⟨B, 0, none⟩) 3 3] w1 (Re w1 (.int .i64 E)))) :
  Calls Tryz.prog 23 #[.agg #[.bool n0, .string s0, .string d0, .bool n1, .string s1, .string d1], .agg #[.bool n2, .string s2, .string d2, .bool n3, .string s3, .string d3], .agg #[.bool n4, .string s4, .string d4, .bool n5, .string s5, .string d5]] w (Re w (.int .i64 E)) := by
 go_enter Tryz.func23, Tryz.ntmps23
 go_wp2_with fail
 obtain ⟨w0, hw, ka, kb, kc, kl, bb⟩ := mk4 w [.bool n0, .string s0, .string d0, .bool n1, .string s1, .string d1] [.bool n2, .string s2, .string d2, .bool n3, .string s3, .string d3] [.bool n4, .string s4, .string d4, .bool n5, .string s5, .string d5] [.bool n0, .string s0, .string d0, .bool n1, .string s1, .string d1, .bool n2, .string s2, .string d2, .bool n3, .string s3, .string d3, .bool n4, .string s4, .string d4, .bool n5, .string s5, .string d5] 28 28 28 28
 rw [← hw]
 clear hw
 go_fit (HA.out _ _ bb kl)
 rintro e w1 ⟨rfl, b1⟩
 replace bb := Below.after bb b1
 clear b1 ka kb kc kl
 go_wp2
 go_ret
 exact ⟨rfl, bb⟩
theorem asked6_any (n0 n1 n2 n3 n4 n5 : Bool) (s0 d0 s1 d1 s2 d2 s3 d3 s4 d4 s5 d5 : ByteArray) (w : World) (z0 : s0.size ≤ 100 ∧ d0.size ≤ 100) (z1 : s1.size ≤ 100 ∧ d1.size ≤ 100) (z2 : s2.size ≤ 100 ∧ d2.size ≤ 100) (z3 : s3.size ≤ 100 ∧ d3.size ≤ 100) (z4 : s4.size ≤ 100 ∧ d4.size ≤ 100) (z5 : s5.size ≤ 100 ∧ d5.size ≤ 100) :
  Calls Tryz.prog 23 #[.agg #[.bool n0, .string s0, .string d0, .bool n1, .string s1, .string d1], .agg #[.bool n2, .string s2, .string d2, .bool n3, .string s3, .string d3], .agg #[.bool n4, .string s4, .string d4, .bool n5, .string s5, .string d5]] w (Re w (.int .i64 (twoc (twoc (twoq n0 s0 d0 n1 s1 d1) (twoq n2 s2 d2 n3 s3 d3)) (twoq n4 s4 d4 n5 s5 d5) : Nat))) :=
 asked6_walk n0 n1 n2 n3 n4 n5 s0 d0 s1 d1 s2 d2 s3 d3 s4 d4 s5 d5 _ w (fun w1 B _ h => asked3 B n0 n1 n2 n3 n4 n5 s0 d0 s1 d1 s2 d2 s3 d3 s4 d4 s5 d5 w1 h z0 z1 z2 z3 z4 z5)
theorem canon {n : Bool} {s d : ByteArray} {K : Nat} (h : chkq n s d = 0) (z : s.size ≤ K ∧ d.size ≤ K) : ∃ x : Rat, Bq x K ∧ n = nfZ x.num ∧ s = sfZ x.num ∧ d = strOf x.den := by
 have o := (chkq_zero h).1
 obtain ⟨e1, e2, e3⟩ := o.parts
 refine ⟨qOf n s d, ⟨?_, ?_⟩, e1.symm, e2.symm, e3.symm⟩
 ·rw [o.low.1]; exact bd_zOf z.1
 ·rw [o.low.2]
  have := bd_zOf (n := false) z.2
  simpa [zOf] using this
theorem points6_l (n0 n1 n2 n3 n4 n5 : Bool) (s0 d0 s1 d1 s2 d2 s3 d3 s4 d4 s5 d5 : ByteArray) (w : World)
  (HS : Hid (∀ w1, Calls Tryz.prog 18 #[.agg #[.bool n0, .string s0, .string d0, .bool n1, .string s1, .string d1, .bool n2, .string s2, .string d2, .bool n3, .string s3, .string d3, .bool n4, .string s4, .string d4, .bool n5, .string s5, .string d5]] w1 (Re w1 (.bool false))))
  (HL : Hid (∀ w1, Below w.heap.size w w1 → Calls Tryz.prog 19 #[] w1 (Re w1 (.bool true)))) :
  Calls Tryz.prog 4 #[.agg #[.bool n0, .string s0, .string d0, .bool n1, .string s1, .string d1, .bool n2, .string s2, .string d2, .bool n3, .string s3, .string d3, .bool n4, .string s4, .string d4, .bool n5, .string s5, .string d5]] w (Re w (.bool true)) := by
 go_enter Tryz.func4, Tryz.ntmps4
 go_wp2_with (first | (refine wpList_load_row rfl 45 _ rfl w.heap.size rfl 45 _ (0, 0) _ (Cel.new w [.bool n0, .string s0, .string d0, .bool n1, .string s1, .string d1, .bool n2, .string s2, .string d2, .bool n3, .string s3, .string d3, .bool n4, .string s4, .string d4, .bool n5, .string s5, .string d5] 45) Tryz.underlying45 rfl (by kernel_rfl) ?_) | fail)
 go_wp2_with fail
 go_fit (HS.out _)
 rintro e w1 ⟨rfl, b1⟩
 obtain ⟨kt, bb⟩ := al1 b1
 clear b1
 go_wp2_with fail
 go_fit (HL.out _ bb)
 rintro e w2 ⟨rfl, b1⟩
 replace kt := kt.below b1
 replace bb := Below.after bb b1
 clear b1
 go_wp2
 go_ret
 exact ⟨rfl, bb⟩
theorem points6_a (n0 n1 n2 n3 n4 n5 : Bool) (s0 d0 s1 d1 s2 d2 s3 d3 s4 d4 s5 d5 : ByteArray) (E : Int) (w : World) (hE : (E == 0) = false)
  (HS : Hid (∀ w1, Calls Tryz.prog 18 #[.agg #[.bool n0, .string s0, .string d0, .bool n1, .string s1, .string d1, .bool n2, .string s2, .string d2, .bool n3, .string s3, .string d3, .bool n4, .string s4, .string d4, .bool n5, .string s5, .string d5]] w1 (Re w1 (.bool true))))
  (MD : Hid (∀ w1, Below w.heap.size w w1 → Calls Tryz.prog 20 #[.agg #[.bool n0, .string s0, .string d0, .bool n1, .string s1, .string d1], .agg #[.bool n2, .string s2, .string d2, .bool n3, .string s3, .string d3]] w1 (Re w1 (.tuple #[.agg #[.bool false, .string { data := #[] }, .string { data := #[] }, .bool false, .string { data := #[] }, .string { data := #[] }], .int .i64 (E)]))))
  (FA : Hid (∀ w1, Below w.heap.size w w1 → Calls Tryz.prog 21 #[.agg #[.bool n0, .string s0, .string d0, .bool n1, .string s1, .string d1], .agg #[.bool n2, .string s2, .string d2, .bool n3, .string s3, .string d3]] w1 (Re w1 (.tuple #[.agg #[.bool false, .string { data := #[] }, .string { data := #[] }], .int .i64 (E)]))))
  (CE : Hid (∀ w1, Below w.heap.size w w1 → Calls Tryz.prog 22 #[.agg #[.bool n0, .string s0, .string d0, .bool n1, .string s1, .string d1], .agg #[.bool n2, .string s2, .string d2, .bool n3, .string s3, .string d3], .agg #[.bool n4, .string s4, .string d4, .bool n5, .string s5, .string d5]] w1 (Re w1 (.tuple #[.agg #[.bool false, .string { data := #[] }, .string { data := #[] }, .bool false, .string { data := #[] }, .string { data := #[] }], .int .i64 (E)]))))
  (A2 : Hid (∀ (w1 : World) (B : Nat), Below w.heap.size w w1 → Cel w1 B [.bool n0, .string s0, .string d0, .bool n1, .string s1, .string d1, .bool n2, .string s2, .string d2, .bool n3, .string s3, .string d3] 28 → Calls Tryz.prog 9 #[.slice (some ⟨B, 0, none⟩) 2 2] w1 (Re w1 (.int .i64 (E)))))
  (HA : Hid (∀ w1, Below w.heap.size w w1 → Calls Tryz.prog 23 #[.agg #[.bool n0, .string s0, .string d0, .bool n1, .string s1, .string d1], .agg #[.bool n2, .string s2, .string d2, .bool n3, .string s3, .string d3], .agg #[.bool n4, .string s4, .string d4, .bool n5, .string s5, .string d5]] w1 (Re w1 (.int .i64 (E)))))
  (HL : Hid (∀ w1, Below w.heap.size w w1 → Calls Tryz.prog 19 #[] w1 (Re w1 (.bool true)))) :
  Calls Tryz.prog 4 #[.agg #[.bool n0, .string s0, .string d0, .bool n1, .string s1, .string d1, .bool n2, .string s2, .string d2, .bool n3, .string s3, .string d3, .bool n4, .string s4, .string d4, .bool n5, .string s5, .string d5]] w (Re w (.bool true)) := by
 go_enter Tryz.func4, Tryz.ntmps4
 go_wp2_with (first | (refine wpList_load_row rfl 45 _ rfl w.heap.size rfl 45 _ (0, 0) _ (Cel.new w [.bool n0, .string s0, .string d0, .bool n1, .string s1, .string d1, .bool n2, .string s2, .string d2, .bool n3, .string s3, .string d3, .bool n4, .string s4, .string d4, .bool n5, .string s5, .string d5] 45) Tryz.underlying45 rfl (by kernel_rfl) ?_) | fail)
 go_wp2_with fail
 go_fit (HS.out _)
 rintro e w1 ⟨rfl, b1⟩
 obtain ⟨kt, bb⟩ := al1 b1
 clear b1
 obtain ⟨c0, c1, c2, c3, c4, c5, c6, c7, c8, c9, c10, c11, c12, c13, c14, c15, c16, c17⟩ := c18 kt
 go_wp2_with fail
 go_fit (MD.out _ bb)
 rintro e w2 ⟨rfl, b1⟩
 replace kt := kt.below b1
 replace bb := Below.after bb b1
 clear b1
 clear c0 c1 c2 c3 c4 c5 c6 c7 c8 c9 c10 c11 c12 c13 c14 c15 c16 c17
 obtain ⟨c0, c1, c2, c3, c4, c5, c6, c7, c8, c9, c10, c11, c12, c13, c14, c15, c16, c17⟩ := c18 (kt.alloc (.cells #[.bool false, .string { data := #[] }, .string { data := #[] }, .bool false, .string { data := #[] }, .string { data := #[] }] 28))
 go_wp2_with fail
 obtain ⟨x2, hw, km, b1⟩ := mk1 w2 [.bool false, .string { data := #[] }, .string { data := #[] }, .bool false, .string { data := #[] }, .string { data := #[] }] 28
 rw [← hw]
 clear hw c0 c1 c2 c3 c4 c5 c6 c7 c8 c9 c10 c11 c12 c13 c14 c15 c16 c17
 replace kt := kt.below b1
 replace bb := Below.after bb b1
 clear b1
 go_fit (FA.out _ bb)
 rintro e w3 ⟨rfl, b1⟩
 replace kt := kt.below b1
 replace km := km.below b1
 replace bb := Below.after bb b1
 clear b1
 obtain ⟨c0, c1, c2, c3, c4, c5, c6, c7, c8, c9, c10, c11, c12, c13, c14, c15, c16, c17⟩ := c18 (kt.alloc (.cells #[.bool false, .string { data := #[] }, .string { data := #[] }] 26))
 go_wp2_with fail
 obtain ⟨x3, hw, kd, b1⟩ := mk1 w3 [.bool false, .string { data := #[] }, .string { data := #[] }] 26
 rw [← hw]
 clear hw c0 c1 c2 c3 c4 c5 c6 c7 c8 c9 c10 c11 c12 c13 c14 c15 c16 c17
 replace kt := kt.below b1
 replace km := km.below b1
 replace bb := Below.after bb b1
 clear b1
 go_fit (CE.out _ bb)
 rintro e w4 ⟨rfl, b1⟩
 replace kt := kt.below b1
 replace km := km.below b1
 replace kd := kd.below b1
 replace bb := Below.after bb b1
 clear b1
 obtain ⟨c0, c1, c2, c3, c4, c5, c6, c7, c8, c9, c10, c11, c12, c13, c14, c15, c16, c17⟩ := c18 (kt.alloc (.cells #[.bool false, .string { data := #[] }, .string { data := #[] }, .bool false, .string { data := #[] }, .string { data := #[] }] 28))
 go_wp2_with fail
 obtain ⟨x4, hw, kc, kl, b1⟩ := mk2 w4 [.bool false, .string { data := #[] }, .string { data := #[] }, .bool false, .string { data := #[] }, .string { data := #[] }] [.bool n0, .string s0, .string d0, .bool n1, .string s1, .string d1, .bool n2, .string s2, .string d2, .bool n3, .string s3, .string d3] 28 28
 rw [← hw]
 clear hw c0 c1 c2 c3 c4 c5 c6 c7 c8 c9 c10 c11 c12 c13 c14 c15 c16 c17
 replace kt := kt.below b1
 replace km := km.below b1
 replace kd := kd.below b1
 replace bb := Below.after bb b1
 clear b1
 go_fit (A2.out _ _ bb kl)
 rintro e w5 ⟨rfl, b1⟩
 replace kt := kt.below b1
 replace km := km.below b1
 replace kd := kd.below b1
 replace kc := kc.below b1
 replace bb := Below.after bb b1
 clear b1
 clear kl
 obtain ⟨c0, c1, c2, c3, c4, c5, c6, c7, c8, c9, c10, c11, c12, c13, c14, c15, c16, c17⟩ := c18 kt
 go_wp2_with fail
 go_fit (HA.out _ bb)
 rintro e w6 ⟨rfl, b1⟩
 replace kt := kt.below b1
 replace km := km.below b1
 replace kd := kd.below b1
 replace kc := kc.below b1
 replace bb := Below.after bb b1
 clear b1
 clear c0 c1 c2 c3 c4 c5 c6 c7 c8 c9 c10 c11 c12 c13 c14 c15 c16 c17
 go_wp2_with fail
 clear HS HA MD FA CE A2
 have bd := bdrew w6
 replace kt := kt.below bd
 replace km := km.below bd
 replace kd := kd.below bd
 replace kc := kc.below bd
 replace bb := Below.after bb bd
 clear bd
 refine wp_region_held_drew (S := fun w' => xc18 w' w.heap.size (.bool n0) (.string s0) (.string d0) (.bool n1) (.string s1) (.string d1) (.bool n2) (.string s2) (.string d2) (.bool n3) (.string s3) (.string d3) (.bool n4) (.string s4) (.string d4) (.bool n5) (.string s5) (.string d5) ∧ xc6 w' w2.heap.size (.bool false) (.string { data := #[] }) (.string { data := #[] }) (.bool false) (.string { data := #[] }) (.string { data := #[] }) ∧ xc3 w' w3.heap.size (.bool false) (.string { data := #[] }) (.string { data := #[] })) (by kernel_rfl) ⟨xk18 kt, xk6 km, xk3 kd⟩ (fun hS => ?_)
 refine WA.start (n := 30) (by kernel_rfl) ?_
 refine WA.tp 0 rfl ?_
 refine WA.tp 1 rfl ?_
 refine WA.tp 2 rfl ?_
 refine WA.tp 3 rfl ?_
 refine WA.tp 4 rfl ?_
 refine WA.tp 5 rfl ?_
 refine WA.tp 6 rfl ?_
 refine WA.tp 7 rfl ?_
 refine WA.tp 8 rfl ?_
 refine WA.tp 9 rfl ?_
 refine WA.tp 10 rfl ?_
 refine WA.tp 11 rfl ?_
 refine WA.tn 12 rfl ?_
 refine WA.tn 13 rfl ?_
 refine WA.tn 14 rfl ?_
 refine WA.tn 15 rfl ?_
 refine WA.tn 16 rfl ?_
 refine WA.tn 17 rfl ?_
 refine WA.tn 18 rfl ?_
 refine WA.tn 19 rfl ?_
 refine WA.tn 20 rfl ?_
 refine WA.tn 21 rfl ?_
 refine WA.tn 22 rfl ?_
 refine WA.tn 23 rfl ?_
 refine WA.tn 24 rfl ?_
 refine WA.tn 25 rfl ?_
 refine WA.tn 26 rfl ?_
 refine WA.tn 27 rfl ?_
 refine WA.tp 28 rfl ?_
 refine WA.tp 29 rfl ?_
 refine WA.done (by kernel_rfl) ?_
 clear hS
 obtain ⟨c0, c1, c2, c3, c4, c5⟩ := xk6 kc
 go_wp2_with fail
 go_fit (HL.out _ bb)
 rintro e w7 ⟨rfl, b1⟩
 replace kt := kt.below b1
 replace km := km.below b1
 replace kd := kd.below b1
 replace kc := kc.below b1
 replace bb := Below.after bb b1
 clear b1
 go_wp2
 go_ret
 exact ⟨rfl, bb⟩
theorem rdpt_2 {w : World} {B : Nat} {t : TypeId} {n0 n1 n2 n3 : Bool} {s0 d0 s1 d1 s2 d2 s3 d3 : ByteArray} (h : Cel w B [.bool n0, .string s0, .string d0, .bool n1, .string s1, .string d1, .bool n2, .string s2, .string d2, .bool n3, .string s3, .string d3] t) : RdPt w (some ⟨B, 0, none⟩) 2 (f4 n0 n2 n2 n2) (f4 s0 s2 s2 s2) (f4 d0 d2 d2 d2) (f4 n1 n3 n3 n3) (f4 s1 s3 s3 s3) (f4 d1 d3 d3 d3) := by
 intro j hj
 refine ⟨B, 0, rfl, ?_⟩
 match j, hj with
 | 0, _ => exact ⟨h.cell 0, h.cell 1, h.cell 2, h.cell 3, h.cell 4, h.cell 5⟩
 | 1, _ => exact ⟨h.cell 6, h.cell 7, h.cell 8, h.cell 9, h.cell 10, h.cell 11⟩
theorem scheck2 (B : Nat) (n0 n1 n2 n3 : Bool) (s0 d0 s1 d1 s2 d2 s3 d3 : ByteArray) (w : World) (hT : Tab w) (h : Cel w B [.bool n0, .string s0, .string d0, .bool n1, .string s1, .string d1, .bool n2, .string s2, .string d2, .bool n3, .string s3, .string d3] 28) (z0 : s0.size ≤ 100 ∧ d0.size ≤ 100) (z1 : s1.size ≤ 100 ∧ d1.size ≤ 100) (z2 : s2.size ≤ 100 ∧ d2.size ≤ 100) (z3 : s3.size ≤ 100 ∧ d3.size ≤ 100) :
  Calls Tryz.prog 45 #[.slice (some ⟨B, 0, none⟩) 2 2] w (Re w (.int .i64 (twoc (twoq n0 s0 d0 n1 s1 d1) (twoq n2 s2 d2 n3 s3 d3) : Nat))) := by
 refine scheck_walk (some ⟨B, 0, none⟩) 2 2 _ _ _ _ _ _ (f4 (twoq n0 s0 d0 n1 s1 d1) (twoq n2 s2 d2 n3 s3 d3) 0 0) w (by omega) (rdpt_2 h) (fun j hj => ?_) (fun j w1 hj b => ?_)
 ·match j, hj with
  | 0, _ => exact ⟨z0.1, z0.2, z1.1, z1.2⟩
  | 1, _ => exact ⟨z2.1, z2.2, z3.1, z3.2⟩
 ·match j, hj with
  | 0, _ => exact vCheck_any n0 n1 s0 d0 s1 d1 w1 (hT.below b)
  | 1, _ => exact vCheck_any n2 n3 s2 d2 s3 d3 w1 (hT.below b)
theorem asked2 (B : Nat) (n0 n1 n2 n3 : Bool) (s0 d0 s1 d1 s2 d2 s3 d3 : ByteArray) (w : World) (h : Cel w B [.bool n0, .string s0, .string d0, .bool n1, .string s1, .string d1, .bool n2, .string s2, .string d2, .bool n3, .string s3, .string d3] 28) (z0 : s0.size ≤ 100 ∧ d0.size ≤ 100) (z1 : s1.size ≤ 100 ∧ d1.size ≤ 100) (z2 : s2.size ≤ 100 ∧ d2.size ≤ 100) (z3 : s3.size ≤ 100 ∧ d3.size ≤ 100) :
  Calls Tryz.prog 9 #[.slice (some ⟨B, 0, none⟩) 2 2] w (Re w (.int .i64 (twoc (twoq n0 s0 d0 n1 s1 d1) (twoq n2 s2 d2 n3 s3 d3) : Nat))) := by
 refine asked_walk (some ⟨B, 0, none⟩) 2 2 _ _ _ _ _ _ (f4 (twoq n0 s0 d0 n1 s1 d1) (twoq n2 s2 d2 n3 s3 d3) 0 0) w (by omega) (rdpt_2 h) (fun j hj => ?_) (fun j w1 hj => ?_)
 ·match j, hj with
  | 0, _ => exact ⟨z0.1, z0.2, z1.1, z1.2⟩
  | 1, _ => exact ⟨z2.1, z2.2, z3.1, z3.2⟩
 ·match j, hj with
  | 0, _ => exact rchk4_any n0 n1 s0 d0 s1 d1 w1 (by omega) (by omega) (by omega) (by omega)
  | 1, _ => exact rchk4_any n2 n3 s2 d2 s3 d3 w1 (by omega) (by omega) (by omega) (by omega)
theorem cMid_bad (n0 n1 n2 n3 : Bool) (s0 d0 s1 d1 s2 d2 s3 d3 : ByteArray) (E : Int) (w : World) (hE : ¬ E = 0)
  (HC : Hid (∀ (w1 : World) (B : Nat), Below w.heap.size w w1 → Cel w1 B [.bool n0, .string s0, .string d0, .bool n1, .string s1, .string d1, .bool n2, .string s2, .string d2, .bool n3, .string s3, .string d3] 28 → Calls Tryz.prog 45 #[.slice (some ⟨B, 0, none⟩) 2 2] w1 (Re w1 (.int .i64 E)))) :
  Calls Tryz.prog 20 #[.agg #[.bool n0, .string s0, .string d0, .bool n1, .string s1, .string d1], .agg #[.bool n2, .string s2, .string d2, .bool n3, .string s3, .string d3]] w (Re w (.tuple #[.agg #[.bool false, .string { data := #[] }, .string { data := #[] }, .bool false, .string { data := #[] }, .string { data := #[] }], .int .i64 E])) := by
 go_enter Tryz.func20, Tryz.ntmps20
 go_wp2_with fail
 obtain ⟨w0, hw, ka, kb, kr, kl, bb⟩ := mk4 w [.bool n0, .string s0, .string d0, .bool n1, .string s1, .string d1] [.bool n2, .string s2, .string d2, .bool n3, .string s3, .string d3] [.bool false, .string { data := #[] }, .string { data := #[] }, .bool false, .string { data := #[] }, .string { data := #[] }] [.bool n0, .string s0, .string d0, .bool n1, .string s1, .string d1, .bool n2, .string s2, .string d2, .bool n3, .string s3, .string d3] 28 28 28 28
 rw [← hw]
 clear hw
 go_fit (HC.out _ _ bb kl)
 rintro e w1 ⟨rfl, b1⟩
 replace ka := ka.below b1
 replace kb := kb.below b1
 replace kr := kr.below b1
 replace bb := Below.after bb b1
 clear b1 kl
 have tr := kr.lt
 obtain ⟨e0, e1, e2, e3, e4, e5⟩ := xk6 kr
 have f0 := Cel.frozen kr 0
 have f1 := Cel.frozen kr 1
 have f2 := Cel.frozen kr 2
 have f3 := Cel.frozen kr 3
 have f4 := Cel.frozen kr 4
 have f5 := Cel.frozen kr 5
 go_wp2
 exact post_p1 (p := 4) (u := 5) (v := .int .i64 E) (by kernel_rfl) rfl rfl rfl (kr.set6 _ _ _ _ _ _) ⟨rfl, bset6 bb (by omega) _ _ _ _ _ _⟩
theorem cMid_ok (n0 n1 n2 n3 : Bool) (s0 d0 s1 d1 s2 d2 s3 d3 : ByteArray) (u0 u3 : Bool) (u1 u2 u4 u5 : ByteArray) (r0 r3 : Bool) (r1 r2 r4 r5 : ByteArray) (w : World)
  (HC : Hid (∀ (w1 : World) (B : Nat), Below w.heap.size w w1 → Cel w1 B [.bool n0, .string s0, .string d0, .bool n1, .string s1, .string d1, .bool n2, .string s2, .string d2, .bool n3, .string s3, .string d3] 28 → Calls Tryz.prog 45 #[.slice (some ⟨B, 0, none⟩) 2 2] w1 (Re w1 (.int .i64 0))))
  (HP : Hid (∀ w1, Below w.heap.size w w1 → Calls Tryz.prog 53 #[.agg #[.bool n0, .string s0, .string d0, .bool n1, .string s1, .string d1], .agg #[.bool n2, .string s2, .string d2, .bool n3, .string s3, .string d3]] w1 (Re w1 (.tuple #[.agg #[.bool u0, .string u1, .string u2, .bool u3, .string u4, .string u5], .int .i64 0]))))
  (HQ : Hid (∀ w1, Below w.heap.size w w1 → Calls Tryz.prog 52 #[.agg #[.bool u0, .string u1, .string u2, .bool u3, .string u4, .string u5], .agg #[.bool false, .string { data := #[1] }, .string { data := #[2] }]] w1 (Re w1 (.tuple #[.agg #[.bool r0, .string r1, .string r2, .bool r3, .string r4, .string r5], .int .i64 0])))) :
  Calls Tryz.prog 20 #[.agg #[.bool n0, .string s0, .string d0, .bool n1, .string s1, .string d1], .agg #[.bool n2, .string s2, .string d2, .bool n3, .string s3, .string d3]] w (Re w (.tuple #[.agg #[.bool r0, .string r1, .string r2, .bool r3, .string r4, .string r5], .int .i64 0])) := by
 go_enter Tryz.func20, Tryz.ntmps20
 go_wp2_with fail
 obtain ⟨w0, hw, ka, kb, kr, kl, bb⟩ := mk4 w [.bool n0, .string s0, .string d0, .bool n1, .string s1, .string d1] [.bool n2, .string s2, .string d2, .bool n3, .string s3, .string d3] [.bool false, .string { data := #[] }, .string { data := #[] }, .bool false, .string { data := #[] }, .string { data := #[] }] [.bool n0, .string s0, .string d0, .bool n1, .string s1, .string d1, .bool n2, .string s2, .string d2, .bool n3, .string s3, .string d3] 28 28 28 28
 rw [← hw]
 clear hw
 go_fit (HC.out _ _ bb kl)
 rintro e w1 ⟨rfl, b1⟩
 replace ka := ka.below b1
 replace kb := kb.below b1
 replace kr := kr.below b1
 replace bb := Below.after bb b1
 clear b1 kl
 have tr := kr.lt
 obtain ⟨a0, a1, a2, a3, a4, a5⟩ := xk6 ka
 obtain ⟨b0, b1, b2, b3, b4, b5⟩ := xk6 kb
 go_wp2_with fail
 clear a0 a1 a2 a3 a4 a5 b0 b1 b2 b3 b4 b5
 go_fit (HP.out _ bb)
 rintro e w2 ⟨rfl, b1⟩
 replace kr := kr.below b1
 replace bb := Below.after bb b1
 clear b1
 obtain ⟨c0, c1, c2, c3, c4, c5⟩ := xk6 (Cel.new w2 [.bool u0, .string u1, .string u2, .bool u3, .string u4, .string u5] 28)
 go_wp2_with fail
 obtain ⟨w3, hw, ku, b1⟩ := mk1 w2 [.bool u0, .string u1, .string u2, .bool u3, .string u4, .string u5] 28
 rw [← hw]
 clear hw c0 c1 c2 c3 c4 c5
 replace kr := kr.below b1
 replace bb := Below.after bb b1
 clear b1
 go_fit (HQ.out _ bb)
 rintro e w4 ⟨rfl, b1⟩
 replace kr := kr.below b1
 replace bb := Below.after bb b1
 clear b1
 obtain ⟨e0, e1, e2, e3, e4, e5⟩ := xk6 kr
 have f0 := Cel.frozen kr 0
 have f1 := Cel.frozen kr 1
 have f2 := Cel.frozen kr 2
 have f3 := Cel.frozen kr 3
 have f4 := Cel.frozen kr 4
 have f5 := Cel.frozen kr 5
 go_wp2
 exact post_p1 (p := 4) (u := 5) (v := .int .i64 0) (by kernel_rfl) rfl rfl rfl (kr.set6 _ _ _ _ _ _) ⟨rfl, bset6 bb (by omega) _ _ _ _ _ _⟩
theorem cFar_bad (n0 n1 n2 n3 : Bool) (s0 d0 s1 d1 s2 d2 s3 d3 : ByteArray) (E : Int) (w : World) (hE : ¬ E = 0)
  (HC : Hid (∀ (w1 : World) (B : Nat), Below w.heap.size w w1 → Cel w1 B [.bool n0, .string s0, .string d0, .bool n1, .string s1, .string d1, .bool n2, .string s2, .string d2, .bool n3, .string s3, .string d3] 28 → Calls Tryz.prog 45 #[.slice (some ⟨B, 0, none⟩) 2 2] w1 (Re w1 (.int .i64 E)))) :
  Calls Tryz.prog 21 #[.agg #[.bool n0, .string s0, .string d0, .bool n1, .string s1, .string d1], .agg #[.bool n2, .string s2, .string d2, .bool n3, .string s3, .string d3]] w (Re w (.tuple #[.agg #[.bool false, .string { data := #[] }, .string { data := #[] }], .int .i64 E])) := by
 go_enter Tryz.func21, Tryz.ntmps21
 go_wp2_with fail
 obtain ⟨w0, hw, ka, kb, kr, kl, bb⟩ := mk4 w [.bool n0, .string s0, .string d0, .bool n1, .string s1, .string d1] [.bool n2, .string s2, .string d2, .bool n3, .string s3, .string d3] [.bool false, .string { data := #[] }, .string { data := #[] }] [.bool n0, .string s0, .string d0, .bool n1, .string s1, .string d1, .bool n2, .string s2, .string d2, .bool n3, .string s3, .string d3] 28 28 26 28
 rw [← hw]
 clear hw
 go_fit (HC.out _ _ bb kl)
 rintro e w1 ⟨rfl, b1⟩
 replace ka := ka.below b1
 replace kb := kb.below b1
 replace kr := kr.below b1
 replace bb := Below.after bb b1
 clear b1 kl
 have tr := kr.lt
 obtain ⟨e0, e1, e2⟩ := xk3 kr
 have f0 := Cel.frozen kr 0
 have f1 := Cel.frozen kr 1
 have f2 := Cel.frozen kr 2
 go_wp2
 exact post_q1 (p := 4) (u := 5) (v := .int .i64 E) (by kernel_rfl) rfl rfl rfl (((kr.set 0 _).set 1 _).set 2 _) ⟨rfl, bset (bset (bset bb (by omega) 0 _) (by omega) 1 _) (by omega) 2 _⟩
theorem cFar_ok (n0 n1 n2 n3 : Bool) (s0 d0 s1 d1 s2 d2 s3 d3 : ByteArray) (rN : Bool) (rS rD : ByteArray) (w : World)
  (HC : Hid (∀ (w1 : World) (B : Nat), Below w.heap.size w w1 → Cel w1 B [.bool n0, .string s0, .string d0, .bool n1, .string s1, .string d1, .bool n2, .string s2, .string d2, .bool n3, .string s3, .string d3] 28 → Calls Tryz.prog 45 #[.slice (some ⟨B, 0, none⟩) 2 2] w1 (Re w1 (.int .i64 0))))
  (HF : Hid (∀ w1, Below w.heap.size w w1 → Calls Tryz.prog 59 #[.agg #[.bool n0, .string s0, .string d0, .bool n1, .string s1, .string d1], .agg #[.bool n2, .string s2, .string d2, .bool n3, .string s3, .string d3]] w1 (Re w1 (.agg #[.bool rN, .string rS, .string rD])))) :
  Calls Tryz.prog 21 #[.agg #[.bool n0, .string s0, .string d0, .bool n1, .string s1, .string d1], .agg #[.bool n2, .string s2, .string d2, .bool n3, .string s3, .string d3]] w (Re w (.tuple #[.agg #[.bool rN, .string rS, .string rD], .int .i64 0])) := by
 go_enter Tryz.func21, Tryz.ntmps21
 go_wp2_with fail
 obtain ⟨w0, hw, ka, kb, kr, kl, bb⟩ := mk4 w [.bool n0, .string s0, .string d0, .bool n1, .string s1, .string d1] [.bool n2, .string s2, .string d2, .bool n3, .string s3, .string d3] [.bool false, .string { data := #[] }, .string { data := #[] }] [.bool n0, .string s0, .string d0, .bool n1, .string s1, .string d1, .bool n2, .string s2, .string d2, .bool n3, .string s3, .string d3] 28 28 26 28
 rw [← hw]
 clear hw
 go_fit (HC.out _ _ bb kl)
 rintro e w1 ⟨rfl, b1⟩
 replace ka := ka.below b1
 replace kb := kb.below b1
 replace kr := kr.below b1
 replace bb := Below.after bb b1
 clear b1 kl
 have tr := kr.lt
 obtain ⟨a0, a1, a2, a3, a4, a5⟩ := xk6 ka
 obtain ⟨b0, b1, b2, b3, b4, b5⟩ := xk6 kb
 go_wp2_with fail
 clear a0 a1 a2 a3 a4 a5 b0 b1 b2 b3 b4 b5
 go_fit (HF.out _ bb)
 rintro e w2 ⟨rfl, b1⟩
 replace kr := kr.below b1
 replace bb := Below.after bb b1
 clear b1
 obtain ⟨e0, e1, e2⟩ := xk3 kr
 have f0 := Cel.frozen kr 0
 have f1 := Cel.frozen kr 1
 have f2 := Cel.frozen kr 2
 go_wp2
 exact post_q1 (p := 4) (u := 5) (v := .int .i64 0) (by kernel_rfl) rfl rfl rfl (((kr.set 0 _).set 1 _).set 2 _) ⟨rfl, bset (bset (bset bb (by omega) 0 _) (by omega) 1 _) (by omega) 2 _⟩
theorem points6_ok (n0 n1 n2 n3 n4 n5 : Bool) (s0 d0 s1 d1 s2 d2 s3 d3 s4 d4 s5 d5 : ByteArray) (m0 m3 : Bool) (m1 m2 m4 m5 : ByteArray) (dN : Bool) (dS dD : ByteArray) (q0 q3 : Bool) (q1 q2 q4 q5 : ByteArray) (G : Int) (w : World) (hG : (G == 0) = false)
  (HS : Hid (∀ w1, Calls Tryz.prog 18 #[.agg #[.bool n0, .string s0, .string d0, .bool n1, .string s1, .string d1, .bool n2, .string s2, .string d2, .bool n3, .string s3, .string d3, .bool n4, .string s4, .string d4, .bool n5, .string s5, .string d5]] w1 (Re w1 (.bool true))))
  (MD : Hid (∀ w1, Below w.heap.size w w1 → Calls Tryz.prog 20 #[.agg #[.bool n0, .string s0, .string d0, .bool n1, .string s1, .string d1], .agg #[.bool n2, .string s2, .string d2, .bool n3, .string s3, .string d3]] w1 (Re w1 (.tuple #[.agg #[.bool m0, .string m1, .string m2, .bool m3, .string m4, .string m5], .int .i64 (0)]))))
  (FA : Hid (∀ w1, Below w.heap.size w w1 → Calls Tryz.prog 21 #[.agg #[.bool n0, .string s0, .string d0, .bool n1, .string s1, .string d1], .agg #[.bool n2, .string s2, .string d2, .bool n3, .string s3, .string d3]] w1 (Re w1 (.tuple #[.agg #[.bool dN, .string dS, .string dD], .int .i64 (0)]))))
  (CE : Hid (∀ w1, Below w.heap.size w w1 → Calls Tryz.prog 22 #[.agg #[.bool n0, .string s0, .string d0, .bool n1, .string s1, .string d1], .agg #[.bool n2, .string s2, .string d2, .bool n3, .string s3, .string d3], .agg #[.bool n4, .string s4, .string d4, .bool n5, .string s5, .string d5]] w1 (Re w1 (.tuple #[.agg #[.bool q0, .string q1, .string q2, .bool q3, .string q4, .string q5], .int .i64 (0)]))))
  (A2 : Hid (∀ (w1 : World) (B : Nat), Below w.heap.size w w1 → Cel w1 B [.bool n0, .string s0, .string d0, .bool n1, .string s1, .string d1, .bool n2, .string s2, .string d2, .bool n3, .string s3, .string d3] 28 → Calls Tryz.prog 9 #[.slice (some ⟨B, 0, none⟩) 2 2] w1 (Re w1 (.int .i64 (0)))))
  (HA : Hid (∀ w1, Below w.heap.size w w1 → Calls Tryz.prog 23 #[.agg #[.bool n0, .string s0, .string d0, .bool n1, .string s1, .string d1], .agg #[.bool n2, .string s2, .string d2, .bool n3, .string s3, .string d3], .agg #[.bool n4, .string s4, .string d4, .bool n5, .string s5, .string d5]] w1 (Re w1 (.int .i64 (0)))))
  (MI : Hid (∀ w1, Below w.heap.size w w1 → Calls Tryz.prog 24 #[.agg #[.bool n0, .string s0, .string d0, .bool n1, .string s1, .string d1], .agg #[.bool n2, .string s2, .string d2, .bool n3, .string s3, .string d3]] w1 (Re w1 (.agg #[.bool m0, .string m1, .string m2, .bool m3, .string m4, .string m5]))))
  (FR : Hid (∀ w1, Below w.heap.size w w1 → Calls Tryz.prog 25 #[.agg #[.bool n0, .string s0, .string d0, .bool n1, .string s1, .string d1], .agg #[.bool n2, .string s2, .string d2, .bool n3, .string s3, .string d3]] w1 (Re w1 (.agg #[.bool dN, .string dS, .string dD]))))
  (HO : Hid (∀ w1, Below w.heap.size w w1 → Calls Tryz.prog 26 #[.agg #[.bool n0, .string s0, .string d0, .bool n1, .string s1, .string d1], .agg #[.bool n2, .string s2, .string d2, .bool n3, .string s3, .string d3], .agg #[.bool n4, .string s4, .string d4, .bool n5, .string s5, .string d5]] w1 (Re w1 (.int .i64 (G)))))
  (RC : Hid (∀ w1, Below w.heap.size w w1 → Calls Tryz.prog 27 #[.agg #[.bool n0, .string s0, .string d0, .bool n1, .string s1, .string d1], .agg #[.bool n2, .string s2, .string d2, .bool n3, .string s3, .string d3], .agg #[.bool n4, .string s4, .string d4, .bool n5, .string s5, .string d5]] w1 (Re w1 (.agg #[.bool q0, .string q1, .string q2, .bool q3, .string q4, .string q5]))))
  (HL : Hid (∀ w1, Below w.heap.size w w1 → Calls Tryz.prog 19 #[] w1 (Re w1 (.bool true)))) :
  Calls Tryz.prog 4 #[.agg #[.bool n0, .string s0, .string d0, .bool n1, .string s1, .string d1, .bool n2, .string s2, .string d2, .bool n3, .string s3, .string d3, .bool n4, .string s4, .string d4, .bool n5, .string s5, .string d5]] w (Re w (.bool true)) := by
 go_enter Tryz.func4, Tryz.ntmps4
 go_wp2_with (first | (refine wpList_load_row rfl 45 _ rfl w.heap.size rfl 45 _ (0, 0) _ (Cel.new w [.bool n0, .string s0, .string d0, .bool n1, .string s1, .string d1, .bool n2, .string s2, .string d2, .bool n3, .string s3, .string d3, .bool n4, .string s4, .string d4, .bool n5, .string s5, .string d5] 45) Tryz.underlying45 rfl (by kernel_rfl) ?_) | fail)
 go_wp2_with fail
 go_fit (HS.out _)
 rintro e w1 ⟨rfl, b1⟩
 obtain ⟨kt, bb⟩ := al1 b1
 clear b1
 obtain ⟨c0, c1, c2, c3, c4, c5, c6, c7, c8, c9, c10, c11, c12, c13, c14, c15, c16, c17⟩ := c18 kt
 go_wp2_with fail
 go_fit (MD.out _ bb)
 rintro e w2 ⟨rfl, b1⟩
 replace kt := kt.below b1
 replace bb := Below.after bb b1
 clear b1
 clear c0 c1 c2 c3 c4 c5 c6 c7 c8 c9 c10 c11 c12 c13 c14 c15 c16 c17
 obtain ⟨c0, c1, c2, c3, c4, c5, c6, c7, c8, c9, c10, c11, c12, c13, c14, c15, c16, c17⟩ := c18 (kt.alloc (.cells #[.bool m0, .string m1, .string m2, .bool m3, .string m4, .string m5] 28))
 go_wp2_with fail
 obtain ⟨x2, hw, km, b1⟩ := mk1 w2 [.bool m0, .string m1, .string m2, .bool m3, .string m4, .string m5] 28
 rw [← hw]
 clear hw c0 c1 c2 c3 c4 c5 c6 c7 c8 c9 c10 c11 c12 c13 c14 c15 c16 c17
 replace kt := kt.below b1
 replace bb := Below.after bb b1
 clear b1
 go_fit (FA.out _ bb)
 rintro e w3 ⟨rfl, b1⟩
 replace kt := kt.below b1
 replace km := km.below b1
 replace bb := Below.after bb b1
 clear b1
 obtain ⟨c0, c1, c2, c3, c4, c5, c6, c7, c8, c9, c10, c11, c12, c13, c14, c15, c16, c17⟩ := c18 (kt.alloc (.cells #[.bool dN, .string dS, .string dD] 26))
 go_wp2_with fail
 obtain ⟨x3, hw, kd, b1⟩ := mk1 w3 [.bool dN, .string dS, .string dD] 26
 rw [← hw]
 clear hw c0 c1 c2 c3 c4 c5 c6 c7 c8 c9 c10 c11 c12 c13 c14 c15 c16 c17
 replace kt := kt.below b1
 replace km := km.below b1
 replace bb := Below.after bb b1
 clear b1
 go_fit (CE.out _ bb)
 rintro e w4 ⟨rfl, b1⟩
 replace kt := kt.below b1
 replace km := km.below b1
 replace kd := kd.below b1
 replace bb := Below.after bb b1
 clear b1
 obtain ⟨c0, c1, c2, c3, c4, c5, c6, c7, c8, c9, c10, c11, c12, c13, c14, c15, c16, c17⟩ := c18 (kt.alloc (.cells #[.bool q0, .string q1, .string q2, .bool q3, .string q4, .string q5] 28))
 go_wp2_with fail
 obtain ⟨x4, hw, kc, kl, b1⟩ := mk2 w4 [.bool q0, .string q1, .string q2, .bool q3, .string q4, .string q5] [.bool n0, .string s0, .string d0, .bool n1, .string s1, .string d1, .bool n2, .string s2, .string d2, .bool n3, .string s3, .string d3] 28 28
 rw [← hw]
 clear hw c0 c1 c2 c3 c4 c5 c6 c7 c8 c9 c10 c11 c12 c13 c14 c15 c16 c17
 replace kt := kt.below b1
 replace km := km.below b1
 replace kd := kd.below b1
 replace bb := Below.after bb b1
 clear b1
 go_fit (A2.out _ _ bb kl)
 rintro e w5 ⟨rfl, b1⟩
 replace kt := kt.below b1
 replace km := km.below b1
 replace kd := kd.below b1
 replace kc := kc.below b1
 replace bb := Below.after bb b1
 clear b1
 clear kl
 obtain ⟨c0, c1, c2, c3, c4, c5, c6, c7, c8, c9, c10, c11, c12, c13, c14, c15, c16, c17⟩ := c18 kt
 go_wp2_with fail
 go_fit (HA.out _ bb)
 rintro e w6 ⟨rfl, b1⟩
 replace kt := kt.below b1
 replace km := km.below b1
 replace kd := kd.below b1
 replace kc := kc.below b1
 replace bb := Below.after bb b1
 clear b1
 clear c0 c1 c2 c3 c4 c5 c6 c7 c8 c9 c10 c11 c12 c13 c14 c15 c16 c17
 go_wp2_with fail
 clear HS HA MD FA CE A2
 have bd := bdrew w6
 replace kt := kt.below bd
 replace km := km.below bd
 replace kd := kd.below bd
 replace kc := kc.below bd
 replace bb := Below.after bb bd
 clear bd
 refine wp_region_held_drew (S := fun w' => xc18 w' w.heap.size (.bool n0) (.string s0) (.string d0) (.bool n1) (.string s1) (.string d1) (.bool n2) (.string s2) (.string d2) (.bool n3) (.string s3) (.string d3) (.bool n4) (.string s4) (.string d4) (.bool n5) (.string s5) (.string d5) ∧ xc6 w' w2.heap.size (.bool m0) (.string m1) (.string m2) (.bool m3) (.string m4) (.string m5) ∧ xc3 w' w3.heap.size (.bool dN) (.string dS) (.string dD)) (by kernel_rfl) ⟨xk18 kt, xk6 km, xk3 kd⟩ (fun hS => ?_)
 refine WA.start (n := 30) (by kernel_rfl) ?_
 refine WA.tp 0 rfl ?_
 refine WA.tp 1 rfl ?_
 refine WA.tp 2 rfl ?_
 refine WA.tp 3 rfl ?_
 refine WA.tp 4 rfl ?_
 refine WA.tp 5 rfl ?_
 refine WA.tp 6 rfl ?_
 refine WA.tp 7 rfl ?_
 refine WA.tp 8 rfl ?_
 refine WA.tp 9 rfl ?_
 refine WA.tp 10 rfl ?_
 refine WA.tp 11 rfl ?_
 refine WA.tp 12 rfl ?_
 refine WA.tp 13 rfl ?_
 refine WA.tp 14 rfl ?_
 refine WA.tp 15 rfl ?_
 refine WA.tp 16 rfl ?_
 refine WA.cal 17 rfl (fun K hK => ?_)
 simp only [List.getElem_toArray, List.getElem_cons_succ, List.getElem_cons_zero]
 go_simp
 go_fit (MI.out _ bb)
 rintro e wn ⟨rfl, bn⟩
 replace kt := kt.below bn
 replace km := km.below bn
 replace kd := kd.below bn
 replace kc := kc.below bn
 replace bb := Below.after bb bn
 try go_wp2_with fail
 clear hS
 refine hK.out _ _ ⟨xk18 kt, xk6 km, xk3 kd⟩ (fun hS => ?_)
 clear hK K bn
 refine WA.tp 18 rfl ?_
 refine WA.tp 19 rfl ?_
 refine WA.tp 20 rfl ?_
 refine WA.tp 21 rfl ?_
 refine WA.tp 22 rfl ?_
 refine WA.tp 23 rfl ?_
 refine WA.tp 24 rfl ?_
 refine WA.cal 25 rfl (fun K hK => ?_)
 simp only [List.getElem_toArray, List.getElem_cons_succ, List.getElem_cons_zero]
 go_simp
 go_fit (FR.out _ bb)
 rintro e wn ⟨rfl, bn⟩
 replace kt := kt.below bn
 replace km := km.below bn
 replace kd := kd.below bn
 replace kc := kc.below bn
 replace bb := Below.after bb bn
 try go_wp2_with fail
 clear hS
 refine hK.out _ _ ⟨xk18 kt, xk6 km, xk3 kd⟩ (fun hS => ?_)
 clear hK K bn
 refine WA.tp 26 rfl ?_
 refine WA.tp 27 rfl ?_
 refine WA.tp 28 rfl ?_
 refine WA.tp 29 rfl ?_
 refine WA.done (by kernel_rfl) ?_
 clear hS
 clear MI FR
 obtain ⟨c0, c1, c2, c3, c4, c5, c6, c7, c8, c9, c10, c11, c12, c13, c14, c15, c16, c17⟩ := c18 kt
 go_wp2_with fail
 go_fit (HO.out _ bb)
 rintro e w7 ⟨rfl, b1⟩
 replace kt := kt.below b1
 replace km := km.below b1
 replace kd := kd.below b1
 replace kc := kc.below b1
 replace bb := Below.after bb b1
 clear b1
 clear c0 c1 c2 c3 c4 c5 c6 c7 c8 c9 c10 c11 c12 c13 c14 c15 c16 c17
 go_wp2_with fail
 clear HO
 have bd := bdrew w7
 replace kt := kt.below bd
 replace km := km.below bd
 replace kd := kd.below bd
 replace kc := kc.below bd
 replace bb := Below.after bb bd
 clear bd
 refine wp_region_held_drew (S := fun w' => xc18 w' w.heap.size (.bool n0) (.string s0) (.string d0) (.bool n1) (.string s1) (.string d1) (.bool n2) (.string s2) (.string d2) (.bool n3) (.string s3) (.string d3) (.bool n4) (.string s4) (.string d4) (.bool n5) (.string s5) (.string d5) ∧ xc6 w' w4.heap.size (.bool q0) (.string q1) (.string q2) (.bool q3) (.string q4) (.string q5)) (by kernel_rfl) ⟨xk18 kt, xk6 kc⟩ (fun hS => ?_)
 refine WA.start (n := 17) (by kernel_rfl) ?_
 refine WA.tp 0 rfl ?_
 refine WA.tp 1 rfl ?_
 refine WA.tp 2 rfl ?_
 refine WA.tp 3 rfl ?_
 refine WA.tp 4 rfl ?_
 refine WA.tp 5 rfl ?_
 refine WA.tp 6 rfl ?_
 refine WA.tp 7 rfl ?_
 refine WA.tp 8 rfl ?_
 refine WA.tp 9 rfl ?_
 refine WA.cal 10 rfl (fun K hK => ?_)
 simp only [List.getElem_toArray, List.getElem_cons_succ, List.getElem_cons_zero]
 go_simp
 go_fit (RC.out _ bb)
 rintro e wn ⟨rfl, bn⟩
 replace kt := kt.below bn
 replace km := km.below bn
 replace kd := kd.below bn
 replace kc := kc.below bn
 replace bb := Below.after bb bn
 try go_wp2_with fail
 clear hS
 refine hK.out _ _ ⟨xk18 kt, xk6 kc⟩ (fun hS => ?_)
 clear hK K bn
 refine WA.tp 11 rfl ?_
 refine WA.tp 12 rfl ?_
 refine WA.tp 13 rfl ?_
 refine WA.cal 14 rfl (fun K hK => ?_)
 simp only [List.getElem_toArray, List.getElem_cons_succ, List.getElem_cons_zero]
 go_simp
 go_fit (HL.out _ bb)
 rintro e wn ⟨rfl, bn⟩
 replace kt := kt.below bn
 replace km := km.below bn
 replace kd := kd.below bn
 replace kc := kc.below bn
 replace bb := Below.after bb bn
 try go_wp2_with fail
 clear hS
 refine hK.out _ _ ⟨xk18 kt, xk6 kc⟩ (fun hS => ?_)
 clear hK K bn
 refine WA.tp 15 rfl ?_
 refine WA.tp 16 rfl ?_
 refine WA.done (by kernel_rfl) ?_
 clear hS
 go_wp2
 go_ret
 exact ⟨rfl, bb⟩
theorem cSharp_no (n0 n1 n2 n3 n4 n5 : Bool) (s0 d0 s1 d1 s2 d2 s3 d3 s4 d4 s5 d5 : ByteArray) (ux uy vx vy : Rat) (w : World)
  (HC : Hid (∀ (w1 : World) (B : Nat), Below w.heap.size w w1 → Cel w1 B [.bool n0, .string s0, .string d0, .bool n1, .string s1, .string d1, .bool n2, .string s2, .string d2, .bool n3, .string s3, .string d3, .bool n4, .string s4, .string d4, .bool n5, .string s5, .string d5] 28 → Calls Tryz.prog 45 #[.slice (some ⟨B, 0, none⟩) 3 3] w1 (Re w1 (.int .i64 0))))
  (q1 : ∀ w1, (binOp .eql 28 (.agg #[.bool n2, .string s2, .string d2, .bool n3, .string s3, .string d3]) (.agg #[.bool n0, .string s0, .string d0, .bool n1, .string s1, .string d1])).run Tryz.prog w1 = .ok (.bool false) w1)
  (q2 : ∀ w1, (binOp .eql 28 (.agg #[.bool n2, .string s2, .string d2, .bool n3, .string s3, .string d3]) (.agg #[.bool n4, .string s4, .string d4, .bool n5, .string s5, .string d5])).run Tryz.prog w1 = .ok (.bool false) w1)
  (H1 : Hid (∀ w1, Calls Tryz.prog 70 #[.agg #[.bool n2, .string s2, .string d2, .bool n3, .string s3, .string d3], .agg #[.bool n0, .string s0, .string d0, .bool n1, .string s1, .string d1]] w1 fun e w' => ∃ m0 a0 l0 c0 m1 a1 l1 c1 a2 l2 c2 X Y U, e = .returned (.agg #[.bool m0, .slice a0 l0 c0, .bool m1, .slice a1 l1 c1, .bool false, .slice a2 l2 c2]) ∧ SpV w' m0 a0 l0 c0 m1 a1 l1 c1 a2 l2 c2 X Y U ux uy ∧ Below w1.heap.size w1 w'))
  (H2 : Hid (∀ w1, Calls Tryz.prog 70 #[.agg #[.bool n2, .string s2, .string d2, .bool n3, .string s3, .string d3], .agg #[.bool n4, .string s4, .string d4, .bool n5, .string s5, .string d5]] w1 fun e w' => ∃ m0 a0 l0 c0 m1 a1 l1 c1 a2 l2 c2 X Y U, e = .returned (.agg #[.bool m0, .slice a0 l0 c0, .bool m1, .slice a1 l1 c1, .bool false, .slice a2 l2 c2]) ∧ SpV w' m0 a0 l0 c0 m1 a1 l1 c1 a2 l2 c2 X Y U vx vy ∧ Below w1.heap.size w1 w')) (hd : Gm.sg (ux * vx + uy * vy) ≤ 0) :
  Calls Tryz.prog 28 #[.agg #[.bool n0, .string s0, .string d0, .bool n1, .string s1, .string d1], .agg #[.bool n2, .string s2, .string d2, .bool n3, .string s3, .string d3], .agg #[.bool n4, .string s4, .string d4, .bool n5, .string s5, .string d5]] w (Re w (.tuple #[.bool false, .int .i64 0])) := by
 go_enter Tryz.func28, Tryz.ntmps28
 go_wp2_with fail
 obtain ⟨w0, hw, ka, kb, kc, kl, bb⟩ := mk4 w [.bool n0, .string s0, .string d0, .bool n1, .string s1, .string d1] [.bool n2, .string s2, .string d2, .bool n3, .string s3, .string d3] [.bool n4, .string s4, .string d4, .bool n5, .string s5, .string d5] [.bool n0, .string s0, .string d0, .bool n1, .string s1, .string d1, .bool n2, .string s2, .string d2, .bool n3, .string s3, .string d3, .bool n4, .string s4, .string d4, .bool n5, .string s5, .string d5] 28 28 28 28
 rw [← hw]
 clear hw
 go_fit (HC.out _ _ bb kl)
 rintro e w1 ⟨rfl, b1⟩
 replace ka := ka.below b1
 replace kb := kb.below b1
 replace kc := kc.below b1
 replace bb := Below.after bb b1
 clear b1 kl
 obtain ⟨ca_0, ca_1, ca_2, ca_3, ca_4, ca_5⟩ := xk6 ka
 obtain ⟨cb_6, cb_7, cb_8, cb_9, cb_10, cb_11⟩ := xk6 kb
 obtain ⟨cc_12, cc_13, cc_14, cc_15, cc_16, cc_17⟩ := xk6 kc
 go_wp2_with fail
 clear ca_0 ca_1 ca_2 ca_3 ca_4 ca_5 cb_6 cb_7 cb_8 cb_9 cb_10 cb_11 cc_12 cc_13 cc_14 cc_15 cc_16 cc_17
 have mk : Hid (∀ w', SB w1 w' → xc6 w' w.heap.size (.bool n0) (.string s0) (.string d0) (.bool n1) (.string s1) (.string d1) ∧ xc6 w' (w.heap.size + 1) (.bool n2) (.string s2) (.string d2) (.bool n3) (.string s3) (.string d3) ∧ xc6 w' (w.heap.size + 1 + 1) (.bool n4) (.string s4) (.string d4) (.bool n5) (.string s5) (.string d5)) := fun w' h => ⟨xk6 (ka.below h), xk6 (kb.below h), xk6 (kc.below h)⟩
 go_cut [9, 10] from 29 to 34 (fun v u wx => ∃ gc gd m1 a1 l1 c1 m2 a2 l2 c2 a3 l3 c3 X1 Y1 U1 m4 a4 l4 c4 m5 a5 l5 c5 a6 l6 c6 X4 Y4 U4, v = .pointer (some ⟨gc, 0, none⟩) ∧ u = .pointer (some ⟨gd, 0, none⟩) ∧ w1.heap.size ≤ gc ∧ w1.heap.size ≤ gd ∧ Cel wx gc [.bool m1, .slice a1 l1 c1, .bool m2, .slice a2 l2 c2, .bool false, .slice a3 l3 c3] 74 ∧ Cel wx gd [.bool m4, .slice a4 l4 c4, .bool m5, .slice a5 l5 c5, .bool false, .slice a6 l6 c6] 74 ∧ SpV wx m1 a1 l1 c1 m2 a2 l2 c2 a3 l3 c3 X1 Y1 U1 ux uy ∧ SpV wx m4 a4 l4 c4 m5 a5 l5 c5 a6 l6 c6 X4 Y4 U4 vx vy ∧ Below w1.heap.size w1 wx)
 case first =>
  clear HC q1 q2
  refine wp_region_held_drew (S := SB w1) (by kernel_rfl) (bdrew _) (fun bc => ?_)
  refine WA.start (n := 10) (by kernel_rfl) ?_
  refine WA.tl 0 rfl ?_
  refine WA.tl 1 rfl ?_
  refine WA.tl 3 rfl ?_
  refine WA.tl 4 rfl ?_
  refine WA.gen2 (i := 6) (s := 9) (i' := 7) (s' := 10) undef undef (Pt w1 [.bool false, .slice none 0 0, .bool false, .slice none 0 0, .bool false, .slice none 0 0] 74) (Pt w1 [.bool false, .slice none 0 0, .bool false, .slice none 0 0, .bool false, .slice none 0 0] 74) (fun b b' x x' hz hy hn => ?_)
  simp only [Act.put, List.setIfInBounds_toArray, List.set_cons_zero, List.set_cons_succ]
  replace hz := P2.mk hz hy hn
  clear hy hn
  revert b b' x x'
  refine WA.two 10 27 2 6 7 rfl rfl rfl bc ?_
  clear bc
  intro b b' x x' w' hz bx bc K hK
  clear bx
  simp only [List.getElem_toArray, List.getElem_cons_succ, List.getElem_cons_zero]
  go_simp
  go_fit (H1.out _)
  rintro e wn ⟨m1, a1, l1, c1, m2, a2, l2, c2, a3, l3, c3, X1, Y1, U1, rfl, sv1, bn⟩
  replace bc := Below.after bc bn
  try go_wp2_with fail
  refine hK.out _ _ bc (fun _ => ?_)
  replace hz := hz.below bn
  clear hK K bn
  revert b b' x x'
  refine WA.two 10 31 5 6 7 rfl rfl rfl bc ?_
  clear bc
  intro b b' x x' w' hz bx bc K hK
  replace sv1 := sv1.below bx
  clear bx
  simp only [List.getElem_toArray, List.getElem_cons_succ, List.getElem_cons_zero]
  go_simp
  go_fit (H2.out _)
  rintro e wn ⟨m4, a4, l4, c4, m5, a5, l5, c5, a6, l6, c6, X4, Y4, U4, rfl, sv4, bn⟩
  replace bc := Below.after bc bn
  try go_wp2_with fail
  refine hK.out _ _ bc (fun _ => ?_)
  replace hz := hz.below bn
  replace sv1 := sv1.below bn
  clear hK K bn
  revert b b' x x'
  refine WA.fin2 6 7 rfl rfl bc ?_
  clear bc
  intro x x' w' hz bx bc
  replace sv1 := sv1.below bx
  replace sv4 := sv4.below bx
  obtain ⟨g0, rfl, h0, k0⟩ := hz.p rfl
  obtain ⟨g1, rfl, h1, k1⟩ := hz.p' rfl
  have n01 : ¬ g0 = g1 := fun e => hz.ne rfl rfl (by rw [e])
  clear bx hz
  have e0_0 := cel6_0 k0
  have f0_0 := Cel.frozen k0 0
  have e0_1 := cel6_1 k0
  have f0_1 := Cel.frozen k0 1
  have e0_2 := cel6_2 k0
  have f0_2 := Cel.frozen k0 2
  have e0_3 := cel6_3 k0
  have f0_3 := Cel.frozen k0 3
  have e0_4 := cel6_4 k0
  have f0_4 := Cel.frozen k0 4
  have e0_5 := cel6_5 k0
  have f0_5 := Cel.frozen k0 5
  refine WA.call 8 rfl (fun K hK => ?_)
  simp only [List.getElem_toArray, List.getElem_cons_succ, List.getElem_cons_zero]
  go_simp
  try go_wp2_with fail
  clear e0_0 f0_0 e0_1 f0_1 e0_2 f0_2 e0_3 f0_3 e0_4 f0_4 e0_5 f0_5
  refine hK.out _ _ (bset (bset (bset (bset (bset (bset bc h0 0 (.bool m1)) h0 1 (.slice a1 l1 c1)) h0 2 (.bool m2)) h0 3 (.slice a2 l2 c2)) h0 4 (.bool false)) h0 5 (.slice a3 l3 c3)) (fun hS => ?_)
  clear hK K
  replace sv1 := sv1.set6 k0 (.bool m1) (.slice a1 l1 c1) (.bool m2) (.slice a2 l2 c2) (.bool false) (.slice a3 l3 c3)
  replace sv4 := sv4.set6 k0 (.bool m1) (.slice a1 l1 c1) (.bool m2) (.slice a2 l2 c2) (.bool false) (.slice a3 l3 c3)
  replace k0 := (Cel.set (Cel.set (Cel.set (Cel.set (Cel.set (Cel.set k0 0 (.bool m1)) 1 (.slice a1 l1 c1)) 2 (.bool m2)) 3 (.slice a2 l2 c2)) 4 (.bool false)) 5 (.slice a3 l3 c3))
  replace k1 := (Cel.other (Cel.other (Cel.other (Cel.other (Cel.other (Cel.other k1 (fun e => n01 e.symm) 0 (.bool m1)) (fun e => n01 e.symm) 1 (.slice a1 l1 c1)) (fun e => n01 e.symm) 2 (.bool m2)) (fun e => n01 e.symm) 3 (.slice a2 l2 c2)) (fun e => n01 e.symm) 4 (.bool false)) (fun e => n01 e.symm) 5 (.slice a3 l3 c3))
  replace bc := (bset (bset (bset (bset (bset (bset bc h0 0 (.bool m1)) h0 1 (.slice a1 l1 c1)) h0 2 (.bool m2)) h0 3 (.slice a2 l2 c2)) h0 4 (.bool false)) h0 5 (.slice a3 l3 c3))
  have e1_0 := cel6_0 k1
  have f1_0 := Cel.frozen k1 0
  have e1_1 := cel6_1 k1
  have f1_1 := Cel.frozen k1 1
  have e1_2 := cel6_2 k1
  have f1_2 := Cel.frozen k1 2
  have e1_3 := cel6_3 k1
  have f1_3 := Cel.frozen k1 3
  have e1_4 := cel6_4 k1
  have f1_4 := Cel.frozen k1 4
  have e1_5 := cel6_5 k1
  have f1_5 := Cel.frozen k1 5
  refine WA.call 9 rfl (fun K hK => ?_)
  simp only [List.getElem_toArray, List.getElem_cons_succ, List.getElem_cons_zero]
  go_simp
  try go_wp2_with fail
  clear e1_0 f1_0 e1_1 f1_1 e1_2 f1_2 e1_3 f1_3 e1_4 f1_4 e1_5 f1_5
  refine hK.out _ _ (bset (bset (bset (bset (bset (bset bc h1 0 (.bool m4)) h1 1 (.slice a4 l4 c4)) h1 2 (.bool m5)) h1 3 (.slice a5 l5 c5)) h1 4 (.bool false)) h1 5 (.slice a6 l6 c6)) (fun hS => ?_)
  clear hK K
  replace sv1 := sv1.set6 k1 (.bool m4) (.slice a4 l4 c4) (.bool m5) (.slice a5 l5 c5) (.bool false) (.slice a6 l6 c6)
  replace sv4 := sv4.set6 k1 (.bool m4) (.slice a4 l4 c4) (.bool m5) (.slice a5 l5 c5) (.bool false) (.slice a6 l6 c6)
  replace k0 := (Cel.other (Cel.other (Cel.other (Cel.other (Cel.other (Cel.other k0 n01 0 (.bool m4)) n01 1 (.slice a4 l4 c4)) n01 2 (.bool m5)) n01 3 (.slice a5 l5 c5)) n01 4 (.bool false)) n01 5 (.slice a6 l6 c6))
  replace k1 := (Cel.set (Cel.set (Cel.set (Cel.set (Cel.set (Cel.set k1 0 (.bool m4)) 1 (.slice a4 l4 c4)) 2 (.bool m5)) 3 (.slice a5 l5 c5)) 4 (.bool false)) 5 (.slice a6 l6 c6))
  replace bc := (bset (bset (bset (bset (bset (bset bc h1 0 (.bool m4)) h1 1 (.slice a4 l4 c4)) h1 2 (.bool m5)) h1 3 (.slice a5 l5 c5)) h1 4 (.bool false)) h1 5 (.slice a6 l6 c6))
  refine WA.done (by kernel_rfl) ?_
  go_wp2_with fail
  go_meet
  exact ⟨_, _, m1, a1, l1, c1, m2, a2, l2, c2, a3, l3, c3, X1, Y1, U1, m4, a4, l4, c4, m5, a5, l5, c5, a6, l6, c6, X4, Y4, U4, rfl, rfl, h0, h1, k0, k1, sv1, sv4, bc⟩
 case rest =>
 obtain ⟨gu, gv, m1, a1, l1, c1, m2, a2, l2, c2, a3, l3, c3, X1, Y1, U1, m4, a4, l4, c4, m5, a5, l5, c5, a6, l6, c6, X4, Y4, U4, rfl, rfl, lu, lv, ku, kv, sv1, sv4, b1⟩ := hcut
 clear mk
 have sz := b1.size
 replace ka := ka.below b1
 replace kb := kb.below b1
 replace kc := kc.below b1
 replace bb := Below.after bb b1
 clear b1
 have tu := ku.lt
 have tv := kv.lt
 obtain ⟨cu_0, cu_1, cu_2, cu_3, cu_4, cu_5⟩ := xk6 ku
 obtain ⟨cv_6, cv_7, cv_8, cv_9, cv_10, cv_11⟩ := xk6 kv
 go_wp2_with fail
 clear cu_0 cu_1 cu_2 cu_3 cu_4 cu_5 cv_6 cv_7 cv_8 cv_9 cv_10 cv_11
 go_fit (sdot_any _ _ _ _ _ _ _ _ _ _ _ _ _ _ _ _ _ _ _ _ _ _ _ _ X1 Y1 X4 Y4 53 _ (by omega) sv1.1 sv1.2.1 sv4.1 sv4.2.1)
 rintro e w2 ⟨m7, v7, rfl, nv7, b1⟩
 obtain ⟨a7, l7, c7, rfl⟩ := nv7.slice
 replace ka := ka.below b1
 replace kb := kb.below b1
 replace kc := kc.below b1
 replace ku := ku.below b1
 replace kv := kv.below b1
 replace sv1 := sv1.below b1
 replace sv4 := sv4.below b1
 replace bb := Below.after bb b1
 clear b1
 go_wp2_with fail
 go_fit (nsign_any _ _ (X1 * X4 + Y1 * Y4) (53 + 53 + 1) _ (nv7.below (bel_al _ _)))
 rintro e w3 ⟨rfl, b1⟩
 obtain ⟨kt, b1⟩ := al1 b1
 replace ka := ka.below b1
 replace kb := kb.below b1
 replace kc := kc.below b1
 replace ku := ku.below b1
 replace kv := kv.below b1
 replace sv1 := sv1.below b1
 replace sv4 := sv4.below b1
 replace nv7 := nv7.below b1
 replace bb := Below.after bb b1
 clear b1
 rw [Gm.dot_sign sv1.2.2.2 sv4.2.2.2]
 go_wp2
 go_ret2
 exact ⟨rfl, bb⟩
theorem toC_flat (n0 n1 n2 n3 n4 n5 : Bool) (s0 d0 s1 d1 s2 d2 s3 d3 s4 d4 s5 d5 : ByteArray) (ux uy vx vy : Rat) (w : World) (h0 : Gm.sg (ux * vy - uy * vx) = 0)
  (H1 : Hid (∀ w1, Calls Tryz.prog 70 #[.agg #[.bool n0, .string s0, .string d0, .bool n1, .string s1, .string d1], .agg #[.bool n2, .string s2, .string d2, .bool n3, .string s3, .string d3]] w1 fun e w' => ∃ m0 a0 l0 c0 m1 a1 l1 c1 a2 l2 c2 X Y U, e = .returned (.agg #[.bool m0, .slice a0 l0 c0, .bool m1, .slice a1 l1 c1, .bool false, .slice a2 l2 c2]) ∧ SpV w' m0 a0 l0 c0 m1 a1 l1 c1 a2 l2 c2 X Y U ux uy ∧ Below w1.heap.size w1 w'))
  (H2 : Hid (∀ w1, Calls Tryz.prog 70 #[.agg #[.bool n0, .string s0, .string d0, .bool n1, .string s1, .string d1], .agg #[.bool n4, .string s4, .string d4, .bool n5, .string s5, .string d5]] w1 fun e w' => ∃ m0 a0 l0 c0 m1 a1 l1 c1 a2 l2 c2 X Y U, e = .returned (.agg #[.bool m0, .slice a0 l0 c0, .bool m1, .slice a1 l1 c1, .bool false, .slice a2 l2 c2]) ∧ SpV w' m0 a0 l0 c0 m1 a1 l1 c1 a2 l2 c2 X Y U vx vy ∧ Below w1.heap.size w1 w')) :
  Calls Tryz.prog 60 #[.agg #[.bool n0, .string s0, .string d0, .bool n1, .string s1, .string d1], .agg #[.bool n2, .string s2, .string d2, .bool n3, .string s3, .string d3], .agg #[.bool n4, .string s4, .string d4, .bool n5, .string s5, .string d5]] w (Re w (.tuple #[.agg #[.bool false, .slice none 0 0, .bool false, .slice none 0 0, .bool false, .slice none 0 0], .bool false])) := by
 go_enter Tryz.func60, Tryz.ntmps60
 go_wp2_with fail
 obtain ⟨w1, hw, ka, kb, kc, kr, bb⟩ := mk4 w [.bool n0, .string s0, .string d0, .bool n1, .string s1, .string d1] [.bool n2, .string s2, .string d2, .bool n3, .string s3, .string d3] [.bool n4, .string s4, .string d4, .bool n5, .string s5, .string d5] [.bool false, .slice none 0 0, .bool false, .slice none 0 0, .bool false, .slice none 0 0] 28 28 28 74
 rw [← hw]
 clear hw
 have tr := kr.lt
 have mk : Hid (∀ w', SB w1 w' → xc6 w' w.heap.size (.bool n0) (.string s0) (.string d0) (.bool n1) (.string s1) (.string d1) ∧ xc6 w' (w.heap.size + 1) (.bool n2) (.string s2) (.string d2) (.bool n3) (.string s3) (.string d3) ∧ xc6 w' (w.heap.size + 1 + 1) (.bool n4) (.string s4) (.string d4) (.bool n5) (.string s5) (.string d5)) := fun w' h => ⟨xk6 (ka.below h), xk6 (kb.below h), xk6 (kc.below h)⟩
 go_cut [8, 9] from 14 to 19 (fun v u wx => ∃ gc gd m1 a1 l1 c1 m2 a2 l2 c2 a3 l3 c3 X1 Y1 U1 m4 a4 l4 c4 m5 a5 l5 c5 a6 l6 c6 X4 Y4 U4, v = .pointer (some ⟨gc, 0, none⟩) ∧ u = .pointer (some ⟨gd, 0, none⟩) ∧ w1.heap.size ≤ gc ∧ w1.heap.size ≤ gd ∧ Cel wx gc [.bool m1, .slice a1 l1 c1, .bool m2, .slice a2 l2 c2, .bool false, .slice a3 l3 c3] 74 ∧ Cel wx gd [.bool m4, .slice a4 l4 c4, .bool m5, .slice a5 l5 c5, .bool false, .slice a6 l6 c6] 74 ∧ SpV wx m1 a1 l1 c1 m2 a2 l2 c2 a3 l3 c3 X1 Y1 U1 ux uy ∧ SpV wx m4 a4 l4 c4 m5 a5 l5 c5 a6 l6 c6 X4 Y4 U4 vx vy ∧ Below w1.heap.size w1 wx)
 case first =>
  clear h0
  refine wp_region_held_drew (S := SB w1) (by kernel_rfl) (bdrew _) (fun bc => ?_)
  refine WA.start (n := 10) (by kernel_rfl) ?_
  refine WA.tl 0 rfl ?_
  refine WA.tl 1 rfl ?_
  refine WA.tl 3 rfl ?_
  refine WA.tl 4 rfl ?_
  refine WA.gen2 (i := 6) (s := 8) (i' := 7) (s' := 9) undef undef (Pt w1 [.bool false, .slice none 0 0, .bool false, .slice none 0 0, .bool false, .slice none 0 0] 74) (Pt w1 [.bool false, .slice none 0 0, .bool false, .slice none 0 0, .bool false, .slice none 0 0] 74) (fun b b' x x' hz hy hn => ?_)
  simp only [Act.put, List.setIfInBounds_toArray, List.set_cons_zero, List.set_cons_succ]
  replace hz := P2.mk hz hy hn
  clear hy hn
  revert b b' x x'
  refine WA.two 10 27 2 6 7 rfl rfl rfl bc ?_
  clear bc
  intro b b' x x' w' hz bx bc K hK
  clear bx
  simp only [List.getElem_toArray, List.getElem_cons_succ, List.getElem_cons_zero]
  go_simp
  go_fit (H1.out _)
  rintro e wn ⟨m1, a1, l1, c1, m2, a2, l2, c2, a3, l3, c3, X1, Y1, U1, rfl, sv1, bn⟩
  replace bc := Below.after bc bn
  try go_wp2_with fail
  refine hK.out _ _ bc (fun _ => ?_)
  replace hz := hz.below bn
  clear hK K bn
  revert b b' x x'
  refine WA.two 10 31 5 6 7 rfl rfl rfl bc ?_
  clear bc
  intro b b' x x' w' hz bx bc K hK
  replace sv1 := sv1.below bx
  clear bx
  simp only [List.getElem_toArray, List.getElem_cons_succ, List.getElem_cons_zero]
  go_simp
  go_fit (H2.out _)
  rintro e wn ⟨m4, a4, l4, c4, m5, a5, l5, c5, a6, l6, c6, X4, Y4, U4, rfl, sv4, bn⟩
  replace bc := Below.after bc bn
  try go_wp2_with fail
  refine hK.out _ _ bc (fun _ => ?_)
  replace hz := hz.below bn
  replace sv1 := sv1.below bn
  clear hK K bn
  revert b b' x x'
  refine WA.fin2 6 7 rfl rfl bc ?_
  clear bc
  intro x x' w' hz bx bc
  replace sv1 := sv1.below bx
  replace sv4 := sv4.below bx
  obtain ⟨g0, rfl, h0, k0⟩ := hz.p rfl
  obtain ⟨g1, rfl, h1, k1⟩ := hz.p' rfl
  have n01 : ¬ g0 = g1 := fun e => hz.ne rfl rfl (by rw [e])
  clear bx hz
  have e0_0 := cel6_0 k0
  have f0_0 := Cel.frozen k0 0
  have e0_1 := cel6_1 k0
  have f0_1 := Cel.frozen k0 1
  have e0_2 := cel6_2 k0
  have f0_2 := Cel.frozen k0 2
  have e0_3 := cel6_3 k0
  have f0_3 := Cel.frozen k0 3
  have e0_4 := cel6_4 k0
  have f0_4 := Cel.frozen k0 4
  have e0_5 := cel6_5 k0
  have f0_5 := Cel.frozen k0 5
  refine WA.call 8 rfl (fun K hK => ?_)
  simp only [List.getElem_toArray, List.getElem_cons_succ, List.getElem_cons_zero]
  go_simp
  try go_wp2_with fail
  clear e0_0 f0_0 e0_1 f0_1 e0_2 f0_2 e0_3 f0_3 e0_4 f0_4 e0_5 f0_5
  refine hK.out _ _ (bset (bset (bset (bset (bset (bset bc h0 0 (.bool m1)) h0 1 (.slice a1 l1 c1)) h0 2 (.bool m2)) h0 3 (.slice a2 l2 c2)) h0 4 (.bool false)) h0 5 (.slice a3 l3 c3)) (fun hS => ?_)
  clear hK K
  replace sv1 := sv1.set6 k0 (.bool m1) (.slice a1 l1 c1) (.bool m2) (.slice a2 l2 c2) (.bool false) (.slice a3 l3 c3)
  replace sv4 := sv4.set6 k0 (.bool m1) (.slice a1 l1 c1) (.bool m2) (.slice a2 l2 c2) (.bool false) (.slice a3 l3 c3)
  replace k0 := (Cel.set (Cel.set (Cel.set (Cel.set (Cel.set (Cel.set k0 0 (.bool m1)) 1 (.slice a1 l1 c1)) 2 (.bool m2)) 3 (.slice a2 l2 c2)) 4 (.bool false)) 5 (.slice a3 l3 c3))
  replace k1 := (Cel.other (Cel.other (Cel.other (Cel.other (Cel.other (Cel.other k1 (fun e => n01 e.symm) 0 (.bool m1)) (fun e => n01 e.symm) 1 (.slice a1 l1 c1)) (fun e => n01 e.symm) 2 (.bool m2)) (fun e => n01 e.symm) 3 (.slice a2 l2 c2)) (fun e => n01 e.symm) 4 (.bool false)) (fun e => n01 e.symm) 5 (.slice a3 l3 c3))
  replace bc := (bset (bset (bset (bset (bset (bset bc h0 0 (.bool m1)) h0 1 (.slice a1 l1 c1)) h0 2 (.bool m2)) h0 3 (.slice a2 l2 c2)) h0 4 (.bool false)) h0 5 (.slice a3 l3 c3))
  have e1_0 := cel6_0 k1
  have f1_0 := Cel.frozen k1 0
  have e1_1 := cel6_1 k1
  have f1_1 := Cel.frozen k1 1
  have e1_2 := cel6_2 k1
  have f1_2 := Cel.frozen k1 2
  have e1_3 := cel6_3 k1
  have f1_3 := Cel.frozen k1 3
  have e1_4 := cel6_4 k1
  have f1_4 := Cel.frozen k1 4
  have e1_5 := cel6_5 k1
  have f1_5 := Cel.frozen k1 5
  refine WA.call 9 rfl (fun K hK => ?_)
  simp only [List.getElem_toArray, List.getElem_cons_succ, List.getElem_cons_zero]
  go_simp
  try go_wp2_with fail
  clear e1_0 f1_0 e1_1 f1_1 e1_2 f1_2 e1_3 f1_3 e1_4 f1_4 e1_5 f1_5
  refine hK.out _ _ (bset (bset (bset (bset (bset (bset bc h1 0 (.bool m4)) h1 1 (.slice a4 l4 c4)) h1 2 (.bool m5)) h1 3 (.slice a5 l5 c5)) h1 4 (.bool false)) h1 5 (.slice a6 l6 c6)) (fun hS => ?_)
  clear hK K
  replace sv1 := sv1.set6 k1 (.bool m4) (.slice a4 l4 c4) (.bool m5) (.slice a5 l5 c5) (.bool false) (.slice a6 l6 c6)
  replace sv4 := sv4.set6 k1 (.bool m4) (.slice a4 l4 c4) (.bool m5) (.slice a5 l5 c5) (.bool false) (.slice a6 l6 c6)
  replace k0 := (Cel.other (Cel.other (Cel.other (Cel.other (Cel.other (Cel.other k0 n01 0 (.bool m4)) n01 1 (.slice a4 l4 c4)) n01 2 (.bool m5)) n01 3 (.slice a5 l5 c5)) n01 4 (.bool false)) n01 5 (.slice a6 l6 c6))
  replace k1 := (Cel.set (Cel.set (Cel.set (Cel.set (Cel.set (Cel.set k1 0 (.bool m4)) 1 (.slice a4 l4 c4)) 2 (.bool m5)) 3 (.slice a5 l5 c5)) 4 (.bool false)) 5 (.slice a6 l6 c6))
  replace bc := (bset (bset (bset (bset (bset (bset bc h1 0 (.bool m4)) h1 1 (.slice a4 l4 c4)) h1 2 (.bool m5)) h1 3 (.slice a5 l5 c5)) h1 4 (.bool false)) h1 5 (.slice a6 l6 c6))
  refine WA.done (by kernel_rfl) ?_
  go_wp2_with fail
  go_meet
  exact ⟨_, _, m1, a1, l1, c1, m2, a2, l2, c2, a3, l3, c3, X1, Y1, U1, m4, a4, l4, c4, m5, a5, l5, c5, a6, l6, c6, X4, Y4, U4, rfl, rfl, h0, h1, k0, k1, sv1, sv4, bc⟩
 case rest =>
 obtain ⟨gu, gv, m1, a1, l1, c1, m2, a2, l2, c2, a3, l3, c3, X1, Y1, U1, m4, a4, l4, c4, m5, a5, l5, c5, a6, l6, c6, X4, Y4, U4, rfl, rfl, lu, lv, ku, kv, sv1, sv4, b1⟩ := hcut
 clear mk
 have sz := b1.size
 replace ka := ka.below b1
 replace kb := kb.below b1
 replace kc := kc.below b1
 replace kr := kr.below b1
 replace bb := Below.after bb b1
 clear b1
 have tu := ku.lt
 have tv := kv.lt
 obtain ⟨cu_0, cu_1, cu_2, cu_3, cu_4, cu_5⟩ := xk6 ku
 obtain ⟨cv_6, cv_7, cv_8, cv_9, cv_10, cv_11⟩ := xk6 kv
 go_wp2_with fail
 clear cu_0 cu_1 cu_2 cu_3 cu_4 cu_5 cv_6 cv_7 cv_8 cv_9 cv_10 cv_11
 go_fit (scross_any _ _ _ _ _ _ _ _ _ _ _ _ _ _ _ _ _ _ _ _ _ _ _ _ X1 Y1 X4 Y4 53 _ (by omega) sv1.1 sv1.2.1 sv4.1 sv4.2.1)
 rintro e w2 ⟨m7, v7, rfl, nv7, b1⟩
 obtain ⟨a7, l7, c7, rfl⟩ := nv7.slice
 replace ka := ka.below b1
 replace kb := kb.below b1
 replace kc := kc.below b1
 replace kr := kr.below b1
 replace ku := ku.below b1
 replace kv := kv.below b1
 replace sv1 := sv1.below b1
 replace sv4 := sv4.below b1
 replace bb := Below.after bb b1
 clear b1
 go_wp2_with fail
 go_fit (nsign_any _ _ (X1 * Y4 - Y1 * X4) (53 + 53 + 1) _ (nv7.below (bel_al _ _)))
 rintro e w3 ⟨rfl, b1⟩
 obtain ⟨kt, b1⟩ := al1 b1
 replace ka := ka.below b1
 replace kb := kb.below b1
 replace kc := kc.below b1
 replace kr := kr.below b1
 replace ku := ku.below b1
 replace kv := kv.below b1
 replace sv1 := sv1.below b1
 replace sv4 := sv4.below b1
 replace nv7 := nv7.below b1
 replace bb := Below.after bb b1
 clear b1
 rw [Gm.cross_sign sv1.2.2.2 sv4.2.2.2]
 rw [h0]
 have cr_0 := cel6_0 kr
 have fr_1 := Cel.frozen kr 0
 have cr_2 := cel6_1 kr
 have fr_3 := Cel.frozen kr 1
 have cr_4 := cel6_2 kr
 have fr_5 := Cel.frozen kr 2
 have cr_6 := cel6_3 kr
 have fr_7 := Cel.frozen kr 3
 have cr_8 := cel6_4 kr
 have fr_9 := Cel.frozen kr 4
 have cr_10 := cel6_5 kr
 have fr_11 := Cel.frozen kr 5
 go_wp2
 exact post_s1 (p := 6) (u := 7) (v := .bool false) (by kernel_rfl) rfl rfl rfl (kr.set6 _ _ _ _ _ _) ⟨rfl, bset6 bb (by omega) _ _ _ _ _ _⟩
end Go.Proofs.YtiiigiggcbbgjaaGreatDoor
