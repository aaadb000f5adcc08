/-
  gussetlaw06: at, short, small.
  gussetref04: Plus, Minus, Dot, Cross, Norm2, walked.
  Package span: a number in its one form.
  gussetlaw04: VecScales, of any point and number.
  Package span: how three points turn.
  Package span: a number divided by others.
  The way to a centre: mathematics, and cells that are set.
  Package span: a number over two others.
  Points compared.
  Package span: the size of a number; no way to a centre.
  Package geom, walked.
  Package cons: Centre, walked.
  gussetref05: Orient, Disc, Circle of rational numbers.
  gussetlaw06: ConsParts holds.
-/
import Derived.Test.YtmojdkjpcjfkeaaGreatDoorN41
import Derived.Test.YtmojdkjpcjfkeaaGreatDoorN42
set_option maxRecDepth 100000
set_option maxHeartbeats 16000000
namespace Go.Proofs.YtmojdkjpcjfkeaaGreatDoor
open Go.RowKit
theorem lat6_any (x y : Int) (h1 : -1000 ≤ x) (h2 : x ≤ 1000) (h3 : -1000 ≤ y) (h4 : y ≤ 1000) (w : World) :
  Calls Tryz.prog 54 #[.int .i64 x, .int .i64 y] w (Re w (.agg #[.bool (nfZ x), .string (sfZ x), .string ⟨#[1]⟩, .bool (nfZ y), .string (sfZ y), .string ⟨#[1]⟩])) := by
 have H1 := shut (fun w => roq_any x h1 h2 w)
 have H2 := shut (fun w => roq_any y h3 h4 w)
 clear h1 h2 h3 h4
 go_enter Tryz.func54, Tryz.ntmps54
 go_wp2_with fail
 go_fit (H1.out _)
 rintro e w1 ⟨rfl, b1⟩
 obtain ⟨kr, bb⟩ := al1 b1
 clear b1
 go_wp2_with fail
 go_fit (H2.out _)
 rintro e w2 ⟨rfl, b1⟩
 replace kr := kr.below b1
 replace bb := Below.after bb b1
 clear b1
 have f0 := Cel.frozen kr 0
 have f1 := Cel.frozen kr 1
 have f2 := Cel.frozen kr 2
 have f3 := Cel.frozen kr 3
 have f4 := Cel.frozen kr 4
 have f5 := Cel.frozen kr 5
 obtain ⟨r0, r1, r2, r3, r4, r5⟩ := xk6 kr
 go_wp2
 exact post_p (p := 4) (by kernel_rfl) rfl rfl (kr.set6 _ _ _ _ _ _) ⟨rfl, bset6 bb (Nat.le_refl _) _ _ _ _ _ _⟩
def sh6 (s d : ByteArray) : Bool := decide (s.size ≤ 60 ∧ d.size ≤ 60)
theorem short6_any (n : Bool) (s d : ByteArray) (w : World) :
  Calls Tryz.prog 34 #[.agg #[.bool n, .string s, .string d]] w (Re w (.bool (sh6 s d))) := by
 by_cases hs : s.size ≤ 60
 ·by_cases hd : d.size ≤ 60
  ·have e : Hid (sh6 s d = true) := decide_eq_true ⟨hs, hd⟩
   have i1 : (s.size : Int) ≤ 60 := by omega
   have i2 : (d.size : Int) ≤ 60 := by omega
   go_enter Tryz.func34, Tryz.ntmps34
   go_wp2
   go_ret
   exact ⟨by rw [e.out]; rfl, bel_al _ _⟩
  ·have e : Hid (sh6 s d = false) := decide_eq_false fun h => hd h.2
   have i1 : (s.size : Int) ≤ 60 := by omega
   have i2 : ¬ (d.size : Int) ≤ 60 := by omega
   go_enter Tryz.func34, Tryz.ntmps34
   go_wp2
   go_ret
   exact ⟨by rw [e.out]; rfl, bel_al _ _⟩
 ·have e : Hid (sh6 s d = false) := decide_eq_false fun h => hs h.1
  have i1 : ¬ (s.size : Int) ≤ 60 := by omega
  go_enter Tryz.func34, Tryz.ntmps34
  go_wp2
  go_ret
  exact ⟨by rw [e.out]; rfl, bel_al _ _⟩
theorem c18 {w : World} {g : Nat} {t : TypeId} {x0 x1 x2 x3 x4 x5 x6 x7 x8 x9 x10 x11 x12 x13 x14 x15 x16 x17 : Value} (h : Cel w g [x0, x1, x2, x3, x4, x5, x6, x7, x8, x9, x10, x11, x12, x13, x14, x15, x16, x17] t) : w.cell? ⟨g, 0, none⟩ = some x0 ∧ w.cell? ⟨g, 1, none⟩ = some x1 ∧ w.cell? ⟨g, 2, none⟩ = some x2 ∧ w.cell? ⟨g, 3, none⟩ = some x3 ∧ w.cell? ⟨g, 4, none⟩ = some x4 ∧ w.cell? ⟨g, 5, none⟩ = some x5 ∧ w.cell? ⟨g, 6, none⟩ = some x6 ∧ w.cell? ⟨g, 7, none⟩ = some x7 ∧ w.cell? ⟨g, 8, none⟩ = some x8 ∧ w.cell? ⟨g, 9, none⟩ = some x9 ∧ w.cell? ⟨g, 10, none⟩ = some x10 ∧ w.cell? ⟨g, 11, none⟩ = some x11 ∧ w.cell? ⟨g, 12, none⟩ = some x12 ∧ w.cell? ⟨g, 13, none⟩ = some x13 ∧ w.cell? ⟨g, 14, none⟩ = some x14 ∧ w.cell? ⟨g, 15, none⟩ = some x15 ∧ w.cell? ⟨g, 16, none⟩ = some x16 ∧ w.cell? ⟨g, 17, none⟩ = some x17 :=
 ⟨h.cell 0, h.cell 1, h.cell 2, h.cell 3, h.cell 4, h.cell 5, h.cell 6, h.cell 7, h.cell 8, h.cell 9, h.cell 10, h.cell 11, h.cell 12, h.cell 13, h.cell 14, h.cell 15, h.cell 16, h.cell 17⟩
theorem small6_walk (n0 n1 n2 n3 n4 n5 : Bool) (s0 d0 s1 d1 s2 d2 s3 d3 s4 d4 s5 d5 : ByteArray) (B0 B1 B2 B3 B4 B5 : Bool) (w : World)
  (H0 : Hid (∀ w1, Calls Tryz.prog 34 #[.agg #[.bool n0, .string s0, .string d0]] w1 (Re w1 (.bool B0))))
  (H1 : Hid (∀ w1, Calls Tryz.prog 34 #[.agg #[.bool n1, .string s1, .string d1]] w1 (Re w1 (.bool B1))))
  (H2 : Hid (∀ w1, Calls Tryz.prog 34 #[.agg #[.bool n2, .string s2, .string d2]] w1 (Re w1 (.bool B2))))
  (H3 : Hid (∀ w1, Calls Tryz.prog 34 #[.agg #[.bool n3, .string s3, .string d3]] w1 (Re w1 (.bool B3))))
  (H4 : Hid (∀ w1, Calls Tryz.prog 34 #[.agg #[.bool n4, .string s4, .string d4]] w1 (Re w1 (.bool B4))))
  (H5 : Hid (∀ w1, Calls Tryz.prog 34 #[.agg #[.bool n5, .string s5, .string d5]] w1 (Re w1 (.bool B5)))) :
  Calls Tryz.prog 16 #[.agg #[.bool n0, .string s0, .string d0, .bool n1, .string s1, .string d1, .bool n2, .string s2, .string d2, .bool n3, .string s3, .string d3, .bool n4, .string s4, .string d4, .bool n5, .string s5, .string d5]] w (Re w (.bool (B0 && (B1 && (B2 && (B3 && (B4 && B5))))))) := by
 go_enter Tryz.func16, Tryz.ntmps16
 go_wp2_with fail
 go_fit (H0.out _)
 rintro e w0 ⟨rfl, b1⟩
 obtain ⟨k, bb⟩ := al1 b1
 clear b1
 cases B0 with
 | false =>
  go_wp2
  go_ret
  exact ⟨by simp only [Bool.false_and]; rfl, bb⟩
 | true =>
 obtain ⟨c0, c1, c2, c3, c4, c5, c6, c7, c8, c9, c10, c11, c12, c13, c14, c15, c16, c17⟩ := c18 k
 go_wp2_with fail
 go_fit (H1.out _)
 rintro e w1 ⟨rfl, b1⟩
 replace k := k.below b1
 replace bb := Below.after bb b1
 clear b1
 clear c0 c1 c2 c3 c4 c5 c6 c7 c8 c9 c10 c11 c12 c13 c14 c15 c16 c17
 cases B1 with
 | false =>
  go_wp2
  go_ret
  exact ⟨by simp only [Bool.true_and, Bool.false_and]; rfl, bb⟩
 | true =>
 obtain ⟨c0, c1, c2, c3, c4, c5, c6, c7, c8, c9, c10, c11, c12, c13, c14, c15, c16, c17⟩ := c18 k
 go_wp2_with fail
 go_fit (H2.out _)
 rintro e w2 ⟨rfl, b1⟩
 replace k := k.below b1
 replace bb := Below.after bb b1
 clear b1
 clear c0 c1 c2 c3 c4 c5 c6 c7 c8 c9 c10 c11 c12 c13 c14 c15 c16 c17
 cases B2 with
 | false =>
  go_wp2
  go_ret
  exact ⟨by simp only [Bool.true_and, Bool.false_and]; rfl, bb⟩
 | true =>
 obtain ⟨c0, c1, c2, c3, c4, c5, c6, c7, c8, c9, c10, c11, c12, c13, c14, c15, c16, c17⟩ := c18 k
 go_wp2_with fail
 go_fit (H3.out _)
 rintro e w3 ⟨rfl, b1⟩
 replace k := k.below b1
 replace bb := Below.after bb b1
 clear b1
 clear c0 c1 c2 c3 c4 c5 c6 c7 c8 c9 c10 c11 c12 c13 c14 c15 c16 c17
 cases B3 with
 | false =>
  go_wp2
  go_ret
  exact ⟨by simp only [Bool.true_and, Bool.false_and]; rfl, bb⟩
 | true =>
 obtain ⟨c0, c1, c2, c3, c4, c5, c6, c7, c8, c9, c10, c11, c12, c13, c14, c15, c16, c17⟩ := c18 k
 go_wp2_with fail
 go_fit (H4.out _)
 rintro e w4 ⟨rfl, b1⟩
 replace k := k.below b1
 replace bb := Below.after bb b1
 clear b1
 clear c0 c1 c2 c3 c4 c5 c6 c7 c8 c9 c10 c11 c12 c13 c14 c15 c16 c17
 cases B4 with
 | false =>
  go_wp2
  go_ret
  exact ⟨by simp only [Bool.true_and, Bool.false_and]; rfl, bb⟩
 | true =>
 obtain ⟨c0, c1, c2, c3, c4, c5, c6, c7, c8, c9, c10, c11, c12, c13, c14, c15, c16, c17⟩ := c18 k
 go_wp2_with fail
 go_fit (H5.out _)
 rintro e w5 ⟨rfl, b1⟩
 replace k := k.below b1
 replace bb := Below.after bb b1
 clear b1
 clear c0 c1 c2 c3 c4 c5 c6 c7 c8 c9 c10 c11 c12 c13 c14 c15 c16 c17
 go_wp2
 go_ret
 exact ⟨by simp only [Bool.true_and]; rfl, bb⟩
theorem small6_any (n0 n1 n2 n3 n4 n5 : Bool) (s0 d0 s1 d1 s2 d2 s3 d3 s4 d4 s5 d5 : ByteArray) (w : World) :
  Calls Tryz.prog 16 #[.agg #[.bool n0, .string s0, .string d0, .bool n1, .string s1, .string d1, .bool n2, .string s2, .string d2, .bool n3, .string s3, .string d3, .bool n4, .string s4, .string d4, .bool n5, .string s5, .string d5]] w (Re w (.bool (sh6 s0 d0 && (sh6 s1 d1 && (sh6 s2 d2 && (sh6 s3 d3 && (sh6 s4 d4 && sh6 s5 d5))))))) :=
 small6_walk n0 n1 n2 n3 n4 n5 s0 d0 s1 d1 s2 d2 s3 d3 s4 d4 s5 d5 _ _ _ _ _ _ w (fun w1 => short6_any n0 s0 d0 w1) (fun w1 => short6_any n1 s1 d1 w1) (fun w1 => short6_any n2 s2 d2 w1) (fun w1 => short6_any n3 s3 d3 w1) (fun w1 => short6_any n4 s4 d4 w1) (fun w1 => short6_any n5 s5 d5 w1)
end Go.Proofs.YtmojdkjpcjfkeaaGreatDoor
namespace Go.Proofs.YtmojdkjpcjfkeaaGreatDoor
open Go.RowKit Go.Shelf
theorem rplus4_walk (n0 n1 n2 n3 xN yN : Bool) (s0 d0 s1 d1 s2 d2 s3 d3 xS xD yS yD : ByteArray) (w : World)
  (H1 : Hid (∀ w1, Calls Tryz.prog 35 #[.agg #[.bool n0, .string s0, .string d0], .agg #[.bool n2, .string s2, .string d2]] w1 (Re w1 (.agg #[.bool xN, .string xS, .string xD]))))
  (H2 : Hid (∀ w1, Calls Tryz.prog 35 #[.agg #[.bool n1, .string s1, .string d1], .agg #[.bool n3, .string s3, .string d3]] w1 (Re w1 (.agg #[.bool yN, .string yS, .string yD])))) :
  Calls Tryz.prog 28 #[.agg #[.bool n0, .string s0, .string d0, .bool n1, .string s1, .string d1], .agg #[.bool n2, .string s2, .string d2, .bool n3, .string s3, .string d3]] w (Re w (.agg #[.bool xN, .string xS, .string xD, .bool yN, .string yS, .string yD])) := by
 go_enter Tryz.func28, Tryz.ntmps28
 go_wp2_with fail
 obtain ⟨w1, hw, ka, kb, kr, b1⟩ := mk3 w [.bool n0, .string s0, .string d0, .bool n1, .string s1, .string d1] [.bool n2, .string s2, .string d2, .bool n3, .string s3, .string d3] [.bool false, .string { data := #[] }, .string { data := #[] }, .bool false, .string { data := #[] }, .string { data := #[] }] 28 28 28
 rw [← hw]
 clear hw
 have sz := b1.size
 have ta := ka.lt
 have tb := kb.lt
 have tr := kr.lt
 have bb := b1
 clear b1
 have qa : w.heap.size ≠ w.heap.size + 1 + 1 := by omega
 have qb : w.heap.size + 1 ≠ w.heap.size + 1 + 1 := by omega
 have mkS : Hid (∀ w', Cel w' (w.heap.size) [.bool n0, .string s0, .string d0, .bool n1, .string s1, .string d1] 28 → Cel w' (w.heap.size + 1) [.bool n2, .string s2, .string d2, .bool n3, .string s3, .string d3] 28 → (xc6 w' w.heap.size (.bool n0) (.string s0) (.string d0) (.bool n1) (.string s1) (.string d1) ∧ xc6 w' (w.heap.size + 1) (.bool n2) (.string s2) (.string d2) (.bool n3) (.string s3) (.string d3))) := fun w' ha hb => ⟨xk6 ha, xk6 hb⟩
 go_region_held3 (fun w' => xc6 w' w.heap.size (.bool n0) (.string s0) (.string d0) (.bool n1) (.string s1) (.string d1) ∧ xc6 w' (w.heap.size + 1) (.bool n2) (.string s2) (.string d2) (.bool n3) (.string s3) (.string d3)) (first | with_reducible exact mkS.out _ ka kb | with_reducible exact mkS.out _ (ka.alloc _) (kb.alloc _) | with_reducible exact mkS.out _ (Cel.other (Cel.other (Cel.other (Cel.other (Cel.other (Cel.other ka qa 0 _) qa 1 _) qa 2 _) qa 3 _) qa 4 _) qa 5 _) (Cel.other (Cel.other (Cel.other (Cel.other (Cel.other (Cel.other kb qb 0 _) qb 1 _) qb 2 _) qb 3 _) qb 4 _) qb 5 _) | exact mkS.out _ ka kb) (first | (go_at_call 35; go_fit (H1.out _); rintro e wn ⟨rfl, bn⟩; replace ka := ka.below (un bn); replace kb := kb.below (un bn); replace kr := kr.below (un bn); replace bb := Below.after bb (un bn)) | (go_at_call 35; go_fit (H2.out _); rintro e wn ⟨rfl, bn⟩; replace ka := ka.below (un bn); replace kb := kb.below (un bn); replace kr := kr.below (un bn); replace bb := Below.after bb (un bn); have e0 := cel6_0 kr; have f0 := Cel.frozen kr 0; have e1 := cel6_1 kr; have f1 := Cel.frozen kr 1; have e2 := cel6_2 kr; have f2 := Cel.frozen kr 2; have e3 := cel6_3 kr; have f3 := Cel.frozen kr 3; have e4 := cel6_4 kr; have f4 := Cel.frozen kr 4; have e5 := cel6_5 kr; have f5 := Cel.frozen kr 5))
 go_wp2
 exact post_p (p := 4) (by kernel_rfl) rfl rfl (kr.set6 _ _ _ _ _ _) ⟨rfl, bset6 bb (by omega) _ _ _ _ _ _⟩
theorem rminus4_walk (n0 n1 n2 n3 xN yN : Bool) (s0 d0 s1 d1 s2 d2 s3 d3 xS xD yS yD : ByteArray) (w : World)
  (H1 : Hid (∀ w1, Calls Tryz.prog 74 #[.agg #[.bool n0, .string s0, .string d0], .agg #[.bool n2, .string s2, .string d2]] w1 (Re w1 (.agg #[.bool xN, .string xS, .string xD]))))
  (H2 : Hid (∀ w1, Calls Tryz.prog 74 #[.agg #[.bool n1, .string s1, .string d1], .agg #[.bool n3, .string s3, .string d3]] w1 (Re w1 (.agg #[.bool yN, .string yS, .string yD])))) :
  Calls Tryz.prog 30 #[.agg #[.bool n0, .string s0, .string d0, .bool n1, .string s1, .string d1], .agg #[.bool n2, .string s2, .string d2, .bool n3, .string s3, .string d3]] w (Re w (.agg #[.bool xN, .string xS, .string xD, .bool yN, .string yS, .string yD])) := by
 go_enter Tryz.func30, Tryz.ntmps30
 go_wp2_with fail
 obtain ⟨w1, hw, ka, kb, kr, b1⟩ := mk3 w [.bool n0, .string s0, .string d0, .bool n1, .string s1, .string d1] [.bool n2, .string s2, .string d2, .bool n3, .string s3, .string d3] [.bool false, .string { data := #[] }, .string { data := #[] }, .bool false, .string { data := #[] }, .string { data := #[] }] 28 28 28
 rw [← hw]
 clear hw
 have sz := b1.size
 have ta := ka.lt
 have tb := kb.lt
 have tr := kr.lt
 have bb := b1
 clear b1
 have qa : w.heap.size ≠ w.heap.size + 1 + 1 := by omega
 have qb : w.heap.size + 1 ≠ w.heap.size + 1 + 1 := by omega
 have mkS : Hid (∀ w', Cel w' (w.heap.size) [.bool n0, .string s0, .string d0, .bool n1, .string s1, .string d1] 28 → Cel w' (w.heap.size + 1) [.bool n2, .string s2, .string d2, .bool n3, .string s3, .string d3] 28 → (xc6 w' w.heap.size (.bool n0) (.string s0) (.string d0) (.bool n1) (.string s1) (.string d1) ∧ xc6 w' (w.heap.size + 1) (.bool n2) (.string s2) (.string d2) (.bool n3) (.string s3) (.string d3))) := fun w' ha hb => ⟨xk6 ha, xk6 hb⟩
 go_region_held3 (fun w' => xc6 w' w.heap.size (.bool n0) (.string s0) (.string d0) (.bool n1) (.string s1) (.string d1) ∧ xc6 w' (w.heap.size + 1) (.bool n2) (.string s2) (.string d2) (.bool n3) (.string s3) (.string d3)) (first | with_reducible exact mkS.out _ ka kb | with_reducible exact mkS.out _ (ka.alloc _) (kb.alloc _) | with_reducible exact mkS.out _ (Cel.other (Cel.other (Cel.other (Cel.other (Cel.other (Cel.other ka qa 0 _) qa 1 _) qa 2 _) qa 3 _) qa 4 _) qa 5 _) (Cel.other (Cel.other (Cel.other (Cel.other (Cel.other (Cel.other kb qb 0 _) qb 1 _) qb 2 _) qb 3 _) qb 4 _) qb 5 _) | exact mkS.out _ ka kb) (first | (go_at_call 74; go_fit (H1.out _); rintro e wn ⟨rfl, bn⟩; replace ka := ka.below (un bn); replace kb := kb.below (un bn); replace kr := kr.below (un bn); replace bb := Below.after bb (un bn)) | (go_at_call 74; go_fit (H2.out _); rintro e wn ⟨rfl, bn⟩; replace ka := ka.below (un bn); replace kb := kb.below (un bn); replace kr := kr.below (un bn); replace bb := Below.after bb (un bn); have e0 := cel6_0 kr; have f0 := Cel.frozen kr 0; have e1 := cel6_1 kr; have f1 := Cel.frozen kr 1; have e2 := cel6_2 kr; have f2 := Cel.frozen kr 2; have e3 := cel6_3 kr; have f3 := Cel.frozen kr 3; have e4 := cel6_4 kr; have f4 := Cel.frozen kr 4; have e5 := cel6_5 kr; have f5 := Cel.frozen kr 5))
 go_wp2
 exact post_p (p := 4) (by kernel_rfl) rfl rfl (kr.set6 _ _ _ _ _ _) ⟨rfl, bset6 bb (by omega) _ _ _ _ _ _⟩
theorem rdot4_walk (n0 n1 n2 n3 xN yN rN : Bool) (s0 d0 s1 d1 s2 d2 s3 d3 xS xD yS yD rS rD : ByteArray) (w : World)
  (H1 : Hid (∀ w1, Calls Tryz.prog 70 #[.agg #[.bool n0, .string s0, .string d0], .agg #[.bool n2, .string s2, .string d2]] w1 (Re w1 (.agg #[.bool xN, .string xS, .string xD]))))
  (H2 : Hid (∀ w1, Calls Tryz.prog 70 #[.agg #[.bool n1, .string s1, .string d1], .agg #[.bool n3, .string s3, .string d3]] w1 (Re w1 (.agg #[.bool yN, .string yS, .string yD]))))
  (H3 : Hid (∀ w1, Calls Tryz.prog 35 #[.agg #[.bool xN, .string xS, .string xD], .agg #[.bool yN, .string yS, .string yD]] w1 (Re w1 (.agg #[.bool rN, .string rS, .string rD])))) :
  Calls Tryz.prog 66 #[.agg #[.bool n0, .string s0, .string d0, .bool n1, .string s1, .string d1], .agg #[.bool n2, .string s2, .string d2, .bool n3, .string s3, .string d3]] w (Re w (.agg #[.bool rN, .string rS, .string rD])) := by
 go_enter Tryz.func66, Tryz.ntmps66
 go_wp2_with fail
 obtain ⟨w1, hw, ka, kb, kr, b1⟩ := mk3 w [.bool n0, .string s0, .string d0, .bool n1, .string s1, .string d1] [.bool n2, .string s2, .string d2, .bool n3, .string s3, .string d3] [.bool false, .string { data := #[] }, .string { data := #[] }] 28 28 26
 rw [← hw]
 clear hw
 have sz := b1.size
 have ta := ka.lt
 have tb := kb.lt
 have tr := kr.lt
 have bb := b1
 clear b1
 have qa : w.heap.size ≠ w.heap.size + 1 + 1 := by omega
 have qb : w.heap.size + 1 ≠ w.heap.size + 1 + 1 := by omega
 have mkS : Hid (∀ w', Cel w' (w.heap.size) [.bool n0, .string s0, .string d0, .bool n1, .string s1, .string d1] 28 → Cel w' (w.heap.size + 1) [.bool n2, .string s2, .string d2, .bool n3, .string s3, .string d3] 28 → (xc6 w' w.heap.size (.bool n0) (.string s0) (.string d0) (.bool n1) (.string s1) (.string d1) ∧ xc6 w' (w.heap.size + 1) (.bool n2) (.string s2) (.string d2) (.bool n3) (.string s3) (.string d3))) := fun w' ha hb => ⟨xk6 ha, xk6 hb⟩
 go_region_held3 (fun w' => xc6 w' w.heap.size (.bool n0) (.string s0) (.string d0) (.bool n1) (.string s1) (.string d1) ∧ xc6 w' (w.heap.size + 1) (.bool n2) (.string s2) (.string d2) (.bool n3) (.string s3) (.string d3)) (first | with_reducible exact mkS.out _ ka kb | with_reducible exact mkS.out _ (ka.alloc _) (kb.alloc _) | with_reducible exact mkS.out _ (Cel.other (Cel.other (Cel.other ka qa 0 _) qa 1 _) qa 2 _) (Cel.other (Cel.other (Cel.other kb qb 0 _) qb 1 _) qb 2 _) | exact mkS.out _ ka kb) (first | (go_at_call 70; go_fit (H1.out _); rintro e wn ⟨rfl, bn⟩; replace ka := ka.below (un bn); replace kb := kb.below (un bn); replace kr := kr.below (un bn); replace bb := Below.after bb (un bn)) | (go_at_call 70; go_fit (H2.out _); rintro e wn ⟨rfl, bn⟩; replace ka := ka.below (un bn); replace kb := kb.below (un bn); replace kr := kr.below (un bn); replace bb := Below.after bb (un bn)) | (go_at_call 35; go_fit (H3.out _); rintro e wn ⟨rfl, bn⟩; replace ka := ka.below (un bn); replace kb := kb.below (un bn); replace kr := kr.below (un bn); replace bb := Below.after bb (un bn); have e0 := cel3_0 kr; have f0 := Cel.frozen kr 0; have e1 := cel3_1 kr; have f1 := Cel.frozen kr 1; have e2 := cel3_2 kr; have f2 := Cel.frozen kr 2))
 go_wp2
 exact post_q (p := 4) (by kernel_rfl) rfl rfl (((kr.set 0 _).set 1 _).set 2 _) ⟨rfl, bset (bset (bset bb (by omega) 0 _) (by omega) 1 _) (by omega) 2 _⟩
theorem rcross4_walk (n0 n1 n2 n3 xN yN rN : Bool) (s0 d0 s1 d1 s2 d2 s3 d3 xS xD yS yD rS rD : ByteArray) (w : World)
  (H1 : Hid (∀ w1, Calls Tryz.prog 70 #[.agg #[.bool n0, .string s0, .string d0], .agg #[.bool n3, .string s3, .string d3]] w1 (Re w1 (.agg #[.bool xN, .string xS, .string xD]))))
  (H2 : Hid (∀ w1, Calls Tryz.prog 70 #[.agg #[.bool n1, .string s1, .string d1], .agg #[.bool n2, .string s2, .string d2]] w1 (Re w1 (.agg #[.bool yN, .string yS, .string yD]))))
  (H3 : Hid (∀ w1, Calls Tryz.prog 74 #[.agg #[.bool xN, .string xS, .string xD], .agg #[.bool yN, .string yS, .string yD]] w1 (Re w1 (.agg #[.bool rN, .string rS, .string rD])))) :
  Calls Tryz.prog 49 #[.agg #[.bool n0, .string s0, .string d0, .bool n1, .string s1, .string d1], .agg #[.bool n2, .string s2, .string d2, .bool n3, .string s3, .string d3]] w (Re w (.agg #[.bool rN, .string rS, .string rD])) := by
 go_enter Tryz.func49, Tryz.ntmps49
 go_wp2_with fail
 obtain ⟨w1, hw, ka, kb, kr, b1⟩ := mk3 w [.bool n0, .string s0, .string d0, .bool n1, .string s1, .string d1] [.bool n2, .string s2, .string d2, .bool n3, .string s3, .string d3] [.bool false, .string { data := #[] }, .string { data := #[] }] 28 28 26
 rw [← hw]
 clear hw
 have sz := b1.size
 have ta := ka.lt
 have tb := kb.lt
 have tr := kr.lt
 have bb := b1
 clear b1
 have qa : w.heap.size ≠ w.heap.size + 1 + 1 := by omega
 have qb : w.heap.size + 1 ≠ w.heap.size + 1 + 1 := by omega
 have mkS : Hid (∀ w', Cel w' (w.heap.size) [.bool n0, .string s0, .string d0, .bool n1, .string s1, .string d1] 28 → Cel w' (w.heap.size + 1) [.bool n2, .string s2, .string d2, .bool n3, .string s3, .string d3] 28 → (xc6 w' w.heap.size (.bool n0) (.string s0) (.string d0) (.bool n1) (.string s1) (.string d1) ∧ xc6 w' (w.heap.size + 1) (.bool n2) (.string s2) (.string d2) (.bool n3) (.string s3) (.string d3))) := fun w' ha hb => ⟨xk6 ha, xk6 hb⟩
 go_region_held3 (fun w' => xc6 w' w.heap.size (.bool n0) (.string s0) (.string d0) (.bool n1) (.string s1) (.string d1) ∧ xc6 w' (w.heap.size + 1) (.bool n2) (.string s2) (.string d2) (.bool n3) (.string s3) (.string d3)) (first | with_reducible exact mkS.out _ ka kb | with_reducible exact mkS.out _ (ka.alloc _) (kb.alloc _) | with_reducible exact mkS.out _ (Cel.other (Cel.other (Cel.other ka qa 0 _) qa 1 _) qa 2 _) (Cel.other (Cel.other (Cel.other kb qb 0 _) qb 1 _) qb 2 _) | exact mkS.out _ ka kb) (first | (go_at_call 70; go_fit (H1.out _); rintro e wn ⟨rfl, bn⟩; replace ka := ka.below (un bn); replace kb := kb.below (un bn); replace kr := kr.below (un bn); replace bb := Below.after bb (un bn)) | (go_at_call 70; go_fit (H2.out _); rintro e wn ⟨rfl, bn⟩; replace ka := ka.below (un bn); replace kb := kb.below (un bn); replace kr := kr.below (un bn); replace bb := Below.after bb (un bn)) | (go_at_call 74; go_fit (H3.out _); rintro e wn ⟨rfl, bn⟩; replace ka := ka.below (un bn); replace kb := kb.below (un bn); replace kr := kr.below (un bn); replace bb := Below.after bb (un bn); have e0 := cel3_0 kr; have f0 := Cel.frozen kr 0; have e1 := cel3_1 kr; have f1 := Cel.frozen kr 1; have e2 := cel3_2 kr; have f2 := Cel.frozen kr 2))
 go_wp2
 exact post_q (p := 4) (by kernel_rfl) rfl rfl (((kr.set 0 _).set 1 _).set 2 _) ⟨rfl, bset (bset (bset bb (by omega) 0 _) (by omega) 1 _) (by omega) 2 _⟩
theorem rnorm4_walk (n0 n1 rN : Bool) (s0 d0 s1 d1 rS rD : ByteArray) (w : World)
  (H1 : Hid (∀ w1, Calls Tryz.prog 66 #[.agg #[.bool n0, .string s0, .string d0, .bool n1, .string s1, .string d1], .agg #[.bool n0, .string s0, .string d0, .bool n1, .string s1, .string d1]] w1 (Re w1 (.agg #[.bool rN, .string rS, .string rD])))) :
  Calls Tryz.prog 65 #[.agg #[.bool n0, .string s0, .string d0, .bool n1, .string s1, .string d1]] w (Re w (.agg #[.bool rN, .string rS, .string rD])) := by
 go_enter Tryz.func65, Tryz.ntmps65
 go_wp2_with fail
 go_fit (H1.out _)
 rintro e w1 ⟨rfl, b1⟩
 obtain ⟨ka, kr, b1⟩ := al2 b1
 have sz := b1.size
 have bb := b1
 clear b1
 have ta := ka.lt
 have tr := kr.lt
 have cr_0 := cel3_0 kr
 have fr_1 := Cel.frozen kr 0
 have cr_2 := cel3_1 kr
 have fr_3 := Cel.frozen kr 1
 have cr_4 := cel3_2 kr
 have fr_5 := Cel.frozen kr 2
 go_wp2
 exact post_q (p := 2) (by kernel_rfl) rfl rfl (((kr.set 0 _).set 1 _).set 2 _) ⟨rfl, bset (bset (bset bb (by omega) 0 _) (by omega) 1 _) (by omega) 2 _⟩
open Go.RowKit
theorem natAbs_sgn (n : Bool) (k : Nat) : (sgn n k).natAbs = k := by
 unfold sgn
 split <;> omega
theorem nint_any (n : Bool) (v : Value) (z : Int) (L : Nat) (w : World) (hL : L ≤ 1000) (h : NV w n v z L) :
  Calls Tryz.prog 99 #[.agg #[.bool n, v]] w (Re w (.agg #[.bool (nfZ z), .string (sfZ z)])) := by
 have H1 : Hid (∀ w1, Below w.heap.size w w1 → Calls Tryz.prog 135 #[v] w1 (Re w1 (.tuple #[.string (sfZ z), .int .i64 0]))) := fun w1 b => by
  obtain ⟨k, r, hk, rfl⟩ := h
  have := nat_any v _ w1 (r.below b) (M.Low.digs B64_two k) (nv_len hk hL)
  rw [M.val_digs B64_two] at this
  unfold sfZ
  rw [natAbs_sgn]
  exact this
 have H2 : Hid (∀ w1, Below w.heap.size w w1 → Calls Tryz.prog 59 #[.agg #[.bool n, v]] w1 (Re w1 (.int .i64 z.sign))) := fun w1 b => nsign_any n v z L w1 (h.below b)
 have hs : decide (z.sign < 0) = nfZ z := by
  unfold nfZ
  rw [decide_eq_decide]
  constructor
  ·intro k
   rcases Int.lt_trichotomy z 0 with q | q | q
   ·exact q
   ·rw [q] at k; exact absurd k (by decide)
   ·rw [Int.sign_eq_one_of_pos q] at k; exact absurd k (by decide)
  ·intro k
   rw [Int.sign_eq_neg_one_of_neg k]; decide
 obtain ⟨s, hs'⟩ : ∃ s, s = z.sign := ⟨_, rfl⟩
 rw [← hs'] at hs H2
 obtain ⟨N, hN⟩ : ∃ N, N = nfZ z := ⟨_, rfl⟩
 obtain ⟨S, hS⟩ : ∃ S, S = sfZ z := ⟨_, rfl⟩
 rw [← hN] at hs ⊢
 rw [← hS] at H1 ⊢
 obtain ⟨a, l, c, rfl⟩ := h.slice
 clear h hs' hN hS
 go_enter Tryz.func99, Tryz.ntmps99
 go_wp2_with fail
 obtain ⟨w0, hw, k0, kr, bb⟩ := mk2 w [.bool n, .slice a l c] [.bool false, .string { data := #[] }] 76 24
 rw [← hw]
 clear hw
 go_fit (H1.out _ bb)
 rintro e w1 ⟨rfl, b1⟩
 replace k0 := k0.below b1
 replace kr := kr.below b1
 replace bb := Below.after bb b1
 clear b1
 obtain ⟨c0, c1⟩ := xk2 k0
 go_wp2_with fail
 clear c0 c1
 go_fit (H2.out _ bb)
 rintro e w2 ⟨rfl, b1⟩
 replace kr := kr.below b1
 replace bb := Below.after bb b1
 clear b1
 obtain ⟨c0, c1⟩ := xk2 kr
 have f0 := kr.frozen 0
 have f1 := kr.frozen 1
 go_wp2
 exact post_z (p := 2) (by kernel_rfl) rfl rfl ((kr.set 0 _).set 1 _) ⟨rfl, bset (bset bb (by omega) 0 _) (by omega) 1 _⟩
end Go.Proofs.YtmojdkjpcjfkeaaGreatDoor
namespace Go.Proofs.YtmojdkjpcjfkeaaGreatDoor
open Go.RowKit Go.Shelf
theorem rchk4_any (n0 n1 : Bool) (s0 d0 s1 d1 : ByteArray) (w : World) (z0 : s0.size ≤ 8000) (y0 : d0.size ≤ 8000) (z1 : s1.size ≤ 8000) (y1 : d1.size ≤ 8000) :
  Calls Tryz.prog 48 #[.agg #[.bool n0, .string s0, .string d0, .bool n1, .string s1, .string d1]] w (Re w (.int .i64 (twoq n0 s0 d0 n1 s1 d1 : Nat))) :=
 rchk4_walk n0 n1 s0 d0 s1 d1 _ w (fun w1 => bothq_any n0 n1 s0 d0 s1 d1 w1 z0 y0 z1 y1)
open Go.RowKit
theorem load_s {w : World} {g : Nat} {x0 x1 x2 x3 x4 x5 : Value} (h : Cel w g [x0, x1, x2, x3, x4, x5] 78) : (loadVar 78 ⟨g, 0, none⟩).run Tryz.prog w = .ok (.agg #[x0, x1, x2, x3, x4, x5]) w :=
 run_loadVar_row w g 78 78 #[x0, x1, x2, x3, x4, x5] (0, 0) _ h Tryz.underlying78 rfl (by kernel_rfl)
open Go.RowKit
theorem cellsS0 : Value.cells (.string { data := #[] }) = #[.string { data := #[] }] := by kernel_rfl
theorem run_mkS (n : Nat) (hn : n ≤ 1000000) (w : World) :
  ∃ w', (Instr.makeSlice 112 (.int .i64 n) (.int .i64 n)).run Tryz.prog w = .ok (.slice (some ⟨w.heap.size, 0, none⟩) n n) w' ∧ Cells w' w.heap.size 22 n (fun _ => .string ⟨#[]⟩) ∧ Below w.heap.size w w' := by
 obtain ⟨i0, hi, hz0, hz1, hz2⟩ := info_parts (show (Tryz.prog.info? 22).map (fun i => (i.zero, i.size, i.bytes)) = some (some (.string ⟨#[]⟩), 1, 16) by kernel_rfl)
 have h := run_make (P := Tryz.prog) w 112 22 i0 (.string ⟨#[]⟩) Tryz.underlying112 hi hz0 .i64 .i64 n n (by omega) (by omega) (by rw [hz2]; omega) (by omega)
 rw [hz1, cellsS0, Int.toNat_natCast, Nat.mul_one] at h
 refine ⟨_, h, ⟨_, heap_alloc_new w _, size_madeCells _ _, fun i hi => ?_⟩, (Below.refl _ _).alloc (Nat.le_refl _) _⟩
 simp [madeCells, hi, Nat.mod_one]
theorem wpList_mkS {w : World} {ops : Array Oper} {rest : List Oper} {o : Oper} {a : Act} {Q : Exit → Act → World → Prop}
  (hg : o.guard = none) (l c : Operand) (hop : o.op = Op.makeSlice 112 l c) (L : Int) (n : Nat) (hl : a.eval l = .int .i64 L) (hc : a.eval c = .int .i64 L) (hL : L = (n : Int)) (hn : n ≤ 1000000)
  (hK : ∀ w1, Cells w1 w.heap.size 22 n (fun _ => .string ⟨#[]⟩) → Below w.heap.size w w1 → wpList Tryz.prog ops Q rest (a.put o.dst (.slice (some ⟨w.heap.size, 0, none⟩) n n)) w1) :
  wpList Tryz.prog ops Q (o :: rest) a w := by
 refine wpList_plain hg fun K hK' => ?_
 subst hL
 obtain ⟨w', hrun, hc', hb⟩ := run_mkS n hn w
 unfold Oper.wp
 simp [execOp, hop, hl, hc, hrun, Result.andThen]
 exact hK' _ _ (hK _ hc' hb)
def RdN (w : World) (a : Option Addr) (n : Nat) (m : Nat → Bool) (v : Nat → Value) : Prop :=
 ∀ j, j < n → ∃ b off, a = some ⟨b, off, none⟩ ∧ w.cell? ⟨b, off + j * 2, none⟩ = some (.bool (m j)) ∧ w.cell? ⟨b, off + j * 2 + 1, none⟩ = some (v j)
theorem RdN.below {w w' : World} {a : Option Addr} {n : Nat} {m : Nat → Bool} {v : Nat → Value} (h : RdN w a n m v) (hb : Below w.heap.size w w') : RdN w' a n m v := by
 intro j hj
 obtain ⟨b, off, e, h0, h1⟩ := h j hj
 exact ⟨b, off, e, cell_below h0 hb, cell_below h1 hb⟩
def fst' (Z : Nat → Int) (k i : Nat) : Value := if i < k then .string (sfZ (Z i)) else .string ⟨#[]⟩
theorem fst_up (Z : Nat → Int) (k i : Nat) : (if i = k then Value.string (sfZ (Z k)) else fst' Z k i) = fst' Z (k + 1) i := by
 unfold fst'
 by_cases h : i = k
 ·rw [if_pos h, if_pos (by omega), h]
 ·rw [if_neg h]
  by_cases h' : i < k
  ·rw [if_pos h', if_pos (by omega)]
  ·rw [if_neg h', if_neg (by omega)]
theorem over_walk (n0 : Bool) (v0 : Value) (a : Option Addr) (n cap : Nat) (m : Nat → Bool) (al : Nat → Option Addr) (ll cl : Nat → Nat) (z : Int) (Z : Nat → Int) (xN : Bool) (xS xD : ByteArray) (w : World) (hn : n ≤ 1000) (hv0 : ∃ a l c, v0 = .slice a l c)
  (h : RdN w a n m (fun j => .slice (al j) (ll j) (cl j)))
  (H1 : Hid (∀ (k : Nat) (w1 : World), k < n → Below w.heap.size w w1 → Calls Tryz.prog 99 #[.agg #[.bool (m k), .slice (al k) (ll k) (cl k)]] w1 (Re w1 (.agg #[.bool (nfZ (Z k)), .string (sfZ (Z k))]))))
  (H2 : Hid (∀ w1, Below w.heap.size w w1 → Calls Tryz.prog 99 #[.agg #[.bool n0, v0]] w1 (Re w1 (.agg #[.bool (nfZ z), .string (sfZ z)]))))
  (H3 : Hid (∀ (g : Nat) (w1 : World), Below w.heap.size w w1 → Cells w1 g 22 n (fst' Z n) → Calls Tryz.prog 104 #[.agg #[.bool (nfZ z), .string (sfZ z)], .slice (some ⟨g, 0, none⟩) n n] w1 (Re w1 (.agg #[.bool xN, .string xS, .string xD])))) :
  Calls Tryz.prog 62 #[.agg #[.bool n0, v0], .slice a n cap] w (Re w (.agg #[.bool xN, .string xS, .string xD])) := by
 obtain ⟨a0, l0, c0, rfl⟩ := hv0
 replace h := shut h
 go_enter Tryz.func62, Tryz.ntmps62
 go_wp2_with (at_make; refine wpList_mkS rfl _ _ rfl _ n rfl rfl rfl (by omega) ?_; intro w1 k1 b1)
 obtain ⟨k0, kr, bb⟩ := al2 b1
 have K1 : Hid (Cells w1 (w.heap.size + 1 + 1) 22 n (fst' Z 0)) := by
  show Cells _ _ _ _ _
  have k1' : Cells w1 (w.heap.size + 1 + 1) 22 n (fun _ => .string ⟨#[]⟩) := by simpa using k1
  refine k1'.congr fun i hi => ?_
  unfold fst'
  rw [if_neg (by omega)]
 clear k1 b1
 go_loopw [13] (fun i wr => ∃ k : Nat, k ≤ n ∧ i = .int .i64 k ∧ Cells wr (w.heap.size + 1 + 1) 22 n (fst' Z k) ∧ Cel wr w.heap.size [.bool n0, .slice a0 l0 c0] 76 ∧ Cel wr (w.heap.size + 1) [.bool false, .string { data := #[] }, .string { data := #[] }] 26 ∧ Below w.heap.size w wr) (fun i _ => n - (intOf i).toNat)
 case atStart => exact ⟨0, by omega, rfl, K1.out, k0, kr, bb⟩
 case round =>
  clear K1 k0 kr bb
  obtain ⟨k, hk, rfl, kg, k0, kr, bb⟩ := hrel
  by_cases hkn : k < n
  ·obtain ⟨b, off, rfl, h0, h1⟩ := h.out.below bb k hkn
   go_wp2_with fail
   go_fit (H1.out k _ hkn (ba bb _))
   rintro e w2 ⟨rfl, b2⟩
   obtain ⟨-, b2⟩ := al1 b2
   replace kg := kg.below b2
   replace k0 := k0.below b2
   replace kr := kr.below b2
   replace bb := Below.after bb b2
   clear b2 h0 h1
   have fl := fld1 (nfZ (Z k)) (sfZ (Z k))
   have q0 := kg.cell hkn
   have q1 := kg.frozen k
   have kg' : Hid (Cells (w2.setCell ⟨w.heap.size + 1 + 1, k, none⟩ (.string (sfZ (Z k)))) (w.heap.size + 1 + 1) 22 n (fst' Z (k + 1))) := by
    show Cells _ _ _ _ _
    exact (kg.set k (.string (sfZ (Z k)))).congr fun i hi => fst_up Z k i
   have k0' := shut (Cel.other (g' := w.heap.size + 1 + 1) k0 (by omega) k (.string (sfZ (Z k))))
   have kr' := shut (Cel.other (g' := w.heap.size + 1 + 1) kr (by omega) k (.string (sfZ (Z k))))
   have bb' := shut (bset (g := w.heap.size + 1 + 1) bb (by omega) k (.string (sfZ (Z k))))
   clear kg k0 kr bb
   go_wp2
   exact ⟨⟨k + 1, by omega, by go_num, kg'.out, k0'.out, kr'.out, bb'.out⟩, by simp [intOf]; omega⟩
  ·obtain rfl : k = n := by omega
   obtain ⟨c0, c1⟩ := xk2 k0
   go_wp2_with fail
   clear c0 c1
   go_fit (H2.out _ bb)
   rintro e w2 ⟨rfl, b2⟩
   replace kg := kg.below b2
   replace kr := kr.below b2
   replace bb := Below.after bb b2
   clear b2
   go_wp2_with fail
   go_fit (H3.out _ _ bb kg)
   rintro e w3 ⟨rfl, b2⟩
   replace kr := kr.below b2
   replace bb := Below.after bb b2
   clear b2
   have e0 := cel3_0 kr
   have f0 := kr.frozen 0
   have e1 := cel3_1 kr
   have f1 := kr.frozen 1
   have e2 := cel3_2 kr
   have f2 := kr.frozen 2
   go_wp2
   exact post_q (p := 4) (by kernel_rfl) rfl rfl (((kr.set 0 _).set 1 _).set 2 _) ⟨rfl, bset (bset (bset bb (by omega) 0 _) (by omega) 1 _) (by omega) 2 _⟩
open Go.RowKit
theorem Gm.centre_one {a b c d U V x y z s r q : Rat} (ha : a = U * x) (hb : b = U * y) (hc : c = V * z) (hd : d = V * s) (hr : ((x * s - y * z) + (x * s - y * z)) * r = 1) (hq : q = (x * x + y * y) * s - (z * z + s * s) * y) :
  (a * a + b * b) * V * d - (c * c + d * d) * U * b = ((a * d - b * c) + (a * d - b * c)) * U * V * (q * r) := by
 subst ha hb hc hd hq
 grind
theorem Gm.centre_two {a b c d U V x y z s r q : Rat} (ha : a = U * x) (hb : b = U * y) (hc : c = V * z) (hd : d = V * s) (hr : ((x * s - y * z) + (x * s - y * z)) * r = 1) (hq : q = x * (z * z + s * s) - z * (x * x + y * y)) :
  a * ((c * c + d * d) * U) - c * ((a * a + b * b) * V) = ((a * d - b * c) + (a * d - b * c)) * U * V * (q * r) := by
 subst ha hb hc hd hq
 grind
theorem Gm.centre_way {X1 Y1 U1 X4 Y4 U4 : Int} {ux uy vx vy : Rat} (h1 : Gm.Way X1 Y1 U1 ux uy) (h4 : Gm.Way X4 Y4 U4 vx vy) (hA : ux * vy - uy * vx ≠ 0) {X Y : Int}
  (h : (X = ((X1 * X1 + Y1 * Y1) * U4) * Y4 - ((X4 * X4 + Y4 * Y4) * U1) * Y1 ∧ Y = X1 * ((X4 * X4 + Y4 * Y4) * U1) - X4 * ((X1 * X1 + Y1 * Y1) * U4) ∧ 0 ≤ X1 * Y4 - Y1 * X4) ∨ (X = -(((X1 * X1 + Y1 * Y1) * U4) * Y4 - ((X4 * X4 + Y4 * Y4) * U1) * Y1) ∧ Y = -(X1 * ((X4 * X4 + Y4 * Y4) * U1) - X4 * ((X1 * X1 + Y1 * Y1) * U4)) ∧ X1 * Y4 - Y1 * X4 ≤ 0)) :
  Gm.Way X Y ((((X1 * Y4 - Y1 * X4) + (X1 * Y4 - Y1 * X4)).natAbs : Int) * U1 * U4) (((ux * ux + uy * uy) * vy - (vx * vx + vy * vy) * uy) / ((ux * vy - uy * vx) + (ux * vy - uy * vx))) ((ux * (vx * vx + vy * vy) - vx * (ux * ux + uy * uy)) / ((ux * vy - uy * vx) + (ux * vy - uy * vx))) := by
 have p1 := Gm.upos h1.1
 have p4 := Gm.upos h4.1
 have hA2 : (ux * vy - uy * vx) + (ux * vy - uy * vx) ≠ 0 := by grind
 have hr := Rat.mul_inv_cancel _ hA2
 rw [Rat.div_def, Rat.div_def]
 have hne : X1 * Y4 - Y1 * X4 ≠ 0 := by
  intro e
  have e2 : ((X1 * Y4 - Y1 * X4 : Int) : Rat) = 0 := by rw [e]; rfl
  rw [Rat.intCast_sub, Rat.intCast_mul, Rat.intCast_mul, h1.2.1, h1.2.2, h4.2.1, h4.2.2] at e2
  have e3 : (U1 : Rat) * (U4 : Rat) * (ux * vy - uy * vx) = 0 := by grind
  rcases Rat.mul_eq_zero.1 e3 with h | h
  ·rcases Rat.mul_eq_zero.1 h with h | h <;> grind
  ·exact hA h
 have c1 := Gm.centre_one h1.2.1 h1.2.2 h4.2.1 h4.2.2 hr rfl
 have c2 := Gm.centre_two h1.2.1 h1.2.2 h4.2.1 h4.2.2 hr rfl
 generalize (ux * vy - uy * vx + (ux * vy - uy * vx))⁻¹ = r at *
 rcases h with ⟨rfl, rfl, h0⟩ | ⟨rfl, rfl, h0⟩
 ·have hn : (((X1 * Y4 - Y1 * X4) + (X1 * Y4 - Y1 * X4)).natAbs : Int) = (X1 * Y4 - Y1 * X4) + (X1 * Y4 - Y1 * X4) := by omega
  rw [hn]
  refine ⟨Int.mul_pos (Int.mul_pos (by omega) h1.1) h4.1, ?_, ?_⟩
  ·push_cast
   exact c1
  ·push_cast
   exact c2
 ·have hn : (((X1 * Y4 - Y1 * X4) + (X1 * Y4 - Y1 * X4)).natAbs : Int) = -((X1 * Y4 - Y1 * X4) + (X1 * Y4 - Y1 * X4)) := by omega
  rw [hn]
  refine ⟨Int.mul_pos (Int.mul_pos (by omega) h1.1) h4.1, ?_, ?_⟩
  ·push_cast
   rw [c1]
   grind
  ·push_cast
   rw [c2]
   grind
theorem NV.set1 {w : World} {n m : Bool} {v : Value} {z : Int} {L g : Nat} {a : Option Addr} {l c : Nat} {t : TypeId} (h : NV w n v z L) (hc : Cel w g [.bool m, .slice a l c] t) (x : Value) : NV (w.setCell ⟨g, 0, none⟩ x) n v z L := by
 obtain ⟨k, r, h1, h2⟩ := h
 exact ⟨k, ((rdx_of_cel r hc (no_ints2 _ _ _ _)).setX 0 x).rd, h1, h2⟩
theorem NV.flip {w : World} {n : Bool} {v : Value} {z : Int} {L : Nat} (h : NV w n v z L) : NV w (!n) v (-z) L := by
 obtain ⟨k, r, h1, rfl⟩ := h
 exact ⟨k, r, h1, by cases n <;> simp [sgn]⟩
theorem NV.pos {w : World} {v : Value} {z : Int} {L : Nat} (h : NV w false v z L) : 0 ≤ z := by
 obtain ⟨k, r, h1, rfl⟩ := h
 simp [sgn]
theorem NV.neg {w : World} {v : Value} {z : Int} {L : Nat} (h : NV w true v z L) : z ≤ 0 := by
 obtain ⟨k, r, h1, rfl⟩ := h
 simp [sgn]
theorem Cel.oth6 {w : World} {g g' : Nat} {cs : List Value} {t : TypeId} (h : Cel w g cs t) (hne : g ≠ g') (x0 x1 x2 x3 x4 x5 : Value) : Cel ((((((w.setCell ⟨g', 0, none⟩ x0).setCell ⟨g', 1, none⟩ x1).setCell ⟨g', 2, none⟩ x2).setCell ⟨g', 3, none⟩ x3).setCell ⟨g', 4, none⟩ x4).setCell ⟨g', 5, none⟩ x5) g cs t :=
 (((((h.other hne 0 x0).other hne 1 x1).other hne 2 x2).other hne 3 x3).other hne 4 x4).other hne 5 x5
open Go.RowKit
theorem NV.bd {w : World} {n : Bool} {v : Value} {z : Int} {L K : Nat} (h : NV w n v z L) (hK : 8 * L ≤ K) : Bd z K := by
 obtain ⟨k, -, hk, rfl⟩ := h
 rw [B64_pow] at hk
 show (sgn n k).natAbs < _
 rw [natAbs_sgn]
 exact Nat.lt_of_lt_of_le hk (Nat.pow_le_pow_right (by omega) hK)
theorem rds_two {w : World} {g : Nat} {t : TypeId} {Z : Nat → Int} (h : Cells w g t 2 (fst' Z 2)) : RdS w (.slice (some ⟨g, 0, none⟩) 2 2) [sfZ (Z 0), sfZ (Z 1)] := by
 refine ⟨_, 2, rfl, Nat.le_refl _, fun j hj => ⟨g, 0, rfl, ?_⟩⟩
 have hj' : j < 2 := hj
 rw [Nat.zero_add, h.cell hj']
 match j, hj' with
 | 0, _ => rfl
 | 1, _ => rfl
def tw2 {α : Type} (x y : α) (j : Nat) : α := if j = 0 then x else y
theorem rdn_two {w : World} {B : Nat} {t : TypeId} {m1 m2 : Bool} {a1 a2 : Option Addr} {l1 c1 l2 c2 : Nat} (h : Cel w B [.bool m1, .slice a1 l1 c1, .bool m2, .slice a2 l2 c2] t) : RdN w (some ⟨B, 0, none⟩) 2 (tw2 m1 m2) (fun j => .slice (tw2 a1 a2 j) (tw2 l1 l2 j) (tw2 c1 c2 j)) := by
 intro j hj
 refine ⟨B, 0, rfl, ?_⟩
 match j, hj with
 | 0, _ => exact ⟨h.cell 0, h.cell 1⟩
 | 1, _ => exact ⟨h.cell 2, h.cell 3⟩
theorem nover2 (m0 m1 m2 : Bool) (v0 : Value) (a1 a2 : Option Addr) (l1 c1 l2 c2 : Nat) (z d1 d2 : Int) (L : Nat) (B : Nat) (w : World) (hT : Tab w) (hL : L ≤ 400) (p1 : 0 < d1) (p2 : 0 < d2)
  (n0 : NV w m0 v0 z L) (n1 : NV w m1 (.slice a1 l1 c1) d1 L) (n2 : NV w m2 (.slice a2 l2 c2) d2 L) (h : Cel w B [.bool m1, .slice a1 l1 c1, .bool m2, .slice a2 l2 c2] 76) :
  Calls Tryz.prog 62 #[.agg #[.bool m0, v0], .slice (some ⟨B, 0, none⟩) 2 2] w (Re w (.agg #[.bool (nfZ (mkRat z (d1.natAbs * d2.natAbs)).num), .string (sfZ (mkRat z (d1.natAbs * d2.natAbs)).num), .string (strOf (mkRat z (d1.natAbs * d2.natAbs)).den)])) := by
 refine over_walk m0 v0 _ 2 2 (tw2 m1 m2) (tw2 a1 a2) (tw2 l1 l2) (tw2 c1 c2) z (tw2 d1 d2) _ _ _ w (by omega) n0.slice (rdn_two h) (fun k w1 hk b => ?_) (fun w1 b => nint_any _ _ z L w1 (by omega) (n0.below b)) (fun g w1 b hc => ?_)
 ·match k, hk with
  | 0, _ => exact nint_any _ _ d1 L w1 (by omega) (n1.below b)
  | 1, _ => exact nint_any _ _ d2 L w1 (by omega) (n2.below b)
 ·have b0 := n0.bd (K := 4000) (by omega)
  have b1 := n1.bd (K := 4000) (by omega)
  have b2 := n2.bd (K := 4000) (by omega)
  have o1 : OkS (sfZ d1) ∧ 0 < natOf (sfZ d1) ∧ (sfZ d1).size ≤ 8000 := ⟨okS_sfZ d1, by rw [natOf_sfZ]; omega, Nat.le_trans b1.size (by omega)⟩
  have o2 : OkS (sfZ d2) ∧ 0 < natOf (sfZ d2) ∧ (sfZ d2).size ≤ 8000 := ⟨okS_sfZ d2, by rw [natOf_sfZ]; omega, Nat.le_trans b2.size (by omega)⟩
  have hm := b1.mul b2
  have := over_any z (.slice (some ⟨g, 0, none⟩) 2 2) [sfZ d1, sfZ d2] w1 (hT.below b) (rds_two hc) (by simp) (fun x hx => by rcases List.mem_cons.1 hx with rfl | hx; exact o1; rcases List.mem_cons.1 hx with rfl | hx; exact o2; cases hx) (K := 4000 + 4000) (by omega) (b0.mono (by omega)) (by
   show natOf (sfZ d1) * (natOf (sfZ d2) * 1) < _
   rw [Nat.mul_one, natOf_sfZ, natOf_sfZ, ← Int.natAbs_mul]
   exact hm)
  rw [show Dt.nprod ([sfZ d1, sfZ d2].map natOf) = d1.natAbs * d2.natAbs by show natOf (sfZ d1) * (natOf (sfZ d2) * 1) = _; rw [Nat.mul_one, natOf_sfZ, natOf_sfZ]] at this
  exact this
open Go.RowKit
theorem bytes_eq {a b : ByteArray} (h : a.toList = b.toList) : a = b := toList_inj (by rw [h]; exact BEq.rfl)
theorem run_peq (n0 n1 n2 n3 : Bool) (s0 d0 s1 d1 s2 d2 s3 d3 : ByteArray) (w : World) (hne : ¬ (n0 = n2 ∧ s0 = s2 ∧ d0 = d2 ∧ n1 = n3 ∧ s1 = s3 ∧ d1 = d3)) : (binOp .eql 28 (.agg #[.bool n0, .string s0, .string d0, .bool n1, .string s1, .string d1]) (.agg #[.bool n2, .string s2, .string d2, .bool n3, .string s3, .string d3])).run Tryz.prog w = .ok (.bool false) w := by
 go_simp
 intro a b c d e f
 exact hne ⟨a, bytes_eq b, bytes_eq c, d, bytes_eq e, bytes_eq f⟩
def SpV (w : World) (m0 : Bool) (a0 : Option Addr) (l0 c0 : Nat) (m1 : Bool) (a1 : Option Addr) (l1 c1 : Nat) (a2 : Option Addr) (l2 c2 : Nat) (X Y U : Int) (x y : Rat) : Prop := NV w m0 (.slice a0 l0 c0) X 53 ∧ NV w m1 (.slice a1 l1 c1) Y 53 ∧ NV w false (.slice a2 l2 c2) U 52 ∧ Gm.Way X Y U x y
theorem SpV.below {w w' : World} {m0 : Bool} {a0 : Option Addr} {l0 c0 : Nat} {m1 : Bool} {a1 : Option Addr} {l1 c1 : Nat} {a2 : Option Addr} {l2 c2 : Nat} {X Y U : Int} {x y : Rat} (h : SpV w m0 a0 l0 c0 m1 a1 l1 c1 a2 l2 c2 X Y U x y) (b : Below w.heap.size w w') : SpV w' m0 a0 l0 c0 m1 a1 l1 c1 a2 l2 c2 X Y U x y := ⟨h.1.below b, h.2.1.below b, h.2.2.1.below b, h.2.2.2⟩
theorem SpV.set6 {w : World} {n0 : Bool} {a0 : Option Addr} {l0 c0 : Nat} {n1 : Bool} {a1 : Option Addr} {l1 c1 : Nat} {a2 : Option Addr} {l2 c2 : Nat} {X Y U : Int} {rx ry : Rat} {m o p : Bool} {g : Nat} {a b d : Option Addr} {l c l3 c3 l4 c4 : Nat} {t : TypeId} (h : SpV w n0 a0 l0 c0 n1 a1 l1 c1 a2 l2 c2 X Y U rx ry) (hc : Cel w g [.bool m, .slice a l c, .bool o, .slice b l3 c3, .bool p, .slice d l4 c4] t) (x0 x1 x2 x3 x4 x5 : Value) : SpV ((((((w.setCell ⟨g, 0, none⟩ x0).setCell ⟨g, 1, none⟩ x1).setCell ⟨g, 2, none⟩ x2).setCell ⟨g, 3, none⟩ x3).setCell ⟨g, 4, none⟩ x4).setCell ⟨g, 5, none⟩ x5) n0 a0 l0 c0 n1 a1 l1 c1 a2 l2 c2 X Y U rx ry := ⟨h.1.set6 hc x0 x1 x2 x3 x4 x5, h.2.1.set6 hc x0 x1 x2 x3 x4 x5, h.2.2.1.set6 hc x0 x1 x2 x3 x4 x5, h.2.2.2⟩
theorem sharp_sign {X Y U X' Y' U' : Int} {x y x' y' : Rat} (h : Gm.Way X Y U x y) (h' : Gm.Way X' Y' U' x' y') : ((X * X' + Y * Y' + (X * X' + Y * Y')) * (X * X' + Y * Y' + (X * X' + Y * Y')) - (X * X + Y * Y) * (X' * X' + Y' * Y')).sign = Gm.sg (4 * ((x * x' + y * y') * (x * x' + y * y')) - (x * x + y * y) * (x' * x' + y' * y')) := by
 obtain ⟨hu, e1, e2⟩ := h
 obtain ⟨hv, e3, e4⟩ := h'
 refine Gm.sg_of (k := ((U : Rat) * U') * ((U : Rat) * U')) (Rat.mul_pos (Rat.mul_pos (Gm.upos hu) (Gm.upos hv)) (Rat.mul_pos (Gm.upos hu) (Gm.upos hv))) ?_
 simp only [Rat.intCast_sub, Rat.intCast_mul, Rat.intCast_add]
 rw [e1, e2, e3, e4]
 grind
theorem sharp_less {X Y U X' Y' U' : Int} {x y x' y' : Rat} (h : Gm.Way X Y U x y) (h' : Gm.Way X' Y' U' x' y') : (X * X + Y * Y) * (X' * X' + Y' * Y') < (X * X' + Y * Y' + (X * X' + Y * Y')) * (X * X' + Y * Y' + (X * X' + Y * Y')) ↔ 0 < Gm.sg (4 * ((x * x' + y * y') * (x * x' + y * y')) - (x * x + y * y) * (x' * x' + y' * y')) := by
 rw [← sharp_sign h h']
 generalize (X * X + Y * Y) * (X' * X' + Y' * Y') = p
 generalize (X * X' + Y * Y' + (X * X' + Y * Y')) * (X * X' + Y * Y' + (X * X' + Y * Y')) = q
 rw [show (0 < (q - p).sign) ↔ 0 < q - p from ⟨fun k => by rcases Int.lt_trichotomy (q - p) 0 with h | h | h; (rw [Int.sign_eq_neg_one_of_neg h] at k; omega); (rw [h] at k; exact absurd k (by decide)); exact h, fun k => by rw [Int.sign_eq_one_of_pos k]; decide⟩]
 omega
open Go.RowKit
theorem post_s1 {fn : Func} {p u : Tmp} {R : Ending → World → Prop} {a : Act} {w : World} {g : Nat} {x0 x1 x2 x3 x4 x5 v : Value} (h : fn.results = #[.cell p 78, .tmp u]) (hp : a.tmps.getD p undef = .pointer (some ⟨g, 0, none⟩)) (hu : a.tmps.getD u undef = v) (hd : a.defers = [])
  (hc : Cel w g [x0, x1, x2, x3, x4, x5] 78) (hR : R (.returned (.tuple #[.agg #[x0, x1, x2, x3, x4, x5], v])) w) : bodyPost Tryz.prog fn R .ret a w := by
 refine ⟨hd, .tuple #[.agg #[x0, x1, x2, x3, x4, x5], v], ?_, hR⟩
 have hp' : a.tmps[p]?.getD undef = .pointer (some ⟨g, 0, none⟩) := by simpa using hp
 have hu' : a.tmps[u]?.getD undef = v := by simpa using hu
 simp only [results, h]
 simp [Result.andThen, hp', hu', asAddr, load_s hc]
theorem nsize_any (n : Bool) (v : Value) (z : Int) (L : Nat) (w : World) (h : NV w n v z L) :
  Calls Tryz.prog 130 #[.agg #[.bool n, v]] w fun e w' => e = .returned (.agg #[.bool false, v]) ∧ NV w' false v z.natAbs L ∧ Below w.heap.size w w' := by
 have HA : Hid (∀ w1, Below w.heap.size w w1 → NV w1 false v z.natAbs L) := fun w1 b => by
  obtain ⟨k, r, hk, rfl⟩ := h.below b
  exact ⟨k, r, hk, by rw [natAbs_sgn]; rfl⟩
 obtain ⟨a, l, c, rfl⟩ := h.slice
 clear h
 go_enter Tryz.func130, Tryz.ntmps130
 go_wp2_with fail
 obtain ⟨w0, hw, k0, kr, bb⟩ := mk2 w [.bool n, .slice a l c] [.bool false, .slice a l c] 76 76
 rw [← hw]
 clear hw
 exact post_n (p := 2) (by kernel_rfl) rfl rfl kr ⟨rfl, HA.out _ bb, bb⟩
open Go.RowKit
theorem mk5 (w : World) (c0 c1 c2 c3 c4 : List Value) (t0 t1 t2 t3 t4 : TypeId) : ∃ w', w' = ((((w.alloc (.cells c0.toArray t0)).alloc (.cells c1.toArray t1)).alloc (.cells c2.toArray t2)).alloc (.cells c3.toArray t3)).alloc (.cells c4.toArray t4) ∧ Cel w' w.heap.size c0 t0 ∧ Cel w' (w.heap.size + 1) c1 t1 ∧ Cel w' (w.heap.size + 1 + 1) c2 t2 ∧ Cel w' (w.heap.size + 1 + 1 + 1) c3 t3 ∧ Cel w' (w.heap.size + 1 + 1 + 1 + 1) c4 t4 ∧ Below w.heap.size w w' := by
 obtain ⟨v, hv, k0, k1, k2, k3, b⟩ := mk4 w c0 c1 c2 c3 t0 t1 t2 t3
 obtain ⟨u, hu, k4, b'⟩ := mk1 v c4 t4
 have hs : v.heap.size = w.heap.size + 1 + 1 + 1 + 1 := by rw [hv]; simp
 refine ⟨u, by rw [hu, hv], k0.below b', k1.below b', k2.below b', k3.below b', by rw [← hs]; exact k4, Below.after b b'⟩
open Go.RowKit
theorem make_way {X U : Int} {x : Rat} (w : World) (hT : Tab w) (bX : Bd X 8000) (bU : Bd U 8000) (hU : 0 < U) (h : (X : Rat) = (U : Rat) * x) :
  Calls Tryz.prog 98 #[.agg #[.bool (nfZ X), .string (sfZ X)], .agg #[.bool (nfZ U), .string (sfZ U)]] w (Re w (.tuple #[.agg #[.bool (nfZ x.num), .string (sfZ x.num), .string (strOf x.den)], .int .i64 0])) := by
 have := make_ok (nfZ X) (nfZ U) (sfZ X) (sfZ U) w hT (okZ_nz X) (okZ_nz U) (K := 8000) (by omega) (bd_sf bX) (bd_sf bU) (by rw [natOf_sfZ]; omega)
 rw [zOf_nz, zOf_nz] at this
 have e : Rat.divInt X U = x := by
  rw [Rat.divInt_eq_div, h]
  have hp := Gm.upos hU
  rw [Rat.div_def]
  have := Rat.mul_inv_cancel (U : Rat) (by grind)
  grind
 rw [e] at this
 exact this
theorem cCen_flat (n0 n1 n2 n3 n4 n5 : Bool) (s0 d0 s1 d1 s2 d2 s3 d3 s4 d4 s5 d5 : ByteArray) (w : World)
  (HC : Hid (∀ (w1 : World) (B : Nat), Below w.heap.size w w1 → Cel w1 B [.bool n0, .string s0, .string d0, .bool n1, .string s1, .string d1, .bool n2, .string s2, .string d2, .bool n3, .string s3, .string d3, .bool n4, .string s4, .string d4, .bool n5, .string s5, .string d5] 28 → Calls Tryz.prog 40 #[.slice (some ⟨B, 0, none⟩) 3 3] w1 (Re w1 (.int .i64 0))))
  (HT : Hid (∀ w1, Calls Tryz.prog 97 #[.agg #[.bool n0, .string s0, .string d0, .bool n1, .string s1, .string d1], .agg #[.bool n2, .string s2, .string d2, .bool n3, .string s3, .string d3], .agg #[.bool n4, .string s4, .string d4, .bool n5, .string s5, .string d5]] w1 (Re w1 (.tuple #[.agg #[.bool false, .slice none 0 0, .bool false, .slice none 0 0, .bool false, .slice none 0 0], .bool false])))) :
  Calls Tryz.prog 53 #[.agg #[.bool n0, .string s0, .string d0, .bool n1, .string s1, .string d1], .agg #[.bool n2, .string s2, .string d2, .bool n3, .string s3, .string d3], .agg #[.bool n4, .string s4, .string d4, .bool n5, .string s5, .string d5]] w (Re w (.tuple #[.agg #[.bool false, .string { data := #[] }, .string { data := #[] }, .bool false, .string { data := #[] }, .string { data := #[] }], .int .i64 6])) := by
 go_enter Tryz.func53, Tryz.ntmps53
 go_wp2_with fail
 obtain ⟨w0, hw, ka, kb, kc, kr, kl, bb⟩ := mk5 w [.bool n0, .string s0, .string d0, .bool n1, .string s1, .string d1] [.bool n2, .string s2, .string d2, .bool n3, .string s3, .string d3] [.bool n4, .string s4, .string d4, .bool n5, .string s5, .string d5] [.bool false, .string { data := #[] }, .string { data := #[] }, .bool false, .string { data := #[] }, .string { data := #[] }] [.bool n0, .string s0, .string d0, .bool n1, .string s1, .string d1, .bool n2, .string s2, .string d2, .bool n3, .string s3, .string d3, .bool n4, .string s4, .string d4, .bool n5, .string s5, .string d5] 28 28 28 28 28
 rw [← hw]
 clear hw
 go_fit (HC.out _ _ bb kl)
 rintro e w1 ⟨rfl, b1⟩
 replace ka := ka.below b1
 replace kb := kb.below b1
 replace kc := kc.below b1
 replace kr := kr.below b1
 replace bb := Below.after bb b1
 clear b1 kl
 obtain ⟨za0, za1, za2, za3, za4, za5⟩ := xk6 ka
 obtain ⟨zb0, zb1, zb2, zb3, zb4, zb5⟩ := xk6 kb
 obtain ⟨zc0, zc1, zc2, zc3, zc4, zc5⟩ := xk6 kc
 go_wp2_with fail
 clear za0 za1 za2 za3 za4 za5 zb0 zb1 zb2 zb3 zb4 zb5 zc0 zc1 zc2 zc3 zc4 zc5
 go_fit (HT.out _)
 rintro e w2 ⟨rfl, b1⟩
 replace kr := kr.below b1
 replace bb := Below.after bb b1
 clear b1
 have kr' := kr.alloc (.cells #[.bool false, .slice none 0 0, .bool false, .slice none 0 0, .bool false, .slice none 0 0] 78)
 obtain ⟨e0, e1, e2, e3, e4, e5⟩ := xk6 kr'
 have f0 := Cel.frozen kr' 0
 have f1 := Cel.frozen kr' 1
 have f2 := Cel.frozen kr' 2
 have f3 := Cel.frozen kr' 3
 have f4 := Cel.frozen kr' 4
 have f5 := Cel.frozen kr' 5
 go_wp2
 replace kr := kr'
 replace bb := Below.after bb (bel_al w2 (.cells #[.bool false, .slice none 0 0, .bool false, .slice none 0 0, .bool false, .slice none 0 0] 78))
 exact post_p1 (p := 6) (u := 7) (v := .int .i64 6) (by kernel_rfl) rfl rfl rfl (kr.set6 _ _ _ _ _ _) ⟨rfl, bset6 bb (by omega) _ _ _ _ _ _⟩
open Go.RowKit
theorem qOf_one (x : Rat) : qOf (nfZ x.num) (sfZ x.num) (strOf x.den) = x := qOf_qI x
open Go.RowKit
theorem sh6_t {s d : ByteArray} (h : sh6 s d = true) : s.size ≤ 60 ∧ d.size ≤ 60 := of_decide_eq_true h
theorem le100 {s d : ByteArray} (h : s.size ≤ 60 ∧ d.size ≤ 60) : s.size ≤ 100 ∧ d.size ≤ 100 := ⟨by omega, by omega⟩
end Go.Proofs.YtmojdkjpcjfkeaaGreatDoor
