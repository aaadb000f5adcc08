/-
  gussetlaw06: at, short, small.
  Package span: a number over two others.
  gussetref05: Orient, Disc, Circle, walked.
  Points compared.
  Package span: the size of a number; no way to a centre.
  Rational numbers in their one form: how long sums and products get; the reference's calls over them.
  gussetref05: Asked; signs and products of rational numbers in their one form.
  gussetref06: Centre, Middle, walked.
-/
import Derived.Test.YtiiigiggcbbgjaaGreatDoorI41
import Derived.Test.YtiiigiggcbbgjaaGreatDoorI42
set_option maxRecDepth 100000
set_option maxHeartbeats 16000000
namespace Go.Proofs.YtiiigiggcbbgjaaGreatDoor
open Go.RowKit
theorem lat6_any (x y : Int) (h1 : -1000 ≤ x) (h2 : x ≤ 1000) (h3 : -1000 ≤ y) (h4 : y ≤ 1000) (w : World) :
  Calls Tryz.prog 57 #[.int .i64 x, .int .i64 y] w (Re w (.agg #[.bool (nfZ x), .string (sfZ x), .string ⟨#[1]⟩, .bool (nfZ y), .string (sfZ y), .string ⟨#[1]⟩])) := by
 have H1 := shut (fun w => roq_any x h1 h2 w)
 have H2 := shut (fun w => roq_any y h3 h4 w)
 clear h1 h2 h3 h4
 go_enter Tryz.func57, Tryz.ntmps57
 go_wp2_with fail
 go_fit (H1.out _)
 rintro e w1 ⟨rfl, b1⟩
 obtain ⟨kr, bb⟩ := al1 b1
 clear b1
 go_wp2_with fail
 go_fit (H2.out _)
 rintro e w2 ⟨rfl, b1⟩
 replace kr := kr.below b1
 replace bb := Below.after bb b1
 clear b1
 have f0 := Cel.frozen kr 0
 have f1 := Cel.frozen kr 1
 have f2 := Cel.frozen kr 2
 have f3 := Cel.frozen kr 3
 have f4 := Cel.frozen kr 4
 have f5 := Cel.frozen kr 5
 obtain ⟨r0, r1, r2, r3, r4, r5⟩ := xk6 kr
 go_wp2
 exact post_p (p := 4) (by kernel_rfl) rfl rfl (kr.set6 _ _ _ _ _ _) ⟨rfl, bset6 bb (Nat.le_refl _) _ _ _ _ _ _⟩
def sh6 (s d : ByteArray) : Bool := decide (s.size ≤ 60 ∧ d.size ≤ 60)
theorem short6_any (n : Bool) (s d : ByteArray) (w : World) :
  Calls Tryz.prog 56 #[.agg #[.bool n, .string s, .string d]] w (Re w (.bool (sh6 s d))) := by
 by_cases hs : s.size ≤ 60
 ·by_cases hd : d.size ≤ 60
  ·have e : Hid (sh6 s d = true) := decide_eq_true ⟨hs, hd⟩
   have i1 : (s.size : Int) ≤ 60 := by omega
   have i2 : (d.size : Int) ≤ 60 := by omega
   go_enter Tryz.func56, Tryz.ntmps56
   go_wp2
   go_ret
   exact ⟨by rw [e.out]; rfl, bel_al _ _⟩
  ·have e : Hid (sh6 s d = false) := decide_eq_false fun h => hd h.2
   have i1 : (s.size : Int) ≤ 60 := by omega
   have i2 : ¬ (d.size : Int) ≤ 60 := by omega
   go_enter Tryz.func56, Tryz.ntmps56
   go_wp2
   go_ret
   exact ⟨by rw [e.out]; rfl, bel_al _ _⟩
 ·have e : Hid (sh6 s d = false) := decide_eq_false fun h => hs h.1
  have i1 : ¬ (s.size : Int) ≤ 60 := by omega
  go_enter Tryz.func56, Tryz.ntmps56
  go_wp2
  go_ret
  exact ⟨by rw [e.out]; rfl, bel_al _ _⟩
theorem c18 {w : World} {g : Nat} {t : TypeId} {x0 x1 x2 x3 x4 x5 x6 x7 x8 x9 x10 x11 x12 x13 x14 x15 x16 x17 : Value} (h : Cel w g [x0, x1, x2, x3, x4, x5, x6, x7, x8, x9, x10, x11, x12, x13, x14, x15, x16, x17] t) : w.cell? ⟨g, 0, none⟩ = some x0 ∧ w.cell? ⟨g, 1, none⟩ = some x1 ∧ w.cell? ⟨g, 2, none⟩ = some x2 ∧ w.cell? ⟨g, 3, none⟩ = some x3 ∧ w.cell? ⟨g, 4, none⟩ = some x4 ∧ w.cell? ⟨g, 5, none⟩ = some x5 ∧ w.cell? ⟨g, 6, none⟩ = some x6 ∧ w.cell? ⟨g, 7, none⟩ = some x7 ∧ w.cell? ⟨g, 8, none⟩ = some x8 ∧ w.cell? ⟨g, 9, none⟩ = some x9 ∧ w.cell? ⟨g, 10, none⟩ = some x10 ∧ w.cell? ⟨g, 11, none⟩ = some x11 ∧ w.cell? ⟨g, 12, none⟩ = some x12 ∧ w.cell? ⟨g, 13, none⟩ = some x13 ∧ w.cell? ⟨g, 14, none⟩ = some x14 ∧ w.cell? ⟨g, 15, none⟩ = some x15 ∧ w.cell? ⟨g, 16, none⟩ = some x16 ∧ w.cell? ⟨g, 17, none⟩ = some x17 :=
 ⟨h.cell 0, h.cell 1, h.cell 2, h.cell 3, h.cell 4, h.cell 5, h.cell 6, h.cell 7, h.cell 8, h.cell 9, h.cell 10, h.cell 11, h.cell 12, h.cell 13, h.cell 14, h.cell 15, h.cell 16, h.cell 17⟩
theorem small6_walk (n0 n1 n2 n3 n4 n5 : Bool) (s0 d0 s1 d1 s2 d2 s3 d3 s4 d4 s5 d5 : ByteArray) (B0 B1 B2 B3 B4 B5 : Bool) (w : World)
  (H0 : Hid (∀ w1, Calls Tryz.prog 56 #[.agg #[.bool n0, .string s0, .string d0]] w1 (Re w1 (.bool B0))))
  (H1 : Hid (∀ w1, Calls Tryz.prog 56 #[.agg #[.bool n1, .string s1, .string d1]] w1 (Re w1 (.bool B1))))
  (H2 : Hid (∀ w1, Calls Tryz.prog 56 #[.agg #[.bool n2, .string s2, .string d2]] w1 (Re w1 (.bool B2))))
  (H3 : Hid (∀ w1, Calls Tryz.prog 56 #[.agg #[.bool n3, .string s3, .string d3]] w1 (Re w1 (.bool B3))))
  (H4 : Hid (∀ w1, Calls Tryz.prog 56 #[.agg #[.bool n4, .string s4, .string d4]] w1 (Re w1 (.bool B4))))
  (H5 : Hid (∀ w1, Calls Tryz.prog 56 #[.agg #[.bool n5, .string s5, .string d5]] w1 (Re w1 (.bool B5)))) :
  Calls Tryz.prog 18 #[.agg #[.bool n0, .string s0, .string d0, .bool n1, .string s1, .string d1, .bool n2, .string s2, .string d2, .bool n3, .string s3, .string d3, .bool n4, .string s4, .string d4, .bool n5, .string s5, .string d5]] w (Re w (.bool (B0 && (B1 && (B2 && (B3 && (B4 && B5))))))) := by
 go_enter Tryz.func18, Tryz.ntmps18
 go_wp2_with fail
 go_fit (H0.out _)
 rintro e w0 ⟨rfl, b1⟩
 obtain ⟨k, bb⟩ := al1 b1
 clear b1
 cases B0 with
 | false =>
  go_wp2
  go_ret
  exact ⟨by simp only [Bool.false_and]; rfl, bb⟩
 | true =>
 obtain ⟨c0, c1, c2, c3, c4, c5, c6, c7, c8, c9, c10, c11, c12, c13, c14, c15, c16, c17⟩ := c18 k
 go_wp2_with fail
 go_fit (H1.out _)
 rintro e w1 ⟨rfl, b1⟩
 replace k := k.below b1
 replace bb := Below.after bb b1
 clear b1
 clear c0 c1 c2 c3 c4 c5 c6 c7 c8 c9 c10 c11 c12 c13 c14 c15 c16 c17
 cases B1 with
 | false =>
  go_wp2
  go_ret
  exact ⟨by simp only [Bool.true_and, Bool.false_and]; rfl, bb⟩
 | true =>
 obtain ⟨c0, c1, c2, c3, c4, c5, c6, c7, c8, c9, c10, c11, c12, c13, c14, c15, c16, c17⟩ := c18 k
 go_wp2_with fail
 go_fit (H2.out _)
 rintro e w2 ⟨rfl, b1⟩
 replace k := k.below b1
 replace bb := Below.after bb b1
 clear b1
 clear c0 c1 c2 c3 c4 c5 c6 c7 c8 c9 c10 c11 c12 c13 c14 c15 c16 c17
 cases B2 with
 | false =>
  go_wp2
  go_ret
  exact ⟨by simp only [Bool.true_and, Bool.false_and]; rfl, bb⟩
 | true =>
 obtain ⟨c0, c1, c2, c3, c4, c5, c6, c7, c8, c9, c10, c11, c12, c13, c14, c15, c16, c17⟩ := c18 k
 go_wp2_with fail
 go_fit (H3.out _)
 rintro e w3 ⟨rfl, b1⟩
 replace k := k.below b1
 replace bb := Below.after bb b1
 clear b1
 clear c0 c1 c2 c3 c4 c5 c6 c7 c8 c9 c10 c11 c12 c13 c14 c15 c16 c17
 cases B3 with
 | false =>
  go_wp2
  go_ret
  exact ⟨by simp only [Bool.true_and, Bool.false_and]; rfl, bb⟩
 | true =>
 obtain ⟨c0, c1, c2, c3, c4, c5, c6, c7, c8, c9, c10, c11, c12, c13, c14, c15, c16, c17⟩ := c18 k
 go_wp2_with fail
 go_fit (H4.out _)
 rintro e w4 ⟨rfl, b1⟩
 replace k := k.below b1
 replace bb := Below.after bb b1
 clear b1
 clear c0 c1 c2 c3 c4 c5 c6 c7 c8 c9 c10 c11 c12 c13 c14 c15 c16 c17
 cases B4 with
 | false =>
  go_wp2
  go_ret
  exact ⟨by simp only [Bool.true_and, Bool.false_and]; rfl, bb⟩
 | true =>
 obtain ⟨c0, c1, c2, c3, c4, c5, c6, c7, c8, c9, c10, c11, c12, c13, c14, c15, c16, c17⟩ := c18 k
 go_wp2_with fail
 go_fit (H5.out _)
 rintro e w5 ⟨rfl, b1⟩
 replace k := k.below b1
 replace bb := Below.after bb b1
 clear b1
 clear c0 c1 c2 c3 c4 c5 c6 c7 c8 c9 c10 c11 c12 c13 c14 c15 c16 c17
 go_wp2
 go_ret
 exact ⟨by simp only [Bool.true_and]; rfl, bb⟩
theorem small6_any (n0 n1 n2 n3 n4 n5 : Bool) (s0 d0 s1 d1 s2 d2 s3 d3 s4 d4 s5 d5 : ByteArray) (w : World) :
  Calls Tryz.prog 18 #[.agg #[.bool n0, .string s0, .string d0, .bool n1, .string s1, .string d1, .bool n2, .string s2, .string d2, .bool n3, .string s3, .string d3, .bool n4, .string s4, .string d4, .bool n5, .string s5, .string d5]] w (Re w (.bool (sh6 s0 d0 && (sh6 s1 d1 && (sh6 s2 d2 && (sh6 s3 d3 && (sh6 s4 d4 && sh6 s5 d5))))))) :=
 small6_walk n0 n1 n2 n3 n4 n5 s0 d0 s1 d1 s2 d2 s3 d3 s4 d4 s5 d5 _ _ _ _ _ _ w (fun w1 => short6_any n0 s0 d0 w1) (fun w1 => short6_any n1 s1 d1 w1) (fun w1 => short6_any n2 s2 d2 w1) (fun w1 => short6_any n3 s3 d3 w1) (fun w1 => short6_any n4 s4 d4 w1) (fun w1 => short6_any n5 s5 d5 w1)
open Go.RowKit
theorem NV.bd {w : World} {n : Bool} {v : Value} {z : Int} {L K : Nat} (h : NV w n v z L) (hK : 8 * L ≤ K) : Bd z K := by
 obtain ⟨k, -, hk, rfl⟩ := h
 rw [B64_pow] at hk
 show (sgn n k).natAbs < _
 rw [natAbs_sgn]
 exact Nat.lt_of_lt_of_le hk (Nat.pow_le_pow_right (by omega) hK)
theorem rds_two {w : World} {g : Nat} {t : TypeId} {Z : Nat → Int} (h : Cells w g t 2 (fst' Z 2)) : RdS w (.slice (some ⟨g, 0, none⟩) 2 2) [sfZ (Z 0), sfZ (Z 1)] := by
 refine ⟨_, 2, rfl, Nat.le_refl _, fun j hj => ⟨g, 0, rfl, ?_⟩⟩
 have hj' : j < 2 := hj
 rw [Nat.zero_add, h.cell hj']
 match j, hj' with
 | 0, _ => rfl
 | 1, _ => rfl
def tw2 {α : Type} (x y : α) (j : Nat) : α := if j = 0 then x else y
theorem rdn_two {w : World} {B : Nat} {t : TypeId} {m1 m2 : Bool} {a1 a2 : Option Addr} {l1 c1 l2 c2 : Nat} (h : Cel w B [.bool m1, .slice a1 l1 c1, .bool m2, .slice a2 l2 c2] t) : RdN w (some ⟨B, 0, none⟩) 2 (tw2 m1 m2) (fun j => .slice (tw2 a1 a2 j) (tw2 l1 l2 j) (tw2 c1 c2 j)) := by
 intro j hj
 refine ⟨B, 0, rfl, ?_⟩
 match j, hj with
 | 0, _ => exact ⟨h.cell 0, h.cell 1⟩
 | 1, _ => exact ⟨h.cell 2, h.cell 3⟩
theorem nover2 (m0 m1 m2 : Bool) (v0 : Value) (a1 a2 : Option Addr) (l1 c1 l2 c2 : Nat) (z d1 d2 : Int) (L : Nat) (B : Nat) (w : World) (hT : Tab w) (hL : L ≤ 400) (p1 : 0 < d1) (p2 : 0 < d2)
  (n0 : NV w m0 v0 z L) (n1 : NV w m1 (.slice a1 l1 c1) d1 L) (n2 : NV w m2 (.slice a2 l2 c2) d2 L) (h : Cel w B [.bool m1, .slice a1 l1 c1, .bool m2, .slice a2 l2 c2] 72) :
  Calls Tryz.prog 78 #[.agg #[.bool m0, v0], .slice (some ⟨B, 0, none⟩) 2 2] w (Re w (.agg #[.bool (nfZ (mkRat z (d1.natAbs * d2.natAbs)).num), .string (sfZ (mkRat z (d1.natAbs * d2.natAbs)).num), .string (strOf (mkRat z (d1.natAbs * d2.natAbs)).den)])) := by
 refine over_walk m0 v0 _ 2 2 (tw2 m1 m2) (tw2 a1 a2) (tw2 l1 l2) (tw2 c1 c2) z (tw2 d1 d2) _ _ _ w (by omega) n0.slice (rdn_two h) (fun k w1 hk b => ?_) (fun w1 b => nint_any _ _ z L w1 (by omega) (n0.below b)) (fun g w1 b hc => ?_)
 ·match k, hk with
  | 0, _ => exact nint_any _ _ d1 L w1 (by omega) (n1.below b)
  | 1, _ => exact nint_any _ _ d2 L w1 (by omega) (n2.below b)
 ·have b0 := n0.bd (K := 4000) (by omega)
  have b1 := n1.bd (K := 4000) (by omega)
  have b2 := n2.bd (K := 4000) (by omega)
  have o1 : OkS (sfZ d1) ∧ 0 < natOf (sfZ d1) ∧ (sfZ d1).size ≤ 8000 := ⟨okS_sfZ d1, by rw [natOf_sfZ]; omega, Nat.le_trans b1.size (by omega)⟩
  have o2 : OkS (sfZ d2) ∧ 0 < natOf (sfZ d2) ∧ (sfZ d2).size ≤ 8000 := ⟨okS_sfZ d2, by rw [natOf_sfZ]; omega, Nat.le_trans b2.size (by omega)⟩
  have hm := b1.mul b2
  have := over_any z (.slice (some ⟨g, 0, none⟩) 2 2) [sfZ d1, sfZ d2] w1 (hT.below b) (rds_two hc) (by simp) (fun x hx => by rcases List.mem_cons.1 hx with rfl | hx; exact o1; rcases List.mem_cons.1 hx with rfl | hx; exact o2; cases hx) (K := 4000 + 4000) (by omega) (b0.mono (by omega)) (by
   show natOf (sfZ d1) * (natOf (sfZ d2) * 1) < _
   rw [Nat.mul_one, natOf_sfZ, natOf_sfZ, ← Int.natAbs_mul]
   exact hm)
  rw [show Dt.nprod ([sfZ d1, sfZ d2].map natOf) = d1.natAbs * d2.natAbs by show natOf (sfZ d1) * (natOf (sfZ d2) * 1) = _; rw [Nat.mul_one, natOf_sfZ, natOf_sfZ]] at this
  exact this
open Go.RowKit
theorem rorient_walk (n0 n1 n2 n3 n4 n5 n10 n11 n12 n13 n14 : Bool) (s0 d0 s1 d1 s2 d2 s3 d3 s4 d4 s5 d5 s10 d10 s11 d11 s12 d12 s13 d13 s14 d14 : ByteArray) (G : Int) (w : World)
  (H1 : Hid (∀ w1, Calls Tryz.prog 37 #[.agg #[.bool n2, .string s2, .string d2, .bool n3, .string s3, .string d3], .agg #[.bool n0, .string s0, .string d0, .bool n1, .string s1, .string d1]] w1 (Re w1 (.agg #[.bool n10, .string s10, .string d10, .bool n11, .string s11, .string d11]))))
  (H2 : Hid (∀ w1, Calls Tryz.prog 37 #[.agg #[.bool n4, .string s4, .string d4, .bool n5, .string s5, .string d5], .agg #[.bool n0, .string s0, .string d0, .bool n1, .string s1, .string d1]] w1 (Re w1 (.agg #[.bool n12, .string s12, .string d12, .bool n13, .string s13, .string d13]))))
  (H3 : Hid (∀ w1, Calls Tryz.prog 65 #[.agg #[.bool n10, .string s10, .string d10, .bool n11, .string s11, .string d11], .agg #[.bool n12, .string s12, .string d12, .bool n13, .string s13, .string d13]] w1 (Re w1 (.agg #[.bool n14, .string s14, .string d14]))))
  (H4 : Hid (∀ w1, Calls Tryz.prog 64 #[.agg #[.bool n14, .string s14, .string d14]] w1 (Re w1 (.int .i64 (G))))) :
  Calls Tryz.prog 26 #[.agg #[.bool n0, .string s0, .string d0, .bool n1, .string s1, .string d1], .agg #[.bool n2, .string s2, .string d2, .bool n3, .string s3, .string d3], .agg #[.bool n4, .string s4, .string d4, .bool n5, .string s5, .string d5]] w (Re w (.int .i64 (G))) := by
 go_enter Tryz.func26, Tryz.ntmps26
 go_wp2_with fail
 obtain ⟨w0, hw, ka, kb, kc, bb⟩ := mk3 w [.bool n0, .string s0, .string d0, .bool n1, .string s1, .string d1] [.bool n2, .string s2, .string d2, .bool n3, .string s3, .string d3] [.bool n4, .string s4, .string d4, .bool n5, .string s5, .string d5] 28 28 28
 rw [← hw]
 clear hw
 have mkS : Hid (∀ w', Cel w' (w.heap.size) [.bool n0, .string s0, .string d0, .bool n1, .string s1, .string d1] 28 → Cel w' (w.heap.size + 1) [.bool n2, .string s2, .string d2, .bool n3, .string s3, .string d3] 28 → Cel w' (w.heap.size + 1 + 1) [.bool n4, .string s4, .string d4, .bool n5, .string s5, .string d5] 28 → (xc6 w' w.heap.size (.bool n0) (.string s0) (.string d0) (.bool n1) (.string s1) (.string d1) ∧ xc6 w' (w.heap.size + 1) (.bool n2) (.string s2) (.string d2) (.bool n3) (.string s3) (.string d3) ∧ xc6 w' (w.heap.size + 1 + 1) (.bool n4) (.string s4) (.string d4) (.bool n5) (.string s5) (.string d5))) := fun w' ha hb hc => ⟨xk6 ha, xk6 hb, xk6 hc⟩
 go_region_held3 (fun w' => xc6 w' w.heap.size (.bool n0) (.string s0) (.string d0) (.bool n1) (.string s1) (.string d1) ∧ xc6 w' (w.heap.size + 1) (.bool n2) (.string s2) (.string d2) (.bool n3) (.string s3) (.string d3) ∧ xc6 w' (w.heap.size + 1 + 1) (.bool n4) (.string s4) (.string d4) (.bool n5) (.string s5) (.string d5)) (first | with_reducible exact mkS.out _ ka kb kc | exact mkS.out _ ka kb kc) (first | (go_at_call 37; go_fit (H1.out _); rintro e wn ⟨rfl, bn⟩; replace ka := ka.below (un bn); replace kb := kb.below (un bn); replace kc := kc.below (un bn); replace bb := Below.after bb (un bn)) | (go_at_call 37; go_fit (H2.out _); rintro e wn ⟨rfl, bn⟩; replace ka := ka.below (un bn); replace kb := kb.below (un bn); replace kc := kc.below (un bn); replace bb := Below.after bb (un bn)) | (go_at_call 65; go_fit (H3.out _); rintro e wn ⟨rfl, bn⟩; replace ka := ka.below (un bn); replace kb := kb.below (un bn); replace kc := kc.below (un bn); replace bb := Below.after bb (un bn)) | (go_at_call 64; go_fit (H4.out _); rintro e wn ⟨rfl, bn⟩; replace ka := ka.below (un bn); replace kb := kb.below (un bn); replace kc := kc.below (un bn); replace bb := Below.after bb (un bn)))
 go_wp2
 go_ret
 exact ⟨rfl, bb⟩
open Go.RowKit
theorem bytes_eq {a b : ByteArray} (h : a.toList = b.toList) : a = b := toList_inj (by rw [h]; exact BEq.rfl)
theorem run_peq (n0 n1 n2 n3 : Bool) (s0 d0 s1 d1 s2 d2 s3 d3 : ByteArray) (w : World) (hne : ¬ (n0 = n2 ∧ s0 = s2 ∧ d0 = d2 ∧ n1 = n3 ∧ s1 = s3 ∧ d1 = d3)) : (binOp .eql 28 (.agg #[.bool n0, .string s0, .string d0, .bool n1, .string s1, .string d1]) (.agg #[.bool n2, .string s2, .string d2, .bool n3, .string s3, .string d3])).run Tryz.prog w = .ok (.bool false) w := by
 go_simp
 intro a b c d e f
 exact hne ⟨a, bytes_eq b, bytes_eq c, d, bytes_eq e, bytes_eq f⟩
def SpV (w : World) (m0 : Bool) (a0 : Option Addr) (l0 c0 : Nat) (m1 : Bool) (a1 : Option Addr) (l1 c1 : Nat) (a2 : Option Addr) (l2 c2 : Nat) (X Y U : Int) (x y : Rat) : Prop := NV w m0 (.slice a0 l0 c0) X 53 ∧ NV w m1 (.slice a1 l1 c1) Y 53 ∧ NV w false (.slice a2 l2 c2) U 52 ∧ Gm.Way X Y U x y
theorem SpV.below {w w' : World} {m0 : Bool} {a0 : Option Addr} {l0 c0 : Nat} {m1 : Bool} {a1 : Option Addr} {l1 c1 : Nat} {a2 : Option Addr} {l2 c2 : Nat} {X Y U : Int} {x y : Rat} (h : SpV w m0 a0 l0 c0 m1 a1 l1 c1 a2 l2 c2 X Y U x y) (b : Below w.heap.size w w') : SpV w' m0 a0 l0 c0 m1 a1 l1 c1 a2 l2 c2 X Y U x y := ⟨h.1.below b, h.2.1.below b, h.2.2.1.below b, h.2.2.2⟩
theorem SpV.set6 {w : World} {n0 : Bool} {a0 : Option Addr} {l0 c0 : Nat} {n1 : Bool} {a1 : Option Addr} {l1 c1 : Nat} {a2 : Option Addr} {l2 c2 : Nat} {X Y U : Int} {rx ry : Rat} {m o p : Bool} {g : Nat} {a b d : Option Addr} {l c l3 c3 l4 c4 : Nat} {t : TypeId} (h : SpV w n0 a0 l0 c0 n1 a1 l1 c1 a2 l2 c2 X Y U rx ry) (hc : Cel w g [.bool m, .slice a l c, .bool o, .slice b l3 c3, .bool p, .slice d l4 c4] t) (x0 x1 x2 x3 x4 x5 : Value) : SpV ((((((w.setCell ⟨g, 0, none⟩ x0).setCell ⟨g, 1, none⟩ x1).setCell ⟨g, 2, none⟩ x2).setCell ⟨g, 3, none⟩ x3).setCell ⟨g, 4, none⟩ x4).setCell ⟨g, 5, none⟩ x5) n0 a0 l0 c0 n1 a1 l1 c1 a2 l2 c2 X Y U rx ry := ⟨h.1.set6 hc x0 x1 x2 x3 x4 x5, h.2.1.set6 hc x0 x1 x2 x3 x4 x5, h.2.2.1.set6 hc x0 x1 x2 x3 x4 x5, h.2.2.2⟩
theorem sharp_sign {X Y U X' Y' U' : Int} {x y x' y' : Rat} (h : Gm.Way X Y U x y) (h' : Gm.Way X' Y' U' x' y') : ((X * X' + Y * Y' + (X * X' + Y * Y')) * (X * X' + Y * Y' + (X * X' + Y * Y')) - (X * X + Y * Y) * (X' * X' + Y' * Y')).sign = Gm.sg (4 * ((x * x' + y * y') * (x * x' + y * y')) - (x * x + y * y) * (x' * x' + y' * y')) := by
 obtain ⟨hu, e1, e2⟩ := h
 obtain ⟨hv, e3, e4⟩ := h'
 refine Gm.sg_of (k := ((U : Rat) * U') * ((U : Rat) * U')) (Rat.mul_pos (Rat.mul_pos (Gm.upos hu) (Gm.upos hv)) (Rat.mul_pos (Gm.upos hu) (Gm.upos hv))) ?_
 simp only [Rat.intCast_sub, Rat.intCast_mul, Rat.intCast_add]
 rw [e1, e2, e3, e4]
 grind
theorem sharp_less {X Y U X' Y' U' : Int} {x y x' y' : Rat} (h : Gm.Way X Y U x y) (h' : Gm.Way X' Y' U' x' y') : (X * X + Y * Y) * (X' * X' + Y' * Y') < (X * X' + Y * Y' + (X * X' + Y * Y')) * (X * X' + Y * Y' + (X * X' + Y * Y')) ↔ 0 < Gm.sg (4 * ((x * x' + y * y') * (x * x' + y * y')) - (x * x + y * y) * (x' * x' + y' * y')) := by
 rw [← sharp_sign h h']
 generalize (X * X + Y * Y) * (X' * X' + Y' * Y') = p
 generalize (X * X' + Y * Y' + (X * X' + Y * Y')) * (X * X' + Y * Y' + (X * X' + Y * Y')) = q
 rw [show (0 < (q - p).sign) ↔ 0 < q - p from ⟨fun k => by rcases Int.lt_trichotomy (q - p) 0 with h | h | h; (rw [Int.sign_eq_neg_one_of_neg h] at k; omega); (rw [h] at k; exact absurd k (by decide)); exact h, fun k => by rw [Int.sign_eq_one_of_pos k]; decide⟩]
 omega
open Go.RowKit
theorem post_s1 {fn : Func} {p u : Tmp} {R : Ending → World → Prop} {a : Act} {w : World} {g : Nat} {x0 x1 x2 x3 x4 x5 v : Value} (h : fn.results = #[.cell p 74, .tmp u]) (hp : a.tmps.getD p undef = .pointer (some ⟨g, 0, none⟩)) (hu : a.tmps.getD u undef = v) (hd : a.defers = [])
  (hc : Cel w g [x0, x1, x2, x3, x4, x5] 74) (hR : R (.returned (.tuple #[.agg #[x0, x1, x2, x3, x4, x5], v])) w) : bodyPost Tryz.prog fn R .ret a w := by
 refine ⟨hd, .tuple #[.agg #[x0, x1, x2, x3, x4, x5], v], ?_, hR⟩
 have hp' : a.tmps[p]?.getD undef = .pointer (some ⟨g, 0, none⟩) := by simpa using hp
 have hu' : a.tmps[u]?.getD undef = v := by simpa using hu
 simp only [results, h]
 simp [Result.andThen, hp', hu', asAddr, load_s hc]
theorem nsize_any (n : Bool) (v : Value) (z : Int) (L : Nat) (w : World) (h : NV w n v z L) :
  Calls Tryz.prog 101 #[.agg #[.bool n, v]] w fun e w' => e = .returned (.agg #[.bool false, v]) ∧ NV w' false v z.natAbs L ∧ Below w.heap.size w w' := by
 have HA : Hid (∀ w1, Below w.heap.size w w1 → NV w1 false v z.natAbs L) := fun w1 b => by
  obtain ⟨k, r, hk, rfl⟩ := h.below b
  exact ⟨k, r, hk, by rw [natAbs_sgn]; rfl⟩
 obtain ⟨a, l, c, rfl⟩ := h.slice
 clear h
 go_enter Tryz.func101, Tryz.ntmps101
 go_wp2_with fail
 obtain ⟨w0, hw, k0, kr, bb⟩ := mk2 w [.bool n, .slice a l c] [.bool false, .slice a l c] 72 72
 rw [← hw]
 clear hw
 exact post_n (p := 2) (by kernel_rfl) rfl rfl kr ⟨rfl, HA.out _ bb, bb⟩
end Go.Proofs.YtiiigiggcbbgjaaGreatDoor
namespace Go.Proofs.YtiiigiggcbbgjaaGreatDoor
open Go.RowKit Go.Shelf
theorem rtimesI (x y : Rat) {K : Nat} (hK : K ≤ 4000) (bx : Bq x K) (bY : Bq y K) (w : World) :
  Calls Tryz.prog 69 #[.agg #[.bool (nfZ (x).num), .string (sfZ (x).num), .string (strOf (x).den)], .agg #[.bool (nfZ (y).num), .string (sfZ (y).num), .string (strOf (y).den)]] w (Re w (.agg #[.bool (nfZ (x * y).num), .string (sfZ (x * y).num), .string (strOf (x * y).den)])) := by
 have zx := bx.2.size
 have zy := bY.2.size
 have := rtimesq_any (nfZ x.num) (nfZ y.num) (sfZ x.num) (strOf x.den) (sfZ y.num) (strOf y.den) w (okQ_qI x) (okQ_qI y) hK bx.1.size (by simpa using zx) bY.1.size (by simpa using zy)
 rw [show qOf (nfZ x.num) (sfZ x.num) (strOf x.den) = x from qOf_qI x, show qOf (nfZ y.num) (sfZ y.num) (strOf y.den) = y from qOf_qI y] at this
 exact this
theorem rsumI (x y : Rat) {K : Nat} (hK : K ≤ 4000) (bx : Bq x K) (bY : Bq y K) (w : World) :
  Calls Tryz.prog 66 #[.agg #[.bool (nfZ (x).num), .string (sfZ (x).num), .string (strOf (x).den)], .agg #[.bool (nfZ (y).num), .string (sfZ (y).num), .string (strOf (y).den)]] w (Re w (.agg #[.bool (nfZ (x + y).num), .string (sfZ (x + y).num), .string (strOf (x + y).den)])) := by
 have zx := bx.2.size
 have zy := bY.2.size
 have := rsumq_any (nfZ x.num) (nfZ y.num) (sfZ x.num) (strOf x.den) (sfZ y.num) (strOf y.den) w (okQ_qI x) (okQ_qI y) hK bx.1.size (by simpa using zx) bY.1.size (by simpa using zy)
 rw [show qOf (nfZ x.num) (sfZ x.num) (strOf x.den) = x from qOf_qI x, show qOf (nfZ y.num) (sfZ y.num) (strOf y.den) = y from qOf_qI y] at this
 exact this
theorem rlessI (x y : Rat) {K : Nat} (hK : K ≤ 4000) (bx : Bq x K) (bY : Bq y K) (w : World) :
  Calls Tryz.prog 68 #[.agg #[.bool (nfZ (x).num), .string (sfZ (x).num), .string (strOf (x).den)], .agg #[.bool (nfZ (y).num), .string (sfZ (y).num), .string (strOf (y).den)]] w (Re w (.agg #[.bool (nfZ (x - y).num), .string (sfZ (x - y).num), .string (strOf (x - y).den)])) := by
 have zx := bx.2.size
 have zy := bY.2.size
 have := rlessq_any (nfZ x.num) (nfZ y.num) (sfZ x.num) (strOf x.den) (sfZ y.num) (strOf y.den) w (okQ_qI x) (okQ_qI y) hK bx.1.size (by simpa using zx) bY.1.size (by simpa using zy)
 rw [show qOf (nfZ x.num) (sfZ x.num) (strOf x.den) = x from qOf_qI x, show qOf (nfZ y.num) (sfZ y.num) (strOf y.den) = y from qOf_qI y] at this
 exact this
open Go.RowKit
theorem rlong_no (n : Bool) (s d : ByteArray) (w : World) (z : s.size ≤ 100 ∧ d.size ≤ 100) :
  Calls Tryz.prog 41 #[.agg #[.bool n, .string s, .string d]] w (Re w (.bool false)) := by
 have i0 : ¬ (100 : Int) < s.size := by omega
 have i1 : ¬ (100 : Int) < d.size := by omega
 go_enter Tryz.func41, Tryz.ntmps41
 go_wp2
 go_ret
 exact ⟨rfl, bel_al _ _⟩
theorem asked_walk (a : Option Addr) (n cap : Nat) (N N' : Nat → Bool) (S D S' D' : Nat → ByteArray) (c : Nat → Nat) (w : World) (hn : n ≤ 1000000) (h : RdPt w a n N S D N' S' D')
  (HZ : Hid (∀ k, k < n → (S k).size ≤ 100 ∧ (D k).size ≤ 100 ∧ (S' k).size ≤ 100 ∧ (D' k).size ≤ 100))
  (HC : Hid (∀ (k : Nat) (w1 : World), k < n → Calls Tryz.prog 42 #[.agg #[.bool (N k), .string (S k), .string (D k), .bool (N' k), .string (S' k), .string (D' k)]] w1 (Re w1 (.int .i64 (c k : Nat))))) :
  Calls Tryz.prog 9 #[.slice a n cap] w (Re w (.int .i64 (firstE c n : Nat))) := by
 replace h := shut h
 go_enter Tryz.func9, Tryz.ntmps9
 go_wp2
 go_loopw [3] (fun i wr => Below w.heap.size w wr ∧ ∃ k : Nat, k ≤ n ∧ i = .int .i64 k ∧ firstE c k = 0) (fun i _ => n - (intOf i).toNat)
 case atStart => exact ⟨Below.refl _ _, 0, by omega, rfl, rfl⟩
 case round =>
  obtain ⟨bb, k, hk, rfl, hz⟩ := hrel
  by_cases hkn : k < n
  ·obtain ⟨b, off, rfl, h0, h1, h2, h3, h4, h5⟩ := h.out.below bb k hkn
   go_wp2_with fail
   go_fit (rlong_no _ _ _ _ ⟨(HZ.out k hkn).1, (HZ.out k hkn).2.1⟩)
   rintro e w1 ⟨rfl, b1⟩
   replace bb := Below.after bb b1
   replace h0 := cell_below h0 b1
   replace h1 := cell_below h1 b1
   replace h2 := cell_below h2 b1
   replace h3 := cell_below h3 b1
   replace h4 := cell_below h4 b1
   replace h5 := cell_below h5 b1
   clear b1
   go_wp2_with fail
   go_fit (rlong_no _ _ _ _ ⟨(HZ.out k hkn).2.2.1, (HZ.out k hkn).2.2.2⟩)
   rintro e w2 ⟨rfl, b1⟩
   replace bb := Below.after bb b1
   replace h0 := cell_below h0 b1
   replace h1 := cell_below h1 b1
   replace h2 := cell_below h2 b1
   replace h3 := cell_below h3 b1
   replace h4 := cell_below h4 b1
   replace h5 := cell_below h5 b1
   clear b1
   go_wp2_with fail
   go_fit (HC.out k _ hkn)
   rintro e w3 ⟨rfl, b1⟩
   replace bb := Below.after bb b1
   clear b1 h0 h1 h2 h3 h4 h5
   by_cases hc : c k = 0
   ·have hs : firstE c (k + 1) = 0 := by unfold firstE; rw [if_pos hz, hc]
    replace hs := shut hs
    replace hz := shut hz
    rw [hc]
    go_wp2
    exact ⟨⟨bb, k + 1, by omega, by go_num, hs.out⟩, by simp [intOf]; omega⟩
   ·have hs := firstE_stop hz hc n hkn
    replace hs := shut hs
    replace hz := shut hz
    go_wp2
    go_ret
    exact ⟨by rw [hs.out]; rfl, bb⟩
  ·obtain rfl : k = n := by omega
   replace hz := shut hz
   go_wp2
   go_ret
   exact ⟨by rw [hz.out]; rfl, bb⟩
theorem asked3 (B : Nat) (n0 n1 n2 n3 n4 n5 : Bool) (s0 d0 s1 d1 s2 d2 s3 d3 s4 d4 s5 d5 : ByteArray) (w : World) (h : Cel w B [.bool n0, .string s0, .string d0, .bool n1, .string s1, .string d1, .bool n2, .string s2, .string d2, .bool n3, .string s3, .string d3, .bool n4, .string s4, .string d4, .bool n5, .string s5, .string d5] 28) (z0 : s0.size ≤ 100 ∧ d0.size ≤ 100) (z1 : s1.size ≤ 100 ∧ d1.size ≤ 100) (z2 : s2.size ≤ 100 ∧ d2.size ≤ 100) (z3 : s3.size ≤ 100 ∧ d3.size ≤ 100) (z4 : s4.size ≤ 100 ∧ d4.size ≤ 100) (z5 : s5.size ≤ 100 ∧ d5.size ≤ 100) :
  Calls Tryz.prog 9 #[.slice (some ⟨B, 0, none⟩) 3 3] w (Re w (.int .i64 (twoc (twoc (twoq n0 s0 d0 n1 s1 d1) (twoq n2 s2 d2 n3 s3 d3)) (twoq n4 s4 d4 n5 s5 d5) : Nat))) := by
 refine asked_walk (some ⟨B, 0, none⟩) 3 3 _ _ _ _ _ _ (f4 (twoq n0 s0 d0 n1 s1 d1) (twoq n2 s2 d2 n3 s3 d3) (twoq n4 s4 d4 n5 s5 d5) 0) w (by omega) (rdpt_3 h) (fun j hj => ?_) (fun j w1 hj => ?_)
 ·match j, hj with
  | 0, _ => exact ⟨z0.1, z0.2, z1.1, z1.2⟩
  | 1, _ => exact ⟨z2.1, z2.2, z3.1, z3.2⟩
  | 2, _ => exact ⟨z4.1, z4.2, z5.1, z5.2⟩
 ·match j, hj with
  | 0, _ => exact rchk4_any n0 n1 s0 d0 s1 d1 w1 (by omega) (by omega) (by omega) (by omega)
  | 1, _ => exact rchk4_any n2 n3 s2 d2 s3 d3 w1 (by omega) (by omega) (by omega) (by omega)
  | 2, _ => exact rchk4_any n4 n5 s4 d4 s5 d5 w1 (by omega) (by omega) (by omega) (by omega)
theorem rsignI (x : Rat) (w : World) : Calls Tryz.prog 64 #[.agg #[.bool (nfZ (x).num), .string (sfZ (x).num), .string (strOf (x).den)]] w (Re w (.int .i64 (Gm.sg x))) := by
 rcases Gm.sg_cases x with ⟨h, e⟩ | ⟨h, e⟩ | ⟨h, e⟩
 ·rw [e, h]
  exact rsign_zero _ w
 ·rw [e]
  have hp := Gm.num_pos h
  have h1 : nfZ x.num = false := by unfold nfZ; exact decide_eq_false (by omega)
  have h2 : (sfZ x.num).toList.isEmpty = false := by
   unfold sfZ
   rw [strOf_empty]
   exact decide_eq_false (by omega)
  rw [h1]
  exact rsign_pos _ _ h2 w
 ·rw [e]
  have hp := Gm.num_pos (q := -x) (by grind)
  rw [Rat.neg_num] at hp
  have h1 : nfZ x.num = true := by unfold nfZ; exact decide_eq_true (by omega)
  rw [h1]
  exact rsign_neg _ _ w
theorem rminusP (x y x' y' : Rat) {K : Nat} (hK : K ≤ 4000) (b0 : Bq x K) (b1 : Bq y K) (b2 : Bq x' K) (b3 : Bq y' K) (w : World) : Calls Tryz.prog 37 #[.agg #[.bool (nfZ (x).num), .string (sfZ (x).num), .string (strOf (x).den), .bool (nfZ (y).num), .string (sfZ (y).num), .string (strOf (y).den)], .agg #[.bool (nfZ (x').num), .string (sfZ (x').num), .string (strOf (x').den), .bool (nfZ (y').num), .string (sfZ (y').num), .string (strOf (y').den)]] w (Re w (.agg #[.bool (nfZ (x - x').num), .string (sfZ (x - x').num), .string (strOf (x - x').den), .bool (nfZ (y - y').num), .string (sfZ (y - y').num), .string (strOf (y - y').den)])) :=
 rminus4_walk _ _ _ _ _ _ _ _ _ _ _ _ _ _ _ _ _ _ w (fun w1 => rlessI x x' hK b0 b2 w1) (fun w1 => rlessI y y' hK b1 b3 w1)
theorem rcrossP (x y x' y' : Rat) {K : Nat} (hK : K + K + 1 ≤ 4000) (b0 : Bq x K) (b1 : Bq y K) (b2 : Bq x' K) (b3 : Bq y' K) (w : World) : Calls Tryz.prog 65 #[.agg #[.bool (nfZ (x).num), .string (sfZ (x).num), .string (strOf (x).den), .bool (nfZ (y).num), .string (sfZ (y).num), .string (strOf (y).den)], .agg #[.bool (nfZ (x').num), .string (sfZ (x').num), .string (strOf (x').den), .bool (nfZ (y').num), .string (sfZ (y').num), .string (strOf (y').den)]] w (Re w (.agg #[.bool (nfZ (x * y' - y * x').num), .string (sfZ (x * y' - y * x').num), .string (strOf (x * y' - y * x').den)])) :=
 rcross4_walk _ _ _ _ _ _ _ _ _ _ _ _ _ _ _ _ _ _ _ _ _ w (fun w1 => rtimesI x y' (K := K) (by omega) b0 b3 w1) (fun w1 => rtimesI y x' (K := K) (by omega) b1 b2 w1) (fun w1 => rlessI (x * y') (y * x') hK (vq_mul b0 b3) (vq_mul b1 b2) w1)
theorem rdotP (x y x' y' : Rat) {K : Nat} (hK : K + K + 1 ≤ 4000) (b0 : Bq x K) (b1 : Bq y K) (b2 : Bq x' K) (b3 : Bq y' K) (w : World) : Calls Tryz.prog 80 #[.agg #[.bool (nfZ (x).num), .string (sfZ (x).num), .string (strOf (x).den), .bool (nfZ (y).num), .string (sfZ (y).num), .string (strOf (y).den)], .agg #[.bool (nfZ (x').num), .string (sfZ (x').num), .string (strOf (x').den), .bool (nfZ (y').num), .string (sfZ (y').num), .string (strOf (y').den)]] w (Re w (.agg #[.bool (nfZ (x * x' + y * y').num), .string (sfZ (x * x' + y * y').num), .string (strOf (x * x' + y * y').den)])) :=
 rdot4_walk _ _ _ _ _ _ _ _ _ _ _ _ _ _ _ _ _ _ _ _ _ w (fun w1 => rtimesI x x' (K := K) (by omega) b0 b2 w1) (fun w1 => rtimesI y y' (K := K) (by omega) b1 b3 w1) (fun w1 => rsumI (x * x') (y * y') hK (vq_mul b0 b2) (vq_mul b1 b3) w1)
theorem rnormP (x y : Rat) {K : Nat} (hK : K + K + 1 ≤ 4000) (b0 : Bq x K) (b1 : Bq y K) (w : World) : Calls Tryz.prog 63 #[.agg #[.bool (nfZ (x).num), .string (sfZ (x).num), .string (strOf (x).den), .bool (nfZ (y).num), .string (sfZ (y).num), .string (strOf (y).den)]] w (Re w (.agg #[.bool (nfZ (x * x + y * y).num), .string (sfZ (x * x + y * y).num), .string (strOf (x * x + y * y).den)])) :=
 rnorm4_walk _ _ _ _ _ _ _ _ _ w (fun w1 => rdotP x y x y hK b0 b1 b0 b1 w1)
open Go.RowKit
theorem rmid_walk (n0 n1 n2 n3 : Bool) (s0 d0 s1 d1 s2 d2 s3 d3 : ByteArray) (u0 u3 : Bool) (u1 u2 u4 u5 : ByteArray) (kN : Bool) (kS kD : ByteArray) (r0 r3 : Bool) (r1 r2 r4 r5 : ByteArray) (w : World)
  (PL : Hid (∀ w1, Below w.heap.size w w1 → Calls Tryz.prog 35 #[.agg #[.bool n0, .string s0, .string d0, .bool n1, .string s1, .string d1], .agg #[.bool n2, .string s2, .string d2, .bool n3, .string s3, .string d3]] w1 (Re w1 (.agg #[.bool u0, .string u1, .string u2, .bool u3, .string u4, .string u5]))))
  (FC : Hid (∀ w1, Below w.heap.size w w1 → Calls Tryz.prog 38 #[.int .i64 1, .int .i64 2] w1 (Re w1 (.agg #[.bool kN, .string kS, .string kD]))))
  (SC : Hid (∀ w1, Below w.heap.size w w1 → Calls Tryz.prog 36 #[.agg #[.bool u0, .string u1, .string u2, .bool u3, .string u4, .string u5], .agg #[.bool kN, .string kS, .string kD]] w1 (Re w1 (.agg #[.bool r0, .string r1, .string r2, .bool r3, .string r4, .string r5])))) :
  Calls Tryz.prog 24 #[.agg #[.bool n0, .string s0, .string d0, .bool n1, .string s1, .string d1], .agg #[.bool n2, .string s2, .string d2, .bool n3, .string s3, .string d3]] w (Re w (.agg #[.bool r0, .string r1, .string r2, .bool r3, .string r4, .string r5])) := by
 go_enter Tryz.func24, Tryz.ntmps24
 go_wp2_with fail
 obtain ⟨w1, hw, ka, kb, kr, bb⟩ := mk3 w [.bool n0, .string s0, .string d0, .bool n1, .string s1, .string d1] [.bool n2, .string s2, .string d2, .bool n3, .string s3, .string d3] [.bool false, .string { data := #[] }, .string { data := #[] }, .bool false, .string { data := #[] }, .string { data := #[] }] 28 28 28
 rw [← hw]
 clear hw
 have tr := kr.lt
 obtain ⟨ca_0, ca_1, ca_2, ca_3, ca_4, ca_5⟩ := xk6 ka
 obtain ⟨cb_6, cb_7, cb_8, cb_9, cb_10, cb_11⟩ := xk6 kb
 go_wp2_with fail
 clear ca_0 ca_1 ca_2 ca_3 ca_4 ca_5 cb_6 cb_7 cb_8 cb_9 cb_10 cb_11
 go_fit (PL.out _ bb)
 rintro e w11 ⟨rfl, b1⟩
 have sz := b1.size
 replace ka := ka.below b1
 replace kb := kb.below b1
 replace kr := kr.below b1
 replace bb := Below.after bb b1
 clear b1
 go_wp2_with fail
 go_fit (FC.out _ bb)
 rintro e w12 ⟨rfl, b1⟩
 have sz := b1.size
 replace ka := ka.below b1
 replace kb := kb.below b1
 replace kr := kr.below b1
 replace bb := Below.after bb b1
 clear b1
 go_wp2_with fail
 go_fit (SC.out _ bb)
 rintro e w13 ⟨rfl, b1⟩
 have sz := b1.size
 replace ka := ka.below b1
 replace kb := kb.below b1
 replace kr := kr.below b1
 replace bb := Below.after bb b1
 clear b1
 obtain ⟨e0, e1, e2, e3, e4, e5⟩ := xk6 kr
 have f0 := Cel.frozen kr 0
 have f1 := Cel.frozen kr 1
 have f2 := Cel.frozen kr 2
 have f3 := Cel.frozen kr 3
 have f4 := Cel.frozen kr 4
 have f5 := Cel.frozen kr 5
 go_wp2
 exact post_p (p := 4) (by kernel_rfl) rfl rfl (kr.set6 _ _ _ _ _ _) ⟨rfl, bset6 bb (by omega) _ _ _ _ _ _⟩
end Go.Proofs.YtiiigiggcbbgjaaGreatDoor
