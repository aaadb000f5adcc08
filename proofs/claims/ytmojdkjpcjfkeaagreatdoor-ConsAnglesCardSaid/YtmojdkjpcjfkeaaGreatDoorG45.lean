/-
  gussetlaw06: at, short, small.
  Package span: how three points turn.
  gussetlaw06: ConsParts holds.
  Package geom, walked.
  Points compared.
  Package span: the size of a number; no way to a centre.
  The way to a centre: mathematics, and cells that are set.
  Package span: a number over two others.
  Package span: products of ways.
-/
import Derived.Test.YtmojdkjpcjfkeaaGreatDoorG42
import Derived.Test.YtmojdkjpcjfkeaaGreatDoorG44
set_option maxRecDepth 100000
set_option maxHeartbeats 8000000
namespace Go.Proofs.YtmojdkjpcjfkeaaGreatDoor
open Go.RowKit
theorem lat6_any (x y : Int) (h1 : -1000 ≤ x) (h2 : x ≤ 1000) (h3 : -1000 ≤ y) (h4 : y ≤ 1000) (w : World) :
  Calls Tryz.prog 54 #[.int .i64 x, .int .i64 y] w (Re w (.agg #[.bool (nfZ x), .string (sfZ x), .string ⟨#[1]⟩, .bool (nfZ y), .string (sfZ y), .string ⟨#[1]⟩])) := by
 have H1 := shut (fun w => roq_any x h1 h2 w)
 have H2 := shut (fun w => roq_any y h3 h4 w)
 clear h1 h2 h3 h4
 go_enter Tryz.func54, Tryz.ntmps54
 go_wp2_with fail
 go_fit (H1.out _)
 rintro e w1 ⟨rfl, b1⟩
 obtain ⟨kr, bb⟩ := al1 b1
 clear b1
 go_wp2_with fail
 go_fit (H2.out _)
 rintro e w2 ⟨rfl, b1⟩
 replace kr := kr.below b1
 replace bb := Below.after bb b1
 clear b1
 have f0 := Cel.frozen kr 0
 have f1 := Cel.frozen kr 1
 have f2 := Cel.frozen kr 2
 have f3 := Cel.frozen kr 3
 have f4 := Cel.frozen kr 4
 have f5 := Cel.frozen kr 5
 obtain ⟨r0, r1, r2, r3, r4, r5⟩ := xk6 kr
 go_wp2
 exact post_p (p := 4) (by kernel_rfl) rfl rfl (kr.set6 _ _ _ _ _ _) ⟨rfl, bset6 bb (Nat.le_refl _) _ _ _ _ _ _⟩
def sh6 (s d : ByteArray) : Bool := decide (s.size ≤ 60 ∧ d.size ≤ 60)
theorem short6_any (n : Bool) (s d : ByteArray) (w : World) :
  Calls Tryz.prog 34 #[.agg #[.bool n, .string s, .string d]] w (Re w (.bool (sh6 s d))) := by
 by_cases hs : s.size ≤ 60
 ·by_cases hd : d.size ≤ 60
  ·have e : Hid (sh6 s d = true) := decide_eq_true ⟨hs, hd⟩
   have i1 : (s.size : Int) ≤ 60 := by omega
   have i2 : (d.size : Int) ≤ 60 := by omega
   go_enter Tryz.func34, Tryz.ntmps34
   go_wp2
   go_ret
   exact ⟨by rw [e.out]; rfl, bel_al _ _⟩
  ·have e : Hid (sh6 s d = false) := decide_eq_false fun h => hd h.2
   have i1 : (s.size : Int) ≤ 60 := by omega
   have i2 : ¬ (d.size : Int) ≤ 60 := by omega
   go_enter Tryz.func34, Tryz.ntmps34
   go_wp2
   go_ret
   exact ⟨by rw [e.out]; rfl, bel_al _ _⟩
 ·have e : Hid (sh6 s d = false) := decide_eq_false fun h => hs h.1
  have i1 : ¬ (s.size : Int) ≤ 60 := by omega
  go_enter Tryz.func34, Tryz.ntmps34
  go_wp2
  go_ret
  exact ⟨by rw [e.out]; rfl, bel_al _ _⟩
theorem c18 {w : World} {g : Nat} {t : TypeId} {x0 x1 x2 x3 x4 x5 x6 x7 x8 x9 x10 x11 x12 x13 x14 x15 x16 x17 : Value} (h : Cel w g [x0, x1, x2, x3, x4, x5, x6, x7, x8, x9, x10, x11, x12, x13, x14, x15, x16, x17] t) : w.cell? ⟨g, 0, none⟩ = some x0 ∧ w.cell? ⟨g, 1, none⟩ = some x1 ∧ w.cell? ⟨g, 2, none⟩ = some x2 ∧ w.cell? ⟨g, 3, none⟩ = some x3 ∧ w.cell? ⟨g, 4, none⟩ = some x4 ∧ w.cell? ⟨g, 5, none⟩ = some x5 ∧ w.cell? ⟨g, 6, none⟩ = some x6 ∧ w.cell? ⟨g, 7, none⟩ = some x7 ∧ w.cell? ⟨g, 8, none⟩ = some x8 ∧ w.cell? ⟨g, 9, none⟩ = some x9 ∧ w.cell? ⟨g, 10, none⟩ = some x10 ∧ w.cell? ⟨g, 11, none⟩ = some x11 ∧ w.cell? ⟨g, 12, none⟩ = some x12 ∧ w.cell? ⟨g, 13, none⟩ = some x13 ∧ w.cell? ⟨g, 14, none⟩ = some x14 ∧ w.cell? ⟨g, 15, none⟩ = some x15 ∧ w.cell? ⟨g, 16, none⟩ = some x16 ∧ w.cell? ⟨g, 17, none⟩ = some x17 :=
 ⟨h.cell 0, h.cell 1, h.cell 2, h.cell 3, h.cell 4, h.cell 5, h.cell 6, h.cell 7, h.cell 8, h.cell 9, h.cell 10, h.cell 11, h.cell 12, h.cell 13, h.cell 14, h.cell 15, h.cell 16, h.cell 17⟩
theorem small6_walk (n0 n1 n2 n3 n4 n5 : Bool) (s0 d0 s1 d1 s2 d2 s3 d3 s4 d4 s5 d5 : ByteArray) (B0 B1 B2 B3 B4 B5 : Bool) (w : World)
  (H0 : Hid (∀ w1, Calls Tryz.prog 34 #[.agg #[.bool n0, .string s0, .string d0]] w1 (Re w1 (.bool B0))))
  (H1 : Hid (∀ w1, Calls Tryz.prog 34 #[.agg #[.bool n1, .string s1, .string d1]] w1 (Re w1 (.bool B1))))
  (H2 : Hid (∀ w1, Calls Tryz.prog 34 #[.agg #[.bool n2, .string s2, .string d2]] w1 (Re w1 (.bool B2))))
  (H3 : Hid (∀ w1, Calls Tryz.prog 34 #[.agg #[.bool n3, .string s3, .string d3]] w1 (Re w1 (.bool B3))))
  (H4 : Hid (∀ w1, Calls Tryz.prog 34 #[.agg #[.bool n4, .string s4, .string d4]] w1 (Re w1 (.bool B4))))
  (H5 : Hid (∀ w1, Calls Tryz.prog 34 #[.agg #[.bool n5, .string s5, .string d5]] w1 (Re w1 (.bool B5)))) :
  Calls Tryz.prog 16 #[.agg #[.bool n0, .string s0, .string d0, .bool n1, .string s1, .string d1, .bool n2, .string s2, .string d2, .bool n3, .string s3, .string d3, .bool n4, .string s4, .string d4, .bool n5, .string s5, .string d5]] w (Re w (.bool (B0 && (B1 && (B2 && (B3 && (B4 && B5))))))) := by
 go_enter Tryz.func16, Tryz.ntmps16
 go_wp2_with fail
 go_fit (H0.out _)
 rintro e w0 ⟨rfl, b1⟩
 obtain ⟨k, bb⟩ := al1 b1
 clear b1
 cases B0 with
 | false =>
  go_wp2
  go_ret
  exact ⟨by simp only [Bool.false_and]; rfl, bb⟩
 | true =>
 obtain ⟨c0, c1, c2, c3, c4, c5, c6, c7, c8, c9, c10, c11, c12, c13, c14, c15, c16, c17⟩ := c18 k
 go_wp2_with fail
 go_fit (H1.out _)
 rintro e w1 ⟨rfl, b1⟩
 replace k := k.below b1
 replace bb := Below.after bb b1
 clear b1
 clear c0 c1 c2 c3 c4 c5 c6 c7 c8 c9 c10 c11 c12 c13 c14 c15 c16 c17
 cases B1 with
 | false =>
  go_wp2
  go_ret
  exact ⟨by simp only [Bool.true_and, Bool.false_and]; rfl, bb⟩
 | true =>
 obtain ⟨c0, c1, c2, c3, c4, c5, c6, c7, c8, c9, c10, c11, c12, c13, c14, c15, c16, c17⟩ := c18 k
 go_wp2_with fail
 go_fit (H2.out _)
 rintro e w2 ⟨rfl, b1⟩
 replace k := k.below b1
 replace bb := Below.after bb b1
 clear b1
 clear c0 c1 c2 c3 c4 c5 c6 c7 c8 c9 c10 c11 c12 c13 c14 c15 c16 c17
 cases B2 with
 | false =>
  go_wp2
  go_ret
  exact ⟨by simp only [Bool.true_and, Bool.false_and]; rfl, bb⟩
 | true =>
 obtain ⟨c0, c1, c2, c3, c4, c5, c6, c7, c8, c9, c10, c11, c12, c13, c14, c15, c16, c17⟩ := c18 k
 go_wp2_with fail
 go_fit (H3.out _)
 rintro e w3 ⟨rfl, b1⟩
 replace k := k.below b1
 replace bb := Below.after bb b1
 clear b1
 clear c0 c1 c2 c3 c4 c5 c6 c7 c8 c9 c10 c11 c12 c13 c14 c15 c16 c17
 cases B3 with
 | false =>
  go_wp2
  go_ret
  exact ⟨by simp only [Bool.true_and, Bool.false_and]; rfl, bb⟩
 | true =>
 obtain ⟨c0, c1, c2, c3, c4, c5, c6, c7, c8, c9, c10, c11, c12, c13, c14, c15, c16, c17⟩ := c18 k
 go_wp2_with fail
 go_fit (H4.out _)
 rintro e w4 ⟨rfl, b1⟩
 replace k := k.below b1
 replace bb := Below.after bb b1
 clear b1
 clear c0 c1 c2 c3 c4 c5 c6 c7 c8 c9 c10 c11 c12 c13 c14 c15 c16 c17
 cases B4 with
 | false =>
  go_wp2
  go_ret
  exact ⟨by simp only [Bool.true_and, Bool.false_and]; rfl, bb⟩
 | true =>
 obtain ⟨c0, c1, c2, c3, c4, c5, c6, c7, c8, c9, c10, c11, c12, c13, c14, c15, c16, c17⟩ := c18 k
 go_wp2_with fail
 go_fit (H5.out _)
 rintro e w5 ⟨rfl, b1⟩
 replace k := k.below b1
 replace bb := Below.after bb b1
 clear b1
 clear c0 c1 c2 c3 c4 c5 c6 c7 c8 c9 c10 c11 c12 c13 c14 c15 c16 c17
 go_wp2
 go_ret
 exact ⟨by simp only [Bool.true_and]; rfl, bb⟩
theorem small6_any (n0 n1 n2 n3 n4 n5 : Bool) (s0 d0 s1 d1 s2 d2 s3 d3 s4 d4 s5 d5 : ByteArray) (w : World) :
  Calls Tryz.prog 16 #[.agg #[.bool n0, .string s0, .string d0, .bool n1, .string s1, .string d1, .bool n2, .string s2, .string d2, .bool n3, .string s3, .string d3, .bool n4, .string s4, .string d4, .bool n5, .string s5, .string d5]] w (Re w (.bool (sh6 s0 d0 && (sh6 s1 d1 && (sh6 s2 d2 && (sh6 s3 d3 && (sh6 s4 d4 && sh6 s5 d5))))))) :=
 small6_walk n0 n1 n2 n3 n4 n5 s0 d0 s1 d1 s2 d2 s3 d3 s4 d4 s5 d5 _ _ _ _ _ _ w (fun w1 => short6_any n0 s0 d0 w1) (fun w1 => short6_any n1 s1 d1 w1) (fun w1 => short6_any n2 s2 d2 w1) (fun w1 => short6_any n3 s3 d3 w1) (fun w1 => short6_any n4 s4 d4 w1) (fun w1 => short6_any n5 s5 d5 w1)
theorem load_s {w : World} {g : Nat} {x0 x1 x2 x3 x4 x5 : Value} (h : Cel w g [x0, x1, x2, x3, x4, x5] 78) : (loadVar 78 ⟨g, 0, none⟩).run Tryz.prog w = .ok (.agg #[x0, x1, x2, x3, x4, x5]) w :=
 run_loadVar_row w g 78 78 #[x0, x1, x2, x3, x4, x5] (0, 0) _ h Tryz.underlying78 rfl (by kernel_rfl)
theorem sh6_t {s d : ByteArray} (h : sh6 s d = true) : s.size ≤ 60 ∧ d.size ≤ 60 := of_decide_eq_true h
theorem le100 {s d : ByteArray} (h : s.size ≤ 60 ∧ d.size ≤ 60) : s.size ≤ 100 ∧ d.size ≤ 100 := ⟨by omega, by omega⟩
theorem mk5 (w : World) (c0 c1 c2 c3 c4 : List Value) (t0 t1 t2 t3 t4 : TypeId) : ∃ w', w' = ((((w.alloc (.cells c0.toArray t0)).alloc (.cells c1.toArray t1)).alloc (.cells c2.toArray t2)).alloc (.cells c3.toArray t3)).alloc (.cells c4.toArray t4) ∧ Cel w' w.heap.size c0 t0 ∧ Cel w' (w.heap.size + 1) c1 t1 ∧ Cel w' (w.heap.size + 1 + 1) c2 t2 ∧ Cel w' (w.heap.size + 1 + 1 + 1) c3 t3 ∧ Cel w' (w.heap.size + 1 + 1 + 1 + 1) c4 t4 ∧ Below w.heap.size w w' := by
 obtain ⟨v, hv, k0, k1, k2, k3, b⟩ := mk4 w c0 c1 c2 c3 t0 t1 t2 t3
 obtain ⟨u, hu, k4, b'⟩ := mk1 v c4 t4
 have hs : v.heap.size = w.heap.size + 1 + 1 + 1 + 1 := by rw [hv]; simp
 refine ⟨u, by rw [hu, hv], k0.below b', k1.below b', k2.below b', k3.below b', by rw [← hs]; exact k4, Below.after b b'⟩
theorem bytes_eq {a b : ByteArray} (h : a.toList = b.toList) : a = b := toList_inj (by rw [h]; exact BEq.rfl)
theorem run_peq (n0 n1 n2 n3 : Bool) (s0 d0 s1 d1 s2 d2 s3 d3 : ByteArray) (w : World) (hne : ¬ (n0 = n2 ∧ s0 = s2 ∧ d0 = d2 ∧ n1 = n3 ∧ s1 = s3 ∧ d1 = d3)) : (binOp .eql 28 (.agg #[.bool n0, .string s0, .string d0, .bool n1, .string s1, .string d1]) (.agg #[.bool n2, .string s2, .string d2, .bool n3, .string s3, .string d3])).run Tryz.prog w = .ok (.bool false) w := by
 go_simp
 intro a b c d e f
 exact hne ⟨a, bytes_eq b, bytes_eq c, d, bytes_eq e, bytes_eq f⟩
def SpV (w : World) (m0 : Bool) (a0 : Option Addr) (l0 c0 : Nat) (m1 : Bool) (a1 : Option Addr) (l1 c1 : Nat) (a2 : Option Addr) (l2 c2 : Nat) (X Y U : Int) (x y : Rat) : Prop := NV w m0 (.slice a0 l0 c0) X 53 ∧ NV w m1 (.slice a1 l1 c1) Y 53 ∧ NV w false (.slice a2 l2 c2) U 52 ∧ Gm.Way X Y U x y
theorem SpV.below {w w' : World} {m0 : Bool} {a0 : Option Addr} {l0 c0 : Nat} {m1 : Bool} {a1 : Option Addr} {l1 c1 : Nat} {a2 : Option Addr} {l2 c2 : Nat} {X Y U : Int} {x y : Rat} (h : SpV w m0 a0 l0 c0 m1 a1 l1 c1 a2 l2 c2 X Y U x y) (b : Below w.heap.size w w') : SpV w' m0 a0 l0 c0 m1 a1 l1 c1 a2 l2 c2 X Y U x y := ⟨h.1.below b, h.2.1.below b, h.2.2.1.below b, h.2.2.2⟩
theorem SpV.set6 {w : World} {n0 : Bool} {a0 : Option Addr} {l0 c0 : Nat} {n1 : Bool} {a1 : Option Addr} {l1 c1 : Nat} {a2 : Option Addr} {l2 c2 : Nat} {X Y U : Int} {rx ry : Rat} {m o p : Bool} {g : Nat} {a b d : Option Addr} {l c l3 c3 l4 c4 : Nat} {t : TypeId} (h : SpV w n0 a0 l0 c0 n1 a1 l1 c1 a2 l2 c2 X Y U rx ry) (hc : Cel w g [.bool m, .slice a l c, .bool o, .slice b l3 c3, .bool p, .slice d l4 c4] t) (x0 x1 x2 x3 x4 x5 : Value) : SpV ((((((w.setCell ⟨g, 0, none⟩ x0).setCell ⟨g, 1, none⟩ x1).setCell ⟨g, 2, none⟩ x2).setCell ⟨g, 3, none⟩ x3).setCell ⟨g, 4, none⟩ x4).setCell ⟨g, 5, none⟩ x5) n0 a0 l0 c0 n1 a1 l1 c1 a2 l2 c2 X Y U rx ry := ⟨h.1.set6 hc x0 x1 x2 x3 x4 x5, h.2.1.set6 hc x0 x1 x2 x3 x4 x5, h.2.2.1.set6 hc x0 x1 x2 x3 x4 x5, h.2.2.2⟩
theorem sharp_sign {X Y U X' Y' U' : Int} {x y x' y' : Rat} (h : Gm.Way X Y U x y) (h' : Gm.Way X' Y' U' x' y') : ((X * X' + Y * Y' + (X * X' + Y * Y')) * (X * X' + Y * Y' + (X * X' + Y * Y')) - (X * X + Y * Y) * (X' * X' + Y' * Y')).sign = Gm.sg (4 * ((x * x' + y * y') * (x * x' + y * y')) - (x * x + y * y) * (x' * x' + y' * y')) := by
 obtain ⟨hu, e1, e2⟩ := h
 obtain ⟨hv, e3, e4⟩ := h'
 refine Gm.sg_of (k := ((U : Rat) * U') * ((U : Rat) * U')) (Rat.mul_pos (Rat.mul_pos (Gm.upos hu) (Gm.upos hv)) (Rat.mul_pos (Gm.upos hu) (Gm.upos hv))) ?_
 simp only [Rat.intCast_sub, Rat.intCast_mul, Rat.intCast_add]
 rw [e1, e2, e3, e4]
 grind
theorem sharp_less {X Y U X' Y' U' : Int} {x y x' y' : Rat} (h : Gm.Way X Y U x y) (h' : Gm.Way X' Y' U' x' y') : (X * X + Y * Y) * (X' * X' + Y' * Y') < (X * X' + Y * Y' + (X * X' + Y * Y')) * (X * X' + Y * Y' + (X * X' + Y * Y')) ↔ 0 < Gm.sg (4 * ((x * x' + y * y') * (x * x' + y * y')) - (x * x + y * y) * (x' * x' + y' * y')) := by
 rw [← sharp_sign h h']
 generalize (X * X + Y * Y) * (X' * X' + Y' * Y') = p
 generalize (X * X' + Y * Y' + (X * X' + Y * Y')) * (X * X' + Y * Y' + (X * X' + Y * Y')) = q
 rw [show (0 < (q - p).sign) ↔ 0 < q - p from ⟨fun k => by rcases Int.lt_trichotomy (q - p) 0 with h | h | h; (rw [Int.sign_eq_neg_one_of_neg h] at k; omega); (rw [h] at k; exact absurd k (by decide)); exact h, fun k => by rw [Int.sign_eq_one_of_pos k]; decide⟩]
 omega
theorem post_s1 {fn : Func} {p u : Tmp} {R : Ending → World → Prop} {a : Act} {w : World} {g : Nat} {x0 x1 x2 x3 x4 x5 v : Value} (h : fn.results = #[.cell p 78, .tmp u]) (hp : a.tmps.getD p undef = .pointer (some ⟨g, 0, none⟩)) (hu : a.tmps.getD u undef = v) (hd : a.defers = [])
  (hc : Cel w g [x0, x1, x2, x3, x4, x5] 78) (hR : R (.returned (.tuple #[.agg #[x0, x1, x2, x3, x4, x5], v])) w) : bodyPost Tryz.prog fn R .ret a w := by
 refine ⟨hd, .tuple #[.agg #[x0, x1, x2, x3, x4, x5], v], ?_, hR⟩
 have hp' : a.tmps[p]?.getD undef = .pointer (some ⟨g, 0, none⟩) := by simpa using hp
 have hu' : a.tmps[u]?.getD undef = v := by simpa using hu
 simp only [results, h]
 simp [Result.andThen, hp', hu', asAddr, load_s hc]
theorem nsize_any (n : Bool) (v : Value) (z : Int) (L : Nat) (w : World) (h : NV w n v z L) :
  Calls Tryz.prog 130 #[.agg #[.bool n, v]] w fun e w' => e = .returned (.agg #[.bool false, v]) ∧ NV w' false v z.natAbs L ∧ Below w.heap.size w w' := by
 have HA : Hid (∀ w1, Below w.heap.size w w1 → NV w1 false v z.natAbs L) := fun w1 b => by
  obtain ⟨k, r, hk, rfl⟩ := h.below b
  exact ⟨k, r, hk, by rw [natAbs_sgn]; rfl⟩
 obtain ⟨a, l, c, rfl⟩ := h.slice
 clear h
 go_enter Tryz.func130, Tryz.ntmps130
 go_wp2_with fail
 obtain ⟨w0, hw, k0, kr, bb⟩ := mk2 w [.bool n, .slice a l c] [.bool false, .slice a l c] 76 76
 rw [← hw]
 clear hw
 exact post_n (p := 2) (by kernel_rfl) rfl rfl kr ⟨rfl, HA.out _ bb, bb⟩
theorem Gm.centre_one {a b c d U V x y z s r q : Rat} (ha : a = U * x) (hb : b = U * y) (hc : c = V * z) (hd : d = V * s) (hr : ((x * s - y * z) + (x * s - y * z)) * r = 1) (hq : q = (x * x + y * y) * s - (z * z + s * s) * y) :
  (a * a + b * b) * V * d - (c * c + d * d) * U * b = ((a * d - b * c) + (a * d - b * c)) * U * V * (q * r) := by
 subst ha hb hc hd hq
 grind
theorem Gm.centre_two {a b c d U V x y z s r q : Rat} (ha : a = U * x) (hb : b = U * y) (hc : c = V * z) (hd : d = V * s) (hr : ((x * s - y * z) + (x * s - y * z)) * r = 1) (hq : q = x * (z * z + s * s) - z * (x * x + y * y)) :
  a * ((c * c + d * d) * U) - c * ((a * a + b * b) * V) = ((a * d - b * c) + (a * d - b * c)) * U * V * (q * r) := by
 subst ha hb hc hd hq
 grind
theorem Gm.centre_way {X1 Y1 U1 X4 Y4 U4 : Int} {ux uy vx vy : Rat} (h1 : Gm.Way X1 Y1 U1 ux uy) (h4 : Gm.Way X4 Y4 U4 vx vy) (hA : ux * vy - uy * vx ≠ 0) {X Y : Int}
  (h : (X = ((X1 * X1 + Y1 * Y1) * U4) * Y4 - ((X4 * X4 + Y4 * Y4) * U1) * Y1 ∧ Y = X1 * ((X4 * X4 + Y4 * Y4) * U1) - X4 * ((X1 * X1 + Y1 * Y1) * U4) ∧ 0 ≤ X1 * Y4 - Y1 * X4) ∨ (X = -(((X1 * X1 + Y1 * Y1) * U4) * Y4 - ((X4 * X4 + Y4 * Y4) * U1) * Y1) ∧ Y = -(X1 * ((X4 * X4 + Y4 * Y4) * U1) - X4 * ((X1 * X1 + Y1 * Y1) * U4)) ∧ X1 * Y4 - Y1 * X4 ≤ 0)) :
  Gm.Way X Y ((((X1 * Y4 - Y1 * X4) + (X1 * Y4 - Y1 * X4)).natAbs : Int) * U1 * U4) (((ux * ux + uy * uy) * vy - (vx * vx + vy * vy) * uy) / ((ux * vy - uy * vx) + (ux * vy - uy * vx))) ((ux * (vx * vx + vy * vy) - vx * (ux * ux + uy * uy)) / ((ux * vy - uy * vx) + (ux * vy - uy * vx))) := by
 have p1 := Gm.upos h1.1
 have p4 := Gm.upos h4.1
 have hA2 : (ux * vy - uy * vx) + (ux * vy - uy * vx) ≠ 0 := by grind
 have hr := Rat.mul_inv_cancel _ hA2
 rw [Rat.div_def, Rat.div_def]
 have hne : X1 * Y4 - Y1 * X4 ≠ 0 := by
  intro e
  have e2 : ((X1 * Y4 - Y1 * X4 : Int) : Rat) = 0 := by rw [e]; rfl
  rw [Rat.intCast_sub, Rat.intCast_mul, Rat.intCast_mul, h1.2.1, h1.2.2, h4.2.1, h4.2.2] at e2
  have e3 : (U1 : Rat) * (U4 : Rat) * (ux * vy - uy * vx) = 0 := by grind
  rcases Rat.mul_eq_zero.1 e3 with h | h
  ·rcases Rat.mul_eq_zero.1 h with h | h <;> grind
  ·exact hA h
 have c1 := Gm.centre_one h1.2.1 h1.2.2 h4.2.1 h4.2.2 hr rfl
 have c2 := Gm.centre_two h1.2.1 h1.2.2 h4.2.1 h4.2.2 hr rfl
 generalize (ux * vy - uy * vx + (ux * vy - uy * vx))⁻¹ = r at *
 rcases h with ⟨rfl, rfl, h0⟩ | ⟨rfl, rfl, h0⟩
 ·have hn : (((X1 * Y4 - Y1 * X4) + (X1 * Y4 - Y1 * X4)).natAbs : Int) = (X1 * Y4 - Y1 * X4) + (X1 * Y4 - Y1 * X4) := by omega
  rw [hn]
  refine ⟨Int.mul_pos (Int.mul_pos (by omega) h1.1) h4.1, ?_, ?_⟩
  ·push_cast
   exact c1
  ·push_cast
   exact c2
 ·have hn : (((X1 * Y4 - Y1 * X4) + (X1 * Y4 - Y1 * X4)).natAbs : Int) = -((X1 * Y4 - Y1 * X4) + (X1 * Y4 - Y1 * X4)) := by omega
  rw [hn]
  refine ⟨Int.mul_pos (Int.mul_pos (by omega) h1.1) h4.1, ?_, ?_⟩
  ·push_cast
   rw [c1]
   grind
  ·push_cast
   rw [c2]
   grind
theorem NV.set1 {w : World} {n m : Bool} {v : Value} {z : Int} {L g : Nat} {a : Option Addr} {l c : Nat} {t : TypeId} (h : NV w n v z L) (hc : Cel w g [.bool m, .slice a l c] t) (x : Value) : NV (w.setCell ⟨g, 0, none⟩ x) n v z L := by
 obtain ⟨k, r, h1, h2⟩ := h
 exact ⟨k, ((rdx_of_cel r hc (no_ints2 _ _ _ _)).setX 0 x).rd, h1, h2⟩
theorem NV.flip {w : World} {n : Bool} {v : Value} {z : Int} {L : Nat} (h : NV w n v z L) : NV w (!n) v (-z) L := by
 obtain ⟨k, r, h1, rfl⟩ := h
 exact ⟨k, r, h1, by cases n <;> simp [sgn]⟩
theorem NV.pos {w : World} {v : Value} {z : Int} {L : Nat} (h : NV w false v z L) : 0 ≤ z := by
 obtain ⟨k, r, h1, rfl⟩ := h
 simp [sgn]
theorem NV.neg {w : World} {v : Value} {z : Int} {L : Nat} (h : NV w true v z L) : z ≤ 0 := by
 obtain ⟨k, r, h1, rfl⟩ := h
 simp [sgn]
theorem Cel.oth6 {w : World} {g g' : Nat} {cs : List Value} {t : TypeId} (h : Cel w g cs t) (hne : g ≠ g') (x0 x1 x2 x3 x4 x5 : Value) : Cel ((((((w.setCell ⟨g', 0, none⟩ x0).setCell ⟨g', 1, none⟩ x1).setCell ⟨g', 2, none⟩ x2).setCell ⟨g', 3, none⟩ x3).setCell ⟨g', 4, none⟩ x4).setCell ⟨g', 5, none⟩ x5) g cs t :=
 (((((h.other hne 0 x0).other hne 1 x1).other hne 2 x2).other hne 3 x3).other hne 4 x4).other hne 5 x5
theorem NV.bd {w : World} {n : Bool} {v : Value} {z : Int} {L K : Nat} (h : NV w n v z L) (hK : 8 * L ≤ K) : Bd z K := by
 obtain ⟨k, -, hk, rfl⟩ := h
 rw [B64_pow] at hk
 show (sgn n k).natAbs < _
 rw [natAbs_sgn]
 exact Nat.lt_of_lt_of_le hk (Nat.pow_le_pow_right (by omega) hK)
theorem rds_two {w : World} {g : Nat} {t : TypeId} {Z : Nat → Int} (h : Cells w g t 2 (fst' Z 2)) : RdS w (.slice (some ⟨g, 0, none⟩) 2 2) [sfZ (Z 0), sfZ (Z 1)] := by
 refine ⟨_, 2, rfl, Nat.le_refl _, fun j hj => ⟨g, 0, rfl, ?_⟩⟩
 have hj' : j < 2 := hj
 rw [Nat.zero_add, h.cell hj']
 match j, hj' with
 | 0, _ => rfl
 | 1, _ => rfl
def tw2 {α : Type} (x y : α) (j : Nat) : α := if j = 0 then x else y
theorem rdn_two {w : World} {B : Nat} {t : TypeId} {m1 m2 : Bool} {a1 a2 : Option Addr} {l1 c1 l2 c2 : Nat} (h : Cel w B [.bool m1, .slice a1 l1 c1, .bool m2, .slice a2 l2 c2] t) : RdN w (some ⟨B, 0, none⟩) 2 (tw2 m1 m2) (fun j => .slice (tw2 a1 a2 j) (tw2 l1 l2 j) (tw2 c1 c2 j)) := by
 intro j hj
 refine ⟨B, 0, rfl, ?_⟩
 match j, hj with
 | 0, _ => exact ⟨h.cell 0, h.cell 1⟩
 | 1, _ => exact ⟨h.cell 2, h.cell 3⟩
theorem nover2 (m0 m1 m2 : Bool) (v0 : Value) (a1 a2 : Option Addr) (l1 c1 l2 c2 : Nat) (z d1 d2 : Int) (L : Nat) (B : Nat) (w : World) (hT : Tab w) (hL : L ≤ 400) (p1 : 0 < d1) (p2 : 0 < d2)
  (n0 : NV w m0 v0 z L) (n1 : NV w m1 (.slice a1 l1 c1) d1 L) (n2 : NV w m2 (.slice a2 l2 c2) d2 L) (h : Cel w B [.bool m1, .slice a1 l1 c1, .bool m2, .slice a2 l2 c2] 76) :
  Calls Tryz.prog 62 #[.agg #[.bool m0, v0], .slice (some ⟨B, 0, none⟩) 2 2] w (Re w (.agg #[.bool (nfZ (mkRat z (d1.natAbs * d2.natAbs)).num), .string (sfZ (mkRat z (d1.natAbs * d2.natAbs)).num), .string (strOf (mkRat z (d1.natAbs * d2.natAbs)).den)])) := by
 refine over_walk m0 v0 _ 2 2 (tw2 m1 m2) (tw2 a1 a2) (tw2 l1 l2) (tw2 c1 c2) z (tw2 d1 d2) _ _ _ w (by omega) n0.slice (rdn_two h) (fun k w1 hk b => ?_) (fun w1 b => nint_any _ _ z L w1 (by omega) (n0.below b)) (fun g w1 b hc => ?_)
 ·match k, hk with
  | 0, _ => exact nint_any _ _ d1 L w1 (by omega) (n1.below b)
  | 1, _ => exact nint_any _ _ d2 L w1 (by omega) (n2.below b)
 ·have b0 := n0.bd (K := 4000) (by omega)
  have b1 := n1.bd (K := 4000) (by omega)
  have b2 := n2.bd (K := 4000) (by omega)
  have o1 : OkS (sfZ d1) ∧ 0 < natOf (sfZ d1) ∧ (sfZ d1).size ≤ 8000 := ⟨okS_sfZ d1, by rw [natOf_sfZ]; omega, Nat.le_trans b1.size (by omega)⟩
  have o2 : OkS (sfZ d2) ∧ 0 < natOf (sfZ d2) ∧ (sfZ d2).size ≤ 8000 := ⟨okS_sfZ d2, by rw [natOf_sfZ]; omega, Nat.le_trans b2.size (by omega)⟩
  have hm := b1.mul b2
  have := over_any z (.slice (some ⟨g, 0, none⟩) 2 2) [sfZ d1, sfZ d2] w1 (hT.below b) (rds_two hc) (by simp) (fun x hx => by rcases List.mem_cons.1 hx with rfl | hx; exact o1; rcases List.mem_cons.1 hx with rfl | hx; exact o2; cases hx) (K := 4000 + 4000) (by omega) (b0.mono (by omega)) (by
   show natOf (sfZ d1) * (natOf (sfZ d2) * 1) < _
   rw [Nat.mul_one, natOf_sfZ, natOf_sfZ, ← Int.natAbs_mul]
   exact hm)
  rw [show Dt.nprod ([sfZ d1, sfZ d2].map natOf) = d1.natAbs * d2.natAbs by show natOf (sfZ d1) * (natOf (sfZ d2) * 1) = _; rw [Nat.mul_one, natOf_sfZ, natOf_sfZ]] at this
  exact this
theorem sof_any (n0 n1 n2 n3 : Bool) (s0 d0 s1 d1 s2 d2 s3 d3 : ByteArray) (w : World) (o0 : OkQ n0 s0 d0) (o1 : OkQ n1 s1 d1) (o2 : OkQ n2 s2 d2) (o3 : OkQ n3 s3 d3) (z0 : s0.size ≤ 100 ∧ d0.size ≤ 100) (z1 : s1.size ≤ 100 ∧ d1.size ≤ 100) (z2 : s2.size ≤ 100 ∧ d2.size ≤ 100) (z3 : s3.size ≤ 100 ∧ d3.size ≤ 100) :
  Calls Tryz.prog 57 #[.agg #[.bool n0, .string s0, .string d0, .bool n1, .string s1, .string d1], .agg #[.bool n2, .string s2, .string d2, .bool n3, .string s3, .string d3]] w fun e w' => ∃ m0 a0 l0 c0 m1 a1 l1 c1 a2 l2 c2 X Y U, e = .returned (.agg #[.bool m0, .slice a0 l0 c0, .bool m1, .slice a1 l1 c1, .bool false, .slice a2 l2 c2]) ∧ NV w' m0 (.slice a0 l0 c0) X 53 ∧ NV w' m1 (.slice a1 l1 c1) Y 53 ∧ NV w' false (.slice a2 l2 c2) U 52 ∧ Gm.Way X Y U (qOf n2 s2 d2 - qOf n0 s0 d0) (qOf n3 s3 d3 - qOf n1 s1 d1) ∧ Below w.heap.size w w' :=
 sof_walk n0 n1 n2 n3 s0 d0 s1 d1 s2 d2 s3 d3 _ _ w (fun w1 => less_any n2 n0 s2 d2 s0 d0 w1 o2 o0 z2 z0) (fun w1 => less_any n3 n1 s3 d3 s1 d1 w1 o3 o1 z3 z1)
theorem scross_any (m0 m1 m2 m3 m4 m5 : Bool) (a0 a1 a2 a3 a4 a5 : Option Addr) (l0 c0 l1 c1 l2 c2 l3 c3 l4 c4 l5 c5 : Nat) (X Y X' Y' : Int) (L : Nat) (w : World) (hL : L ≤ 200) (nv0 : NV w m0 (.slice a0 l0 c0) X L) (nv1 : NV w m1 (.slice a1 l1 c1) Y L) (nv3 : NV w m3 (.slice a3 l3 c3) X' L) (nv4 : NV w m4 (.slice a4 l4 c4) Y' L) :
  Calls Tryz.prog 60 #[.agg #[.bool m0, .slice a0 l0 c0, .bool m1, .slice a1 l1 c1, .bool m2, .slice a2 l2 c2], .agg #[.bool m3, .slice a3 l3 c3, .bool m4, .slice a4 l4 c4, .bool m5, .slice a5 l5 c5]] w fun e w' => ∃ m u, e = .returned (.agg #[.bool m, u]) ∧ NV w' m u (X * Y' - Y * X') (L + L + 1) ∧ Below w.heap.size w w' := by
 go_enter Tryz.func60, Tryz.ntmps60
 go_wp2_with fail
 obtain ⟨w0, hw, ka, kb, kr, bb⟩ := mk3 w [.bool m0, .slice a0 l0 c0, .bool m1, .slice a1 l1 c1, .bool m2, .slice a2 l2 c2] [.bool m3, .slice a3 l3 c3, .bool m4, .slice a4 l4 c4, .bool m5, .slice a5 l5 c5] [.bool false, .slice none 0 0] 78 78 76
 rw [← hw]
 clear hw
 have tr := kr.lt
 replace nv0 := nv0.below bb
 replace nv1 := nv1.below bb
 replace nv3 := nv3.below bb
 replace nv4 := nv4.below bb
 have mkS : Hid (∀ w', Cel w' (w.heap.size) [.bool m0, .slice a0 l0 c0, .bool m1, .slice a1 l1 c1, .bool m2, .slice a2 l2 c2] 78 → Cel w' (w.heap.size + 1) [.bool m3, .slice a3 l3 c3, .bool m4, .slice a4 l4 c4, .bool m5, .slice a5 l5 c5] 78 → (xc6 w' w.heap.size (.bool m0) (.slice a0 l0 c0) (.bool m1) (.slice a1 l1 c1) (.bool m2) (.slice a2 l2 c2) ∧ xc6 w' (w.heap.size + 1) (.bool m3) (.slice a3 l3 c3) (.bool m4) (.slice a4 l4 c4) (.bool m5) (.slice a5 l5 c5))) := fun w' ha hb => ⟨xk6 ha, xk6 hb⟩
 have qar : w.heap.size ≠ w.heap.size + 1 + 1 := by omega
 have qbr : w.heap.size + 1 ≠ w.heap.size + 1 + 1 := by omega
 go_region_held3 (fun w' => xc6 w' w.heap.size (.bool m0) (.slice a0 l0 c0) (.bool m1) (.slice a1 l1 c1) (.bool m2) (.slice a2 l2 c2) ∧ xc6 w' (w.heap.size + 1) (.bool m3) (.slice a3 l3 c3) (.bool m4) (.slice a4 l4 c4) (.bool m5) (.slice a5 l5 c5)) (first | with_reducible exact mkS.out _ ka kb | with_reducible exact mkS.out _ (Cel.other (Cel.other ka qar 0 _) qar 1 _) (Cel.other (Cel.other kb qbr 0 _) qbr 1 _) | exact mkS.out _ ka kb) (first | (go_at_call 61; go_fit (ntimes_any _ _ _ _ X Y' L L _ (by omega) (by omega) ?_ ?_); (first | exact nv0 | exact nv0.drew); (first | exact nv4 | exact nv4.drew); rintro e wn ⟨m6, v6, rfl, nv6, -, bn⟩; obtain ⟨a6, l6, c6, rfl⟩ := nv6.slice; replace ka := ka.below (un bn); replace kb := kb.below (un bn); replace kr := kr.below (un bn); (try replace nv0 := nv0.below (un bn)); (try replace nv1 := nv1.below (un bn)); (try replace nv3 := nv3.below (un bn)); (try replace nv4 := nv4.below (un bn)); (try replace nv7 := nv7.below (un bn)); replace bb := Below.after bb (un bn)) | (go_at_call 61; go_fit (ntimes_any _ _ _ _ Y X' L L _ (by omega) (by omega) ?_ ?_); (first | exact nv1 | exact nv1.drew); (first | exact nv3 | exact nv3.drew); rintro e wn ⟨m7, v7, rfl, nv7, -, bn⟩; obtain ⟨a7, l7, c7, rfl⟩ := nv7.slice; replace ka := ka.below (un bn); replace kb := kb.below (un bn); replace kr := kr.below (un bn); (try replace nv0 := nv0.below (un bn)); (try replace nv1 := nv1.below (un bn)); (try replace nv3 := nv3.below (un bn)); (try replace nv4 := nv4.below (un bn)); (try replace nv6 := nv6.below (un bn)); replace bb := Below.after bb (un bn)) | (go_at_call 68; go_fit (nminus_any _ _ _ _ (X * Y') (Y * X') (L + L) _ (by omega) ?_ ?_); (first | exact nv6 | exact nv6.drew); (first | exact nv7 | exact nv7.drew); rintro e wn ⟨m8, v8, rfl, nv8, bn⟩; obtain ⟨a8, l8, c8, rfl⟩ := nv8.slice; replace ka := ka.below (un bn); replace kb := kb.below (un bn); replace kr := kr.below (un bn); (try replace nv0 := nv0.below (un bn)); (try replace nv1 := nv1.below (un bn)); (try replace nv3 := nv3.below (un bn)); (try replace nv4 := nv4.below (un bn)); (try replace nv6 := nv6.below (un bn)); (try replace nv7 := nv7.below (un bn)); replace bb := Below.after bb (un bn); have er0 := cel2_0 kr; have fr0 := Cel.frozen kr 0; have er1 := cel2_1 kr; have fr1 := Cel.frozen kr 1))
 replace nv8 := shut nv8
 go_wp2
 exact post_n (p := 4) (by kernel_rfl) rfl rfl ((kr.set 0 _).set 1 _) ⟨_, _, rfl, nv8.out.set2 kr _ _, bset (bset bb (by omega) 0 _) (by omega) 1 _⟩
theorem sdot_any (m0 m1 m2 m3 m4 m5 : Bool) (a0 a1 a2 a3 a4 a5 : Option Addr) (l0 c0 l1 c1 l2 c2 l3 c3 l4 c4 l5 c5 : Nat) (X Y X' Y' : Int) (L : Nat) (w : World) (hL : L ≤ 200) (nv0 : NV w m0 (.slice a0 l0 c0) X L) (nv1 : NV w m1 (.slice a1 l1 c1) Y L) (nv3 : NV w m3 (.slice a3 l3 c3) X' L) (nv4 : NV w m4 (.slice a4 l4 c4) Y' L) :
  Calls Tryz.prog 58 #[.agg #[.bool m0, .slice a0 l0 c0, .bool m1, .slice a1 l1 c1, .bool m2, .slice a2 l2 c2], .agg #[.bool m3, .slice a3 l3 c3, .bool m4, .slice a4 l4 c4, .bool m5, .slice a5 l5 c5]] w fun e w' => ∃ m u, e = .returned (.agg #[.bool m, u]) ∧ NV w' m u (X * X' + Y * Y') (L + L + 1) ∧ Below w.heap.size w w' := by
 go_enter Tryz.func58, Tryz.ntmps58
 go_wp2_with fail
 obtain ⟨w0, hw, ka, kb, kr, bb⟩ := mk3 w [.bool m0, .slice a0 l0 c0, .bool m1, .slice a1 l1 c1, .bool m2, .slice a2 l2 c2] [.bool m3, .slice a3 l3 c3, .bool m4, .slice a4 l4 c4, .bool m5, .slice a5 l5 c5] [.bool false, .slice none 0 0] 78 78 76
 rw [← hw]
 clear hw
 have tr := kr.lt
 replace nv0 := nv0.below bb
 replace nv1 := nv1.below bb
 replace nv3 := nv3.below bb
 replace nv4 := nv4.below bb
 have mkS : Hid (∀ w', Cel w' (w.heap.size) [.bool m0, .slice a0 l0 c0, .bool m1, .slice a1 l1 c1, .bool m2, .slice a2 l2 c2] 78 → Cel w' (w.heap.size + 1) [.bool m3, .slice a3 l3 c3, .bool m4, .slice a4 l4 c4, .bool m5, .slice a5 l5 c5] 78 → (xc6 w' w.heap.size (.bool m0) (.slice a0 l0 c0) (.bool m1) (.slice a1 l1 c1) (.bool m2) (.slice a2 l2 c2) ∧ xc6 w' (w.heap.size + 1) (.bool m3) (.slice a3 l3 c3) (.bool m4) (.slice a4 l4 c4) (.bool m5) (.slice a5 l5 c5))) := fun w' ha hb => ⟨xk6 ha, xk6 hb⟩
 have qar : w.heap.size ≠ w.heap.size + 1 + 1 := by omega
 have qbr : w.heap.size + 1 ≠ w.heap.size + 1 + 1 := by omega
 go_region_held3 (fun w' => xc6 w' w.heap.size (.bool m0) (.slice a0 l0 c0) (.bool m1) (.slice a1 l1 c1) (.bool m2) (.slice a2 l2 c2) ∧ xc6 w' (w.heap.size + 1) (.bool m3) (.slice a3 l3 c3) (.bool m4) (.slice a4 l4 c4) (.bool m5) (.slice a5 l5 c5)) (first | with_reducible exact mkS.out _ ka kb | with_reducible exact mkS.out _ (Cel.other (Cel.other ka qar 0 _) qar 1 _) (Cel.other (Cel.other kb qbr 0 _) qbr 1 _) | exact mkS.out _ ka kb) (first | (go_at_call 61; go_fit (ntimes_any _ _ _ _ X X' L L _ (by omega) (by omega) ?_ ?_); (first | exact nv0 | exact nv0.drew); (first | exact nv3 | exact nv3.drew); rintro e wn ⟨m6, v6, rfl, nv6, -, bn⟩; obtain ⟨a6, l6, c6, rfl⟩ := nv6.slice; replace ka := ka.below (un bn); replace kb := kb.below (un bn); replace kr := kr.below (un bn); (try replace nv0 := nv0.below (un bn)); (try replace nv1 := nv1.below (un bn)); (try replace nv3 := nv3.below (un bn)); (try replace nv4 := nv4.below (un bn)); (try replace nv7 := nv7.below (un bn)); replace bb := Below.after bb (un bn)) | (go_at_call 61; go_fit (ntimes_any _ _ _ _ Y Y' L L _ (by omega) (by omega) ?_ ?_); (first | exact nv1 | exact nv1.drew); (first | exact nv4 | exact nv4.drew); rintro e wn ⟨m7, v7, rfl, nv7, -, bn⟩; obtain ⟨a7, l7, c7, rfl⟩ := nv7.slice; replace ka := ka.below (un bn); replace kb := kb.below (un bn); replace kr := kr.below (un bn); (try replace nv0 := nv0.below (un bn)); (try replace nv1 := nv1.below (un bn)); (try replace nv3 := nv3.below (un bn)); (try replace nv4 := nv4.below (un bn)); (try replace nv6 := nv6.below (un bn)); replace bb := Below.after bb (un bn)) | (go_at_call 67; go_fit (nplus_any _ _ _ _ (X * X') (Y * Y') (L + L) _ (by omega) ?_ ?_); (first | exact nv6 | exact nv6.drew); (first | exact nv7 | exact nv7.drew); rintro e wn ⟨m8, v8, rfl, nv8, bn⟩; obtain ⟨a8, l8, c8, rfl⟩ := nv8.slice; replace ka := ka.below (un bn); replace kb := kb.below (un bn); replace kr := kr.below (un bn); (try replace nv0 := nv0.below (un bn)); (try replace nv1 := nv1.below (un bn)); (try replace nv3 := nv3.below (un bn)); (try replace nv4 := nv4.below (un bn)); (try replace nv6 := nv6.below (un bn)); (try replace nv7 := nv7.below (un bn)); replace bb := Below.after bb (un bn); have er0 := cel2_0 kr; have fr0 := Cel.frozen kr 0; have er1 := cel2_1 kr; have fr1 := Cel.frozen kr 1))
 replace nv8 := shut nv8
 go_wp2
 exact post_n (p := 4) (by kernel_rfl) rfl rfl ((kr.set 0 _).set 1 _) ⟨_, _, rfl, nv8.out.set2 kr _ _, bset (bset bb (by omega) 0 _) (by omega) 1 _⟩
theorem ssquare_any (m0 m1 m2 : Bool) (a0 a1 a2 : Option Addr) (l0 c0 l1 c1 l2 c2 : Nat) (X Y : Int) (L : Nat) (w : World) (hL : L ≤ 200) (nv0 : NV w m0 (.slice a0 l0 c0) X L) (nv1 : NV w m1 (.slice a1 l1 c1) Y L) :
  Calls Tryz.prog 63 #[.agg #[.bool m0, .slice a0 l0 c0, .bool m1, .slice a1 l1 c1, .bool m2, .slice a2 l2 c2]] w fun e w' => ∃ m u, e = .returned (.agg #[.bool m, u]) ∧ NV w' m u (X * X + Y * Y) (L + L + 1) ∧ Below w.heap.size w w' := by
 go_enter Tryz.func63, Tryz.ntmps63
 go_wp2_with fail
 obtain ⟨w0, hw, ka, kr, bb⟩ := mk2 w [.bool m0, .slice a0 l0 c0, .bool m1, .slice a1 l1 c1, .bool m2, .slice a2 l2 c2] [.bool false, .slice none 0 0] 78 76
 rw [← hw]
 clear hw
 have tr := kr.lt
 go_fit (sdot_any _ _ _ _ _ _ _ _ _ _ _ _ _ _ _ _ _ _ _ _ _ _ _ _ X Y X Y L _ hL (nv0.below bb) (nv1.below bb) (nv0.below bb) (nv1.below bb))
 rintro e w1 ⟨m8, v8, rfl, nv8, b1⟩
 obtain ⟨a8, l8, c8, rfl⟩ := nv8.slice
 replace kr := kr.below b1
 replace bb := Below.after bb b1
 clear b1
 obtain ⟨e0, e1⟩ := xk2 kr
 have f0 := Cel.frozen kr 0
 have f1 := Cel.frozen kr 1
 replace nv8 := shut nv8
 go_wp2
 exact post_n (p := 2) (by kernel_rfl) rfl rfl ((kr.set 0 _).set 1 _) ⟨_, _, rfl, nv8.out.set2 kr _ _, bset (bset bb (by omega) 0 _) (by omega) 1 _⟩
end Go.Proofs.YtmojdkjpcjfkeaaGreatDoor
