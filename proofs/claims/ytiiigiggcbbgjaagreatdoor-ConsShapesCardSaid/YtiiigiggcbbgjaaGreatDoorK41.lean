/-
  Package vec: check of points; pair; turned; the determinant of two rows.
  Package vec: turned; each; Plus, Minus, Scale, walked.
  Package vec: Plus, Minus, Scale, walked.
  Package vec: Plus, Minus, Scale, of any points.
  gussetref03's Of; gussetlaw04's at, short, small.
  Package vec: the determinant of two rows.
  How long sums and products of rational numbers get.
-/
import Derived.Laws.AppendOwnNone
import Derived.Lib.AppendZeros
import Derived.Lib.BufferGrow
import Derived.Test.YtiiigiggcbbgjaaGreatDoorK40
set_option maxRecDepth 100000
set_option maxHeartbeats 4000000
namespace Go.Proofs.YtiiigiggcbbgjaaGreatDoor
open Go.RowKit
theorem vcheck_any (a : Option Addr) (n cap : Nat) (N : Nat → Bool) (S D : Nat → ByteArray) (w : World) (hT : Tab w) (hn : n ≤ 1000000) (h : RdQ w a n N S D) :
  Calls Tryz.prog 94 #[.slice a n cap] w (Re w (.int .i64 (firstE (fun j => chkq (N j) (S j) (D j)) n : Nat))) :=
 vcheck_walk a n cap N S D _ w hn h (fun j w1 b => rchk_any (N j) (S j) (D j) w1 (hT.below b))
def f2 {α : Type} (x y : α) (j : Nat) : α := if j = 0 then x else y
def f4 {α : Type} (x y z u : α) (j : Nat) : α := if j = 0 then x else if j = 1 then y else if j = 2 then z else u
theorem rdq_2 {w : World} {B : Nat} {t : TypeId} {n0 n1 : Bool} {s0 d0 s1 d1 : ByteArray} (h : Cel w B [.bool n0, .string s0, .string d0, .bool n1, .string s1, .string d1] t) : RdQ w (some ⟨B, 0, none⟩) 2 (f2 n0 n1) (f2 s0 s1) (f2 d0 d1) := by
 intro j hj
 refine ⟨B, 0, rfl, ?_⟩
 match j, hj with
 | 0, _ => exact ⟨h.cell 0, h.cell 1, h.cell 2⟩
 | 1, _ => exact ⟨h.cell 3, h.cell 4, h.cell 5⟩
def twoc (a b : Nat) : Nat := if a = 0 then b else a
theorem two_zero {a b : Nat} : twoc a b = 0 ↔ a = 0 ∧ b = 0 := by
 unfold twoc
 by_cases h : a = 0
 ·rw [if_pos h]; exact ⟨fun e => ⟨h, e⟩, fun e => e.2⟩
 ·rw [if_neg h]; exact ⟨fun e => absurd e h, fun e => absurd e.1 h⟩
theorem vcheck2 (B : Nat) (n0 n1 : Bool) (s0 d0 s1 d1 : ByteArray) (w : World) (hT : Tab w) (h : Cel w B [.bool n0, .string s0, .string d0, .bool n1, .string s1, .string d1] 26) :
  Calls Tryz.prog 94 #[.slice (some ⟨B, 0, none⟩) 2 2] w (Re w (.int .i64 (twoq n0 s0 d0 n1 s1 d1 : Nat))) := by
 have := vcheck_any (some ⟨B, 0, none⟩) 2 2 _ _ _ w hT (by omega) (rdq_2 h)
 exact this
theorem vCheck_any (n0 n1 : Bool) (s0 d0 s1 d1 : ByteArray) (w : World) (hT : Tab w) :
  Calls Tryz.prog 90 #[.agg #[.bool n0, .string s0, .string d0, .bool n1, .string s1, .string d1]] w (Re w (.int .i64 (twoq n0 s0 d0 n1 s1 d1 : Nat))) := by
 replace hT := shut hT
 obtain ⟨E, hE⟩ : ∃ E, E = twoq n0 s0 d0 n1 s1 d1 := ⟨_, rfl⟩
 have H : Hid (∀ (B : Nat) (w1 : World), Below w.heap.size w w1 → Cel w1 B [.bool n0, .string s0, .string d0, .bool n1, .string s1, .string d1] 26 → Calls Tryz.prog 94 #[.slice (some ⟨B, 0, none⟩) 2 2] w1 (Re w1 (.int .i64 (E : Nat)))) := fun B w1 b k => by rw [hE]; exact vcheck2 B n0 n1 s0 d0 s1 d1 w1 (hT.out.below b) k
 rw [← hE]
 clear hE
 go_enter Tryz.func90, Tryz.ntmps90
 go_wp2_with fail
 obtain ⟨w1, hw, ka, kl, b1⟩ := mk2 w [.bool n0, .string s0, .string d0, .bool n1, .string s1, .string d1] [.bool n0, .string s0, .string d0, .bool n1, .string s1, .string d1] 28 26
 rw [← hw]
 clear hw
 go_fit (H.out _ _ b1 kl)
 rintro e w2 ⟨rfl, b2⟩
 go_wp2
 go_ret
 exact ⟨rfl, Below.after b1 b2⟩
theorem load6 {w : World} {g : Nat} {x y z x' y' z' : Value} (h : Cel w g [x, y, z, x', y', z'] 28) : (loadVar 28 ⟨g, 0, none⟩).run Tryz.prog w = .ok (.agg #[x, y, z, x', y', z']) w :=
 run_loadVar_row w g 28 28 #[x, y, z, x', y', z'] (0, 0) _ h Tryz.underlying28 rfl (by kernel_rfl)
theorem post_p {fn : Func} {p : Tmp} {R : Ending → World → Prop} {a : Act} {w : World} {g : Nat} {x y z x' y' z' : Value} (h : fn.results = #[.cell p 28]) (hp : a.tmps.getD p undef = .pointer (some ⟨g, 0, none⟩)) (hd : a.defers = [])
  (hc : Cel w g [x, y, z, x', y', z'] 28) (hR : R (.returned (.agg #[x, y, z, x', y', z'])) w) : bodyPost Tryz.prog fn R .ret a w := by
 refine ⟨hd, .agg #[x, y, z, x', y', z'], ?_, hR⟩
 exact results_cell_row (P := Tryz.prog) h _ w g 28 #[x, y, z, x', y', z'] (0, 0) _ hp hc Tryz.underlying28 rfl (by kernel_rfl)
theorem post_p1 {fn : Func} {p u : Tmp} {R : Ending → World → Prop} {a : Act} {w : World} {g : Nat} {x y z x' y' z' v : Value} (h : fn.results = #[.cell p 28, .tmp u]) (hp : a.tmps.getD p undef = .pointer (some ⟨g, 0, none⟩)) (hu : a.tmps.getD u undef = v) (hd : a.defers = [])
  (hc : Cel w g [x, y, z, x', y', z'] 28) (hR : R (.returned (.tuple #[.agg #[x, y, z, x', y', z'], v])) w) : bodyPost Tryz.prog fn R .ret a w := by
 refine ⟨hd, .tuple #[.agg #[x, y, z, x', y', z'], v], ?_, hR⟩
 rw [results_cell_tmp h, hp, hu]
 simp [asAddr, load6 hc, Result.andThen]
theorem cel6_0 {w : World} {g : Nat} {x y z x' y' z' : Value} {t : TypeId} (h : Cel w g [x, y, z, x', y', z'] t) : w.cell? ⟨g, 0, none⟩ = some x := h.cell 0
theorem cel6_1 {w : World} {g : Nat} {x y z x' y' z' : Value} {t : TypeId} (h : Cel w g [x, y, z, x', y', z'] t) : w.cell? ⟨g, 1, none⟩ = some y := h.cell 1
theorem cel6_2 {w : World} {g : Nat} {x y z x' y' z' : Value} {t : TypeId} (h : Cel w g [x, y, z, x', y', z'] t) : w.cell? ⟨g, 2, none⟩ = some z := h.cell 2
theorem cel6_3 {w : World} {g : Nat} {x y z x' y' z' : Value} {t : TypeId} (h : Cel w g [x, y, z, x', y', z'] t) : w.cell? ⟨g, 3, none⟩ = some x' := h.cell 3
theorem cel6_4 {w : World} {g : Nat} {x y z x' y' z' : Value} {t : TypeId} (h : Cel w g [x, y, z, x', y', z'] t) : w.cell? ⟨g, 4, none⟩ = some y' := h.cell 4
theorem cel6_5 {w : World} {g : Nat} {x y z x' y' z' : Value} {t : TypeId} (h : Cel w g [x, y, z, x', y', z'] t) : w.cell? ⟨g, 5, none⟩ = some z' := h.cell 5
theorem Cel.set6 {w : World} {g : Nat} {x y z x' y' z' : Value} {t : TypeId} (h : Cel w g [x, y, z, x', y', z'] t) (a b c d e f : Value) : Cel ((((((w.setCell ⟨g, 0, none⟩ a).setCell ⟨g, 1, none⟩ b).setCell ⟨g, 2, none⟩ c).setCell ⟨g, 3, none⟩ d).setCell ⟨g, 4, none⟩ e).setCell ⟨g, 5, none⟩ f) g [a, b, c, d, e, f] t :=
 (((((h.set 0 a).set 1 b).set 2 c).set 3 d).set 4 e).set 5 f
theorem bset6 {N : Nat} {w wn : World} {g : Nat} (b : Below N w wn) (h : N ≤ g) (x0 x1 x2 x3 x4 x5 : Value) : Below N w ((((((wn.setCell ⟨g, 0, none⟩ x0).setCell ⟨g, 1, none⟩ x1).setCell ⟨g, 2, none⟩ x2).setCell ⟨g, 3, none⟩ x3).setCell ⟨g, 4, none⟩ x4).setCell ⟨g, 5, none⟩ x5) :=
 bset (bset (bset (bset (bset (bset b h 0 x0) h 1 x1) h 2 x2) h 3 x3) h 4 x4) h 5 x5
theorem each_add_ok (n0 n1 n2 n3 xN yN : Bool) (s0 d0 s1 d1 s2 d2 s3 d3 xS xD yS yD : ByteArray) (w : World)
  (H1 : Hid (∀ w1, Below w.heap.size w w1 → Calls Tryz.prog 100 #[.agg #[.bool n0, .string s0, .string d0], .agg #[.bool n2, .string s2, .string d2]] w1 (Re w1 (.tuple #[.agg #[.bool xN, .string xS, .string xD], .int .i64 0]))))
  (H2 : Hid (∀ w1, Below w.heap.size w w1 → Calls Tryz.prog 100 #[.agg #[.bool n1, .string s1, .string d1], .agg #[.bool n3, .string s3, .string d3]] w1 (Re w1 (.tuple #[.agg #[.bool yN, .string yS, .string yD], .int .i64 0])))) :
  Calls Tryz.prog 93 #[.func (.func 100) #[] #[], .agg #[.bool n0, .string s0, .string d0, .bool n1, .string s1, .string d1], .agg #[.bool n2, .string s2, .string d2, .bool n3, .string s3, .string d3]] w (Re w (.tuple #[.agg #[.bool xN, .string xS, .string xD, .bool yN, .string yS, .string yD], .int .i64 0])) := by
 go_enter Tryz.func93, Tryz.ntmps93
 go_wp2_with fail
 go_fit (H1.out _ (ba (ba (ba (Below.refl _ _) _) _) _))
 rintro e w1 ⟨rfl, b1⟩
 obtain ⟨ka, kb, kr, b1⟩ := al3 b1
 have bb := b1
 clear b1
 obtain ⟨ca_0, ca_1, ca_2, ca_3, ca_4, ca_5⟩ := xk6 ka
 obtain ⟨cb_0, cb_1, cb_2, cb_3, cb_4, cb_5⟩ := xk6 kb
 obtain ⟨w2, hw, kx, b1⟩ := mk1 w1 [.bool xN, .string xS, .string xD] 26
 replace ka := ka.below b1
 replace kb := kb.below b1
 replace kr := kr.below b1
 replace bb := Below.after bb b1
 clear b1
 clear ca_0 ca_1 ca_2 ca_3 ca_4 ca_5
 clear cb_0 cb_1 cb_2 cb_3 cb_4 cb_5
 obtain ⟨ca_0, ca_1, ca_2, ca_3, ca_4, ca_5⟩ := xk6 ka
 obtain ⟨cb_0, cb_1, cb_2, cb_3, cb_4, cb_5⟩ := xk6 kb
 rw [hw] at ca_0 cb_0 ca_1 cb_1 ca_2 cb_2 ca_3 cb_3 ca_4 cb_4 ca_5 cb_5
 go_wp2_with fail
 rw [← hw]
 clear hw  ca_0 ca_1 ca_2 ca_3 ca_4 ca_5  cb_0 cb_1 cb_2 cb_3 cb_4 cb_5
 go_fit (H2.out _ bb)
 rintro e w3 ⟨rfl, b1⟩
 obtain ⟨w4, hw, ky, b2⟩ := mk1 w3 [.bool yN, .string yS, .string yD] 26
 replace b1 := Below.after b1 b2
 replace kx := kx.below b1
 replace kr := kr.below b1
 replace bb := Below.after bb b1
 obtain ⟨x0, x1, x2⟩ := xk3 kx
 have f0 := Cel.frozen kr 0
 have f1 := Cel.frozen kr 1
 have f2 := Cel.frozen kr 2
 have f3 := Cel.frozen kr 3
 have f4 := Cel.frozen kr 4
 have f5 := Cel.frozen kr 5
 obtain ⟨r0, r1, r2, r3, r4, r5⟩ := xk6 kr
 rw [hw] at x0 x1 x2 f0 f1 f2 f3 f4 f5 r0 r1 r2 r3 r4 r5
 go_wp2
 rw [← hw]
 exact post_p1 (p := 6) (u := 7) (v := .int .i64 0) (by kernel_rfl) rfl rfl rfl (kr.set6 _ _ _ _ _ _) ⟨rfl, bset6 bb (by omega) _ _ _ _ _ _⟩
theorem plus_walk (n0 n1 n2 n3 xN yN : Bool) (s0 d0 s1 d1 s2 d2 s3 d3 xS xD yS yD : ByteArray) (E : Int) (w : World)
  (H1 : Hid (∀ w1, Below w.heap.size w w1 → Calls Tryz.prog 93 #[.func (.func 100) #[] #[], .agg #[.bool n0, .string s0, .string d0, .bool n1, .string s1, .string d1], .agg #[.bool n2, .string s2, .string d2, .bool n3, .string s3, .string d3]] w1 (Re w1 (.tuple #[.agg #[.bool xN, .string xS, .string xD, .bool yN, .string yS, .string yD], .int .i64 E])))) :
  Calls Tryz.prog 53 #[.agg #[.bool n0, .string s0, .string d0, .bool n1, .string s1, .string d1], .agg #[.bool n2, .string s2, .string d2, .bool n3, .string s3, .string d3]] w (Re w (.tuple #[.agg #[.bool xN, .string xS, .string xD, .bool yN, .string yS, .string yD], .int .i64 E])) := by
 go_enter Tryz.func53, Tryz.ntmps53
 go_wp2_with fail
 go_fit (H1.out _ (ba (ba (ba (Below.refl _ _) _) _) _))
 rintro e w1 ⟨rfl, b1⟩
 obtain ⟨ka, kb, kr, b1⟩ := al3 b1
 have bb := b1
 clear b1
 have f0 := Cel.frozen kr 0
 have r0 := cel6_0 kr
 have f1 := Cel.frozen kr 1
 have r1 := cel6_1 kr
 have f2 := Cel.frozen kr 2
 have r2 := cel6_2 kr
 have f3 := Cel.frozen kr 3
 have r3 := cel6_3 kr
 have f4 := Cel.frozen kr 4
 have r4 := cel6_4 kr
 have f5 := Cel.frozen kr 5
 have r5 := cel6_5 kr
 go_wp2
 exact post_p1 (p := 4) (u := 5) (v := .int .i64 E) (by kernel_rfl) rfl rfl rfl (kr.set6 _ _ _ _ _ _) ⟨rfl, bset6 bb (by omega) _ _ _ _ _ _⟩
theorem qI_nz (q : Rat) : qI q = .agg #[.bool (nfZ q.num), .string (sfZ q.num), .string (strOf q.den)] := rfl
theorem vplus_ok (n0 n1 n2 n3 : Bool) (s0 d0 s1 d1 s2 d2 s3 d3 : ByteArray) (w : World) (hT : Tab w) (h : twoc (twoq n0 s0 d0 n1 s1 d1) (twoq n2 s2 d2 n3 s3 d3) = 0) (z0 : s0.size ≤ 4000 ∧ d0.size ≤ 4000) (z1 : s1.size ≤ 4000 ∧ d1.size ≤ 4000) (z2 : s2.size ≤ 4000 ∧ d2.size ≤ 4000) (z3 : s3.size ≤ 4000 ∧ d3.size ≤ 4000) :
  Calls Tryz.prog 53 #[.agg #[.bool n0, .string s0, .string d0, .bool n1, .string s1, .string d1], .agg #[.bool n2, .string s2, .string d2, .bool n3, .string s3, .string d3]] w (Re w (.tuple #[.agg #[.bool (nfZ (qOf n0 s0 d0 + qOf n2 s2 d2).num), .string (sfZ (qOf n0 s0 d0 + qOf n2 s2 d2).num), .string (strOf (qOf n0 s0 d0 + qOf n2 s2 d2).den), .bool (nfZ (qOf n1 s1 d1 + qOf n3 s3 d3).num), .string (sfZ (qOf n1 s1 d1 + qOf n3 s3 d3).num), .string (strOf (qOf n1 s1 d1 + qOf n3 s3 d3).den)], .int .i64 0])) := by
 obtain ⟨h0, h1⟩ := two_zero.1 h
 obtain ⟨c0, c1⟩ := twoq_zero.1 h0
 obtain ⟨c2, c3⟩ := twoq_zero.1 h1
 refine plus_walk n0 n1 n2 n3 _ _ s0 d0 s1 d1 s2 d2 s3 d3 _ _ _ _ 0 w (fun w1 b => ?_)
 refine each_add_ok n0 n1 n2 n3 _ _ s0 d0 s1 d1 s2 d2 s3 d3 _ _ _ _ w1 (fun w2 b2 => ?_) (fun w2 b2 => ?_)
 ·have := qadd_ok n0 n2 s0 d0 s2 d2 w2 ((hT.below b).below b2) (twoq_zero.2 ⟨c0, c2⟩) (Nat.le_refl 4000) z0.1 z0.2 z2.1 z2.2
  rwa [qI_nz] at this
 ·have := qadd_ok n1 n3 s1 d1 s3 d3 w2 ((hT.below b).below b2) (twoq_zero.2 ⟨c1, c3⟩) (Nat.le_refl 4000) z1.1 z1.2 z3.1 z3.2
  rwa [qI_nz] at this
theorem roq_walk (x : Int) (xN : Bool) (xS : ByteArray) (w : World)
  (H : Hid (∀ w1, Calls Tryz.prog 84 #[.int .i64 x] w1 (Re w1 (.agg #[.bool xN, .string xS])))) :
  Calls Tryz.prog 58 #[.int .i64 x] w (Re w (.agg #[.bool xN, .string xS, .string ⟨#[1]⟩])) := by
 go_enter Tryz.func58, Tryz.ntmps58
 go_wp2_with fail
 go_fit (H.out _)
 rintro e w1 ⟨rfl, b1⟩
 obtain ⟨kr, b1⟩ := al1 b1
 obtain ⟨d0, d1, d2⟩ := xk3 kr
 have f0 := Cel.frozen kr 0
 have f1 := Cel.frozen kr 1
 have f2 := Cel.frozen kr 2
 go_wp2
 exact post_q (p := 2) (by kernel_rfl) rfl rfl (((kr.set 0 _).set 1 _).set 2 _) ⟨rfl, bset (bset (bset b1 (Nat.le_refl _) 0 _) (Nat.le_refl _) 1 _) (Nat.le_refl _) 2 _⟩
theorem roq_any (x : Int) (h1 : -1000 ≤ x) (h2 : x ≤ 1000) (w : World) :
  Calls Tryz.prog 58 #[.int .i64 x] w (Re w (.agg #[.bool (nfZ x), .string (sfZ x), .string ⟨#[1]⟩])) :=
 roq_walk x _ _ w (fun w1 => rof_any x (by omega) (by omega) w1)
def m2 (x0 y0 x1 y1 : Rat) (i j : Nat) : Rat := f2 (f2 x0 y0 j) (f2 x1 y1 j) i
theorem vd_cast (a b : Nat) {k j : Nat} (ha : Bd (a : Int) k) (hb : Bd (b : Int) j) : Bd ((a * b : Nat) : Int) (k + j) := by
 rw [Int.natCast_mul]
 exact ha.mul hb
theorem vq_mk {z : Int} {m k : Nat} (hm : 0 < m) (hz : Bd z k) (hd : Bd (m : Int) k) : Bq (mkRat z m) k := by
 refine ⟨?_, ?_⟩
 ·rw [Q.num_mk hm]
  refine hz.div _ ?_
  rw [← Int.dvd_natAbs, Int.ofNat_dvd]
  exact Nat.gcd_dvd_left _ _
 ·rw [Q.den_mk hm]
  exact hd.nat (Nat.div_le_self _ _)
theorem vq_add {a b : Rat} {k : Nat} (ha : Bq a k) (hb : Bq b k) : Bq (a + b) (k + k + 1) := by
 rw [Rat.add_def']
 exact vq_mk (Nat.mul_pos a.den_pos b.den_pos) ((ha.1.mul hb.2).add (hb.1.mul ha.2)) ((vd_cast _ _ ha.2 hb.2).mono (by omega))
theorem vq_neg {a : Rat} {k : Nat} (ha : Bq a k) : Bq (-a) k := ⟨by rw [Rat.neg_num]; exact ha.1.neg, ha.2⟩
theorem vq_sub {a b : Rat} {k : Nat} (ha : Bq a k) (hb : Bq b k) : Bq (a - b) (k + k + 1) := by
 rw [Rat.sub_eq_add_neg]
 exact vq_add ha (vq_neg hb)
theorem vq_mul {a b : Rat} {k : Nat} (ha : Bq a k) (hb : Bq b k) : Bq (a * b) (k + k + 1) := by
 rw [Rat.mul_def']
 exact vq_mk (Nat.mul_pos a.den_pos b.den_pos) ((ha.1.mul hb.1).mono (by omega)) ((vd_cast _ _ ha.2 hb.2).mono (by omega))
end Go.Proofs.YtiiigiggcbbgjaaGreatDoor
