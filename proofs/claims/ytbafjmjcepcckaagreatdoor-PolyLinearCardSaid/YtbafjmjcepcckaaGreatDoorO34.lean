/-
  Package vec: check of points; pair; turned; the determinant of two rows.
  gussetref03's Of; gussetlaw04's at, short, small.
  Package vec: the determinant of two rows.
  Package vec: turned; each; Plus, Minus, Scale, walked.
  How long sums and products of rational numbers get.
-/
import Derived.Test.YtbafjmjcepcckaaGreatDoorO32
set_option maxRecDepth 100000
set_option maxHeartbeats 2000000
namespace Go.Proofs.YtbafjmjcepcckaaGreatDoor
open Go.RowKit
theorem vcheck_any (a : Option Addr) (n cap : Nat) (N : Nat → Bool) (S D : Nat → ByteArray) (w : World) (hT : Tab w) (hn : n ≤ 1000000) (h : RdQ w a n N S D) :
  Calls Tryz.prog 165 #[.slice a n cap] w (Re w (.int .i64 (firstE (fun j => chkq (N j) (S j) (D j)) n : Nat))) :=
 vcheck_walk a n cap N S D _ w hn h (fun j w1 b => rchk_any (N j) (S j) (D j) w1 (hT.below b))
def f2 {α : Type} (x y : α) (j : Nat) : α := if j = 0 then x else y
def f4 {α : Type} (x y z u : α) (j : Nat) : α := if j = 0 then x else if j = 1 then y else if j = 2 then z else u
theorem rdq_2 {w : World} {B : Nat} {t : TypeId} {n0 n1 : Bool} {s0 d0 s1 d1 : ByteArray} (h : Cel w B [.bool n0, .string s0, .string d0, .bool n1, .string s1, .string d1] t) : RdQ w (some ⟨B, 0, none⟩) 2 (f2 n0 n1) (f2 s0 s1) (f2 d0 d1) := by
 intro j hj
 refine ⟨B, 0, rfl, ?_⟩
 match j, hj with
 | 0, _ => exact ⟨h.cell 0, h.cell 1, h.cell 2⟩
 | 1, _ => exact ⟨h.cell 3, h.cell 4, h.cell 5⟩
def two (a b : Nat) : Nat := if a = 0 then b else a
theorem two_zero {a b : Nat} : two a b = 0 ↔ a = 0 ∧ b = 0 := by
 unfold two
 by_cases h : a = 0
 ·rw [if_pos h]; exact ⟨fun e => ⟨h, e⟩, fun e => e.2⟩
 ·rw [if_neg h]; exact ⟨fun e => absurd e h, fun e => absurd e.1 h⟩
theorem vcheck2 (B : Nat) (n0 n1 : Bool) (s0 d0 s1 d1 : ByteArray) (w : World) (hT : Tab w) (h : Cel w B [.bool n0, .string s0, .string d0, .bool n1, .string s1, .string d1] 26) :
  Calls Tryz.prog 165 #[.slice (some ⟨B, 0, none⟩) 2 2] w (Re w (.int .i64 (twoq n0 s0 d0 n1 s1 d1 : Nat))) := by
 have := vcheck_any (some ⟨B, 0, none⟩) 2 2 _ _ _ w hT (by omega) (rdq_2 h)
 exact this
theorem vCheck_any (n0 n1 : Bool) (s0 d0 s1 d1 : ByteArray) (w : World) (hT : Tab w) :
  Calls Tryz.prog 141 #[.agg #[.bool n0, .string s0, .string d0, .bool n1, .string s1, .string d1]] w (Re w (.int .i64 (twoq n0 s0 d0 n1 s1 d1 : Nat))) := by
 replace hT := shut hT
 obtain ⟨E, hE⟩ : ∃ E, E = twoq n0 s0 d0 n1 s1 d1 := ⟨_, rfl⟩
 have H : Hid (∀ (B : Nat) (w1 : World), Below w.heap.size w w1 → Cel w1 B [.bool n0, .string s0, .string d0, .bool n1, .string s1, .string d1] 26 → Calls Tryz.prog 165 #[.slice (some ⟨B, 0, none⟩) 2 2] w1 (Re w1 (.int .i64 (E : Nat)))) := fun B w1 b k => by rw [hE]; exact vcheck2 B n0 n1 s0 d0 s1 d1 w1 (hT.out.below b) k
 rw [← hE]
 clear hE
 go_enter Tryz.func141, Tryz.ntmps141
 go_wp2_with fail
 obtain ⟨w1, hw, ka, kl, b1⟩ := mk2 w [.bool n0, .string s0, .string d0, .bool n1, .string s1, .string d1] [.bool n0, .string s0, .string d0, .bool n1, .string s1, .string d1] 30 26
 rw [← hw]
 clear hw
 go_fit (H.out _ _ b1 kl)
 rintro e w2 ⟨rfl, b2⟩
 go_wp2
 go_ret
 exact ⟨rfl, Below.after b1 b2⟩
theorem roq_walk (x : Int) (xN : Bool) (xS : ByteArray) (w : World)
  (H : Hid (∀ w1, Calls Tryz.prog 48 #[.int .i64 x] w1 (Re w1 (.agg #[.bool xN, .string xS])))) :
  Calls Tryz.prog 23 #[.int .i64 x] w (Re w (.agg #[.bool xN, .string xS, .string ⟨#[1]⟩])) := by
 go_enter Tryz.func23, Tryz.ntmps23
 go_wp2_with fail
 go_fit (H.out _)
 rintro e w1 ⟨rfl, b1⟩
 obtain ⟨kr, b1⟩ := al1 b1
 obtain ⟨d0, d1, d2⟩ := xk3 kr
 have f0 := Cel.frozen kr 0
 have f1 := Cel.frozen kr 1
 have f2 := Cel.frozen kr 2
 go_wp2
 exact post_q (p := 2) (by kernel_rfl) rfl rfl (((kr.set 0 _).set 1 _).set 2 _) ⟨rfl, bset (bset (bset b1 (Nat.le_refl _) 0 _) (Nat.le_refl _) 1 _) (Nat.le_refl _) 2 _⟩
theorem roq_any (x : Int) (h1 : -1000 ≤ x) (h2 : x ≤ 1000) (w : World) :
  Calls Tryz.prog 23 #[.int .i64 x] w (Re w (.agg #[.bool (nfZ x), .string (sfZ x), .string ⟨#[1]⟩])) :=
 roq_walk x _ _ w (fun w1 => rof_any x (by omega) (by omega) w1)
def m2 (x0 y0 x1 y1 : Rat) (i j : Nat) : Rat := f2 (f2 x0 y0 j) (f2 x1 y1 j) i
theorem post_p {fn : Func} {p : Tmp} {R : Ending → World → Prop} {a : Act} {w : World} {g : Nat} {x y z x' y' z' : Value} (h : fn.results = #[.cell p 30]) (hp : a.tmps.getD p undef = .pointer (some ⟨g, 0, none⟩)) (hd : a.defers = [])
  (hc : Cel w g [x, y, z, x', y', z'] 30) (hR : R (.returned (.agg #[x, y, z, x', y', z'])) w) : bodyPost Tryz.prog fn R .ret a w := by
 refine ⟨hd, .agg #[x, y, z, x', y', z'], ?_, hR⟩
 exact results_cell_row (P := Tryz.prog) h _ w g 30 #[x, y, z, x', y', z'] (0, 0) _ hp hc Tryz.underlying30 rfl (by kernel_rfl)
theorem cel6_0 {w : World} {g : Nat} {x y z x' y' z' : Value} {t : TypeId} (h : Cel w g [x, y, z, x', y', z'] t) : w.cell? ⟨g, 0, none⟩ = some x := h.cell 0
theorem cel6_1 {w : World} {g : Nat} {x y z x' y' z' : Value} {t : TypeId} (h : Cel w g [x, y, z, x', y', z'] t) : w.cell? ⟨g, 1, none⟩ = some y := h.cell 1
theorem cel6_2 {w : World} {g : Nat} {x y z x' y' z' : Value} {t : TypeId} (h : Cel w g [x, y, z, x', y', z'] t) : w.cell? ⟨g, 2, none⟩ = some z := h.cell 2
theorem cel6_3 {w : World} {g : Nat} {x y z x' y' z' : Value} {t : TypeId} (h : Cel w g [x, y, z, x', y', z'] t) : w.cell? ⟨g, 3, none⟩ = some x' := h.cell 3
theorem cel6_4 {w : World} {g : Nat} {x y z x' y' z' : Value} {t : TypeId} (h : Cel w g [x, y, z, x', y', z'] t) : w.cell? ⟨g, 4, none⟩ = some y' := h.cell 4
theorem cel6_5 {w : World} {g : Nat} {x y z x' y' z' : Value} {t : TypeId} (h : Cel w g [x, y, z, x', y', z'] t) : w.cell? ⟨g, 5, none⟩ = some z' := h.cell 5
theorem Cel.set6 {w : World} {g : Nat} {x y z x' y' z' : Value} {t : TypeId} (h : Cel w g [x, y, z, x', y', z'] t) (a b c d e f : Value) : Cel ((((((w.setCell ⟨g, 0, none⟩ a).setCell ⟨g, 1, none⟩ b).setCell ⟨g, 2, none⟩ c).setCell ⟨g, 3, none⟩ d).setCell ⟨g, 4, none⟩ e).setCell ⟨g, 5, none⟩ f) g [a, b, c, d, e, f] t :=
 (((((h.set 0 a).set 1 b).set 2 c).set 3 d).set 4 e).set 5 f
theorem bset6 {N : Nat} {w wn : World} {g : Nat} (b : Below N w wn) (h : N ≤ g) (x0 x1 x2 x3 x4 x5 : Value) : Below N w ((((((wn.setCell ⟨g, 0, none⟩ x0).setCell ⟨g, 1, none⟩ x1).setCell ⟨g, 2, none⟩ x2).setCell ⟨g, 3, none⟩ x3).setCell ⟨g, 4, none⟩ x4).setCell ⟨g, 5, none⟩ x5) :=
 bset (bset (bset (bset (bset (bset b h 0 x0) h 1 x1) h 2 x2) h 3 x3) h 4 x4) h 5 x5
theorem vd_cast (a b : Nat) {k j : Nat} (ha : Bd (a : Int) k) (hb : Bd (b : Int) j) : Bd ((a * b : Nat) : Int) (k + j) := by
 rw [Int.natCast_mul]
 exact ha.mul hb
theorem vq_mk {z : Int} {m k : Nat} (hm : 0 < m) (hz : Bd z k) (hd : Bd (m : Int) k) : Bq (mkRat z m) k := by
 refine ⟨?_, ?_⟩
 ·rw [Q.num_mk hm]
  refine hz.div _ ?_
  rw [← Int.dvd_natAbs, Int.ofNat_dvd]
  exact Nat.gcd_dvd_left _ _
 ·rw [Q.den_mk hm]
  exact hd.nat (Nat.div_le_self _ _)
theorem vq_add {a b : Rat} {k : Nat} (ha : Bq a k) (hb : Bq b k) : Bq (a + b) (k + k + 1) := by
 rw [Rat.add_def']
 exact vq_mk (Nat.mul_pos a.den_pos b.den_pos) ((ha.1.mul hb.2).add (hb.1.mul ha.2)) ((vd_cast _ _ ha.2 hb.2).mono (by omega))
theorem vq_neg {a : Rat} {k : Nat} (ha : Bq a k) : Bq (-a) k := ⟨by rw [Rat.neg_num]; exact ha.1.neg, ha.2⟩
theorem vq_sub {a b : Rat} {k : Nat} (ha : Bq a k) (hb : Bq b k) : Bq (a - b) (k + k + 1) := by
 rw [Rat.sub_eq_add_neg]
 exact vq_add ha (vq_neg hb)
theorem vq_mul {a b : Rat} {k : Nat} (ha : Bq a k) (hb : Bq b k) : Bq (a * b) (k + k + 1) := by
 rw [Rat.mul_def']
 exact vq_mk (Nat.mul_pos a.den_pos b.den_pos) ((ha.1.mul hb.1).mono (by omega)) ((vd_cast _ _ ha.2 hb.2).mono (by omega))
end Go.Proofs.YtbafjmjcepcckaaGreatDoor
