/-
  Package cons, in numbers' one form.
  Package cons, in numbers' one form: distances.
  gussetlaw06: live.
  Package cons: Near2, walked, between the ends.
  gussetlaw06: ConsNear holds.
  gussetlaw06: ConsNearest holds.
  gussetlaw06: ConsNearest holds.
-/
import Derived.Test.YtiiigiggcbbgjaaGreatDoorG45
import Derived.Test.YtiiigiggcbbgjaaGreatDoorG46
import Derived.Test.YtiiigiggcbbgjaaGreatDoorG47
import Derived.Test.YtiiigiggcbbgjaaGreatDoorP53
import Derived.Test.YtiiigiggcbbgjaaGreatDoorP54
set_option maxRecDepth 100000
set_option maxHeartbeats 16000000
namespace Go.Proofs.YtiiigiggcbbgjaaGreatDoor
open Go.RowKit
abbrev pq (x y : Rat) : Value := .agg #[.bool (nfZ x.num), .string (sfZ x.num), .string (strOf x.den), .bool (nfZ y.num), .string (sfZ y.num), .string (strOf y.den)]
abbrev rq (x : Rat) : Value := .agg #[.bool (nfZ x.num), .string (sfZ x.num), .string (strOf x.den)]
abbrev Ra (w : World) (v : Value) : Ending → World → Prop := fun e w' => e = .returned v ∧ Below w.heap.size w w'
theorem ofI (x0 y0 x1 y1 : Rat) {K : Nat} (hK : K ≤ 100) (b0 : Bq x0 K) (b1 : Bq y0 K) (b2 : Bq x1 K) (b3 : Bq y1 K) : Hid (∀ w1, Calls Tryz.prog 70 #[pq x0 y0, pq x1 y1] w1 fun e w' => ∃ m0 a0 l0 c0 m1 a1 l1 c1 a2 l2 c2 X Y U, e = .returned (.agg #[.bool m0, .slice a0 l0 c0, .bool m1, .slice a1 l1 c1, .bool false, .slice a2 l2 c2]) ∧ SpV w' m0 a0 l0 c0 m1 a1 l1 c1 a2 l2 c2 X Y U (x1 - x0) (y1 - y0) ∧ Below w1.heap.size w1 w') := fun w1 => by
 have := sof_any (nfZ x0.num) (nfZ y0.num) (nfZ x1.num) (nfZ y1.num) (sfZ x0.num) (strOf x0.den) (sfZ y0.num) (strOf y0.den) (sfZ x1.num) (strOf x1.den) (sfZ y1.num) (strOf y1.den) w1 (okQ_qI x0) (okQ_qI y0) (okQ_qI x1) (okQ_qI y1) (bq_sz hK b0) (bq_sz hK b1) (bq_sz hK b2) (bq_sz hK b3)
 simp only [qOf_one] at this
 refine this.mono ?_
 rintro e w' ⟨m0, a0, l0, c0, m1, a1, l1, c1, a2, l2, c2, X, Y, U, h1, h2, h3, h4, h5, h6⟩
 exact ⟨m0, a0, l0, c0, m1, a1, l1, c1, a2, l2, c2, X, Y, U, h1, ⟨h2, h3, h4, h5⟩, h6⟩
theorem chkI (x0 y0 x1 y1 x2 y2 : Rat) {K : Nat} (hK : K ≤ 100) (b0 : Bq x0 K) (b1 : Bq y0 K) (b2 : Bq x1 K) (b3 : Bq y1 K) (b4 : Bq x2 K) (b5 : Bq y2 K) (w : World) (hT : Tab w) : Hid (∀ (w1 : World) (B : Nat), Below w.heap.size w w1 → Cel w1 B [.bool (nfZ x0.num), .string (sfZ x0.num), .string (strOf x0.den), .bool (nfZ y0.num), .string (sfZ y0.num), .string (strOf y0.den), .bool (nfZ x1.num), .string (sfZ x1.num), .string (strOf x1.den), .bool (nfZ y1.num), .string (sfZ y1.num), .string (strOf y1.den), .bool (nfZ x2.num), .string (sfZ x2.num), .string (strOf x2.den), .bool (nfZ y2.num), .string (sfZ y2.num), .string (strOf y2.den)] 28 → Calls Tryz.prog 45 #[.slice (some ⟨B, 0, none⟩) 3 3] w1 (Re w1 (.int .i64 0))) := fun w1 B b h => by
 have := scheck3 B (nfZ x0.num) (nfZ y0.num) (nfZ x1.num) (nfZ y1.num) (nfZ x2.num) (nfZ y2.num) (sfZ x0.num) (strOf x0.den) (sfZ y0.num) (strOf y0.den) (sfZ x1.num) (strOf x1.den) (sfZ y1.num) (strOf y1.den) (sfZ x2.num) (strOf x2.den) (sfZ y2.num) (strOf y2.den) w1 (hT.below b) h (bq_sz hK b0) (bq_sz hK b1) (bq_sz hK b2) (bq_sz hK b3) (bq_sz hK b4) (bq_sz hK b5)
 rwa [two_zero.2 ⟨two_zero.2 ⟨twoq_zero.2 ⟨chk_can8 x0 (by omega) b0, chk_can8 y0 (by omega) b1⟩, twoq_zero.2 ⟨chk_can8 x1 (by omega) b2, chk_can8 y1 (by omega) b3⟩⟩, twoq_zero.2 ⟨chk_can8 x2 (by omega) b4, chk_can8 y2 (by omega) b5⟩⟩] at this
theorem can_eq {x y : Rat} (h1 : nfZ x.num = nfZ y.num) (h2 : sfZ x.num = sfZ y.num) (h3 : strOf x.den = strOf y.den) : x = y := by
 rw [← qOf_one x, ← qOf_one y, h1, h2, h3]
theorem neI (x0 y0 x1 y1 : Rat) (h : ¬ (x0 = x1 ∧ y0 = y1)) : ∀ w1, (binOp .eql 28 (pq x0 y0) (pq x1 y1)).run Tryz.prog w1 = .ok (.bool false) w1 := fun w1 =>
 run_peq _ _ _ _ _ _ _ _ _ _ _ _ w1 (fun ⟨a, b, c, d, e, f⟩ => h ⟨can_eq a b c, can_eq d e f⟩)
theorem bq_mono {x : Rat} {K M' : Nat} (h : Bq x K) (hK : K ≤ M') : Bq x M' := ⟨h.1.mono hK, h.2.mono hK⟩
theorem sg_zero {x : Rat} (h : Gm.sg x = 0) : x = 0 := by
 exact Rat.num_eq_zero.1 (Int.sign_eq_zero_iff_zero.1 h)
def shp (ux uy vx vy : Rat) : Bool := decide (0 < Gm.sg (ux * vx + uy * vy)) && decide (0 < Gm.sg (4 * ((ux * vx + uy * vy) * (ux * vx + uy * vy)) - (ux * ux + uy * uy) * (vx * vx + vy * vy)))
theorem sharpI (x0 y0 x1 y1 x2 y2 : Rat) {K : Nat} (hK : K ≤ 100) (b0 : Bq x0 K) (b1 : Bq y0 K) (b2 : Bq x1 K) (b3 : Bq y1 K) (b4 : Bq x2 K) (b5 : Bq y2 K) (w : World) (hT : Tab w) (h1 : ¬ (x1 = x0 ∧ y1 = y0)) (h2 : ¬ (x1 = x2 ∧ y1 = y2)) : Calls Tryz.prog 28 #[pq x0 y0, pq x1 y1, pq x2 y2] w (Ra w (.tuple #[.bool (shp (x0 - x1) (y0 - y1) (x2 - x1) (y2 - y1)), .int .i64 0])) := by
 unfold shp
 by_cases hd : Gm.sg ((x0 - x1) * (x2 - x1) + (y0 - y1) * (y2 - y1)) ≤ 0
 ·rw [decide_eq_false (by omega), Bool.false_and]
  exact cSharp_no (nfZ x0.num) (nfZ y0.num) (nfZ x1.num) (nfZ y1.num) (nfZ x2.num) (nfZ y2.num) (sfZ x0.num) (strOf x0.den) (sfZ y0.num) (strOf y0.den) (sfZ x1.num) (strOf x1.den) (sfZ y1.num) (strOf y1.den) (sfZ x2.num) (strOf x2.den) (sfZ y2.num) (strOf y2.den) (x0 - x1) (y0 - y1) (x2 - x1) (y2 - y1) w (chkI x0 y0 x1 y1 x2 y2 hK b0 b1 b2 b3 b4 b5 w hT) (neI _ _ _ _ h1) (neI _ _ _ _ h2) (ofI x1 y1 x0 y0 hK b2 b3 b0 b1) (ofI x1 y1 x2 y2 hK b2 b3 b4 b5) hd
 ·rw [decide_eq_true (by omega), Bool.true_and]
  exact cSharp_ok (nfZ x0.num) (nfZ y0.num) (nfZ x1.num) (nfZ y1.num) (nfZ x2.num) (nfZ y2.num) (sfZ x0.num) (strOf x0.den) (sfZ y0.num) (strOf y0.den) (sfZ x1.num) (strOf x1.den) (sfZ y1.num) (strOf y1.den) (sfZ x2.num) (strOf x2.den) (sfZ y2.num) (strOf y2.den) (x0 - x1) (y0 - y1) (x2 - x1) (y2 - y1) w (chkI x0 y0 x1 y1 x2 y2 hK b0 b1 b2 b3 b4 b5 w hT) (neI _ _ _ _ h1) (neI _ _ _ _ h2) (ofI x1 y1 x0 y0 hK b2 b3 b0 b1) (ofI x1 y1 x2 y2 hK b2 b3 b4 b5) hd
theorem cenI_flat (x0 y0 x1 y1 x2 y2 : Rat) {K : Nat} (hK : K ≤ 100) (b0 : Bq x0 K) (b1 : Bq y0 K) (b2 : Bq x1 K) (b3 : Bq y1 K) (b4 : Bq x2 K) (b5 : Bq y2 K) (w : World) (hT : Tab w) (h : (x1 - x0) * (y2 - y0) - (y1 - y0) * (x2 - x0) = 0) : Calls Tryz.prog 22 #[pq x0 y0, pq x1 y1, pq x2 y2] w (Ra w (.tuple #[.agg #[.bool false, .string { data := #[] }, .string { data := #[] }, .bool false, .string { data := #[] }, .string { data := #[] }], .int .i64 6])) :=
 cCen_flat (nfZ x0.num) (nfZ y0.num) (nfZ x1.num) (nfZ y1.num) (nfZ x2.num) (nfZ y2.num) (sfZ x0.num) (strOf x0.den) (sfZ y0.num) (strOf y0.den) (sfZ x1.num) (strOf x1.den) (sfZ y1.num) (strOf y1.den) (sfZ x2.num) (strOf x2.den) (sfZ y2.num) (strOf y2.den) w (chkI x0 y0 x1 y1 x2 y2 hK b0 b1 b2 b3 b4 b5 w hT) (fun w1 => toC_flat (nfZ x0.num) (nfZ y0.num) (nfZ x1.num) (nfZ y1.num) (nfZ x2.num) (nfZ y2.num) (sfZ x0.num) (strOf x0.den) (sfZ y0.num) (strOf y0.den) (sfZ x1.num) (strOf x1.den) (sfZ y1.num) (strOf y1.den) (sfZ x2.num) (strOf x2.den) (sfZ y2.num) (strOf y2.den) (x1 - x0) (y1 - y0) (x2 - x0) (y2 - y0) w1 (by rw [h]; rfl) (ofI x0 y0 x1 y1 hK b0 b1 b2 b3) (ofI x0 y0 x2 y2 hK b0 b1 b4 b5))
def cenX (ux uy vx vy : Rat) : Rat := ((ux * ux + uy * uy) * vy - (vx * vx + vy * vy) * uy) / ((ux * vy - uy * vx) + (ux * vy - uy * vx))
def cenY (ux uy vx vy : Rat) : Rat := (ux * (vx * vx + vy * vy) - vx * (ux * ux + uy * uy)) / ((ux * vy - uy * vx) + (ux * vy - uy * vx))
theorem cenI (x0 y0 x1 y1 x2 y2 : Rat) {K : Nat} (hK : K ≤ 100) (b0 : Bq x0 K) (b1 : Bq y0 K) (b2 : Bq x1 K) (b3 : Bq y1 K) (b4 : Bq x2 K) (b5 : Bq y2 K) (w : World) (hT : Tab w) (h : (x1 - x0) * (y2 - y0) - (y1 - y0) * (x2 - x0) ≠ 0) {cx cy : Rat} (ex : cenX (x1 - x0) (y1 - y0) (x2 - x0) (y2 - y0) = cx) (ey : cenY (x1 - x0) (y1 - y0) (x2 - x0) (y2 - y0) = cy) {M' : Nat} (hM : M' ≤ 4000) (hKM : K ≤ M') (bx : Bq cx M') (bY : Bq cy M') :
  Calls Tryz.prog 22 #[pq x0 y0, pq x1 y1, pq x2 y2] w (Ra w (.tuple #[pq (x0 + cx) (y0 + cy), .int .i64 0])) := by
 subst ex ey
 refine cCen_ok (nfZ x0.num) (nfZ y0.num) (nfZ x1.num) (nfZ y1.num) (nfZ x2.num) (nfZ y2.num) (sfZ x0.num) (strOf x0.den) (sfZ y0.num) (strOf y0.den) (sfZ x1.num) (strOf x1.den) (sfZ y1.num) (strOf y1.den) (sfZ x2.num) (strOf x2.den) (sfZ y2.num) (strOf y2.den) (cenX (x1 - x0) (y1 - y0) (x2 - x0) (y2 - y0)) (cenY (x1 - x0) (y1 - y0) (x2 - x0) (y2 - y0)) _ _ _ _ _ _ w hT (chkI x0 y0 x1 y1 x2 y2 hK b0 b1 b2 b3 b4 b5 w hT) (fun w1 => toC_ok (nfZ x0.num) (nfZ y0.num) (nfZ x1.num) (nfZ y1.num) (nfZ x2.num) (nfZ y2.num) (sfZ x0.num) (strOf x0.den) (sfZ y0.num) (strOf y0.den) (sfZ x1.num) (strOf x1.den) (sfZ y1.num) (strOf y1.den) (sfZ x2.num) (strOf x2.den) (sfZ y2.num) (strOf y2.den) (x1 - x0) (y1 - y0) (x2 - x0) (y2 - y0) w1 ?_ (ofI x0 y0 x1 y1 hK b0 b1 b2 b3) (ofI x0 y0 x2 y2 hK b0 b1 b4 b5)) (fun w1 b => vplusI x0 y0 _ _ hM (bq_mono b0 hKM) (bq_mono b1 hKM) bx bY w1 (hT.below b))
 rw [beq_eq_false_iff_ne]
 intro e
 exact h (sg_zero e)
theorem farI (x0 y0 x1 y1 : Rat) {K : Nat} (hK : K ≤ 100) (b0 : Bq x0 K) (b1 : Bq y0 K) (b2 : Bq x1 K) (b3 : Bq y1 K) (w : World) (hT : Tab w) : Calls Tryz.prog 59 #[pq x0 y0, pq x1 y1] w (Ra w (rq ((x1 - x0) * (x1 - x0) + (y1 - y0) * (y1 - y0)))) :=
 far2_walk (nfZ x0.num) (nfZ y0.num) (nfZ x1.num) (nfZ y1.num) (sfZ x0.num) (strOf x0.den) (sfZ y0.num) (strOf y0.den) (sfZ x1.num) (strOf x1.den) (sfZ y1.num) (strOf y1.den) (x1 - x0) (y1 - y0) w hT (ofI x0 y0 x1 y1 hK b0 b1 b2 b3)
theorem nearI_b (x0 y0 x1 y1 x2 y2 : Rat) {K : Nat} (hK : K ≤ 100) (b0 : Bq x0 K) (b1 : Bq y0 K) (b2 : Bq x1 K) (b3 : Bq y1 K) (b4 : Bq x2 K) (b5 : Bq y2 K) (w : World) (hT : Tab w) (h1 : ¬ (x0 = x1 ∧ y0 = y1)) (hd : ¬ Gm.sg ((x1 - x0) * (x2 - x0) + (y1 - y0) * (y2 - y0)) ≤ 0) (hb : 0 ≤ Gm.sg ((x1 - x0) * (x2 - x1) + (y1 - y0) * (y2 - y1))) : Calls Tryz.prog 34 #[pq x0 y0, pq x1 y1, pq x2 y2] w (Ra w (.tuple #[rq ((x2 - x1) * (x2 - x1) + (y2 - y1) * (y2 - y1)), .int .i64 0])) :=
 cNear_b (nfZ x0.num) (nfZ y0.num) (nfZ x1.num) (nfZ y1.num) (nfZ x2.num) (nfZ y2.num) (sfZ x0.num) (strOf x0.den) (sfZ y0.num) (strOf y0.den) (sfZ x1.num) (strOf x1.den) (sfZ y1.num) (strOf y1.den) (sfZ x2.num) (strOf x2.den) (sfZ y2.num) (strOf y2.den) (nfZ (((x2 - x1) * (x2 - x1) + (y2 - y1) * (y2 - y1))).num) (sfZ (((x2 - x1) * (x2 - x1) + (y2 - y1) * (y2 - y1))).num) (strOf (((x2 - x1) * (x2 - x1) + (y2 - y1) * (y2 - y1))).den) (x1 - x0) (y1 - y0) (x2 - x0) (y2 - y0) (x2 - x1) (y2 - y1) w (chkI x0 y0 x1 y1 x2 y2 hK b0 b1 b2 b3 b4 b5 w hT) (neI _ _ _ _ h1) (ofI x0 y0 x1 y1 hK b0 b1 b2 b3) (ofI x0 y0 x2 y2 hK b0 b1 b4 b5) hd hb (fun w1 => (ofI x1 y1 x2 y2 hK b2 b3 b4 b5 w1).mono (fun e w' h => by obtain ⟨m0, a0, l0, c0, m1, a1, l1, c1, a2, l2, c2, X, Y, U, h1, h2, h3⟩ := h; exact ⟨m0, a0, l0, c0, m1, a1, l1, c1, a2, l2, c2, X, Y, U, h1, h2.1, h2.2.1, h2.2.2.1, h2.2.2.2, h3⟩)) (fun w1 b => farI x1 y1 x2 y2 hK b2 b3 b4 b5 w1 (hT.below b))
theorem nearI_a (x0 y0 x1 y1 x2 y2 : Rat) {K : Nat} (hK : K ≤ 100) (b0 : Bq x0 K) (b1 : Bq y0 K) (b2 : Bq x1 K) (b3 : Bq y1 K) (b4 : Bq x2 K) (b5 : Bq y2 K) (w : World) (hT : Tab w) (h1 : ¬ (x0 = x1 ∧ y0 = y1)) (hd : Gm.sg ((x1 - x0) * (x2 - x0) + (y1 - y0) * (y2 - y0)) ≤ 0) : Calls Tryz.prog 34 #[pq x0 y0, pq x1 y1, pq x2 y2] w (Ra w (.tuple #[rq ((x2 - x0) * (x2 - x0) + (y2 - y0) * (y2 - y0)), .int .i64 0])) :=
 cNear_a (nfZ x0.num) (nfZ y0.num) (nfZ x1.num) (nfZ y1.num) (nfZ x2.num) (nfZ y2.num) (sfZ x0.num) (strOf x0.den) (sfZ y0.num) (strOf y0.den) (sfZ x1.num) (strOf x1.den) (sfZ y1.num) (strOf y1.den) (sfZ x2.num) (strOf x2.den) (sfZ y2.num) (strOf y2.den) (nfZ (((x2 - x0) * (x2 - x0) + (y2 - y0) * (y2 - y0))).num) (sfZ (((x2 - x0) * (x2 - x0) + (y2 - y0) * (y2 - y0))).num) (strOf (((x2 - x0) * (x2 - x0) + (y2 - y0) * (y2 - y0))).den) (x1 - x0) (y1 - y0) (x2 - x0) (y2 - y0) w (chkI x0 y0 x1 y1 x2 y2 hK b0 b1 b2 b3 b4 b5 w hT) (neI _ _ _ _ h1) (ofI x0 y0 x1 y1 hK b0 b1 b2 b3) (ofI x0 y0 x2 y2 hK b0 b1 b4 b5) hd (fun w1 b => farI x0 y0 x2 y2 hK b0 b1 b4 b5 w1 (hT.below b))
theorem live6_walk (n10 n11 n12 n13 n14 n15 n16 n17 n18 n19 n20 n21 n22 n23 : Bool) (s10 d10 s11 d11 s12 d12 s13 d13 s14 d14 s15 d15 s16 d16 s17 d17 s18 d18 s19 d19 s20 d20 s21 d21 s22 d22 s23 d23 : ByteArray) (fN : Bool) (fS fD : ByteArray) (w : World)
  (A00 : Hid (∀ w1, Calls Tryz.prog 57 #[.int .i64 0, .int .i64 0] w1 (Re w1 (.agg #[.bool n10, .string s10, .string d10, .bool n11, .string s11, .string d11]))))
  (A20 : Hid (∀ w1, Calls Tryz.prog 57 #[.int .i64 2, .int .i64 0] w1 (Re w1 (.agg #[.bool n12, .string s12, .string d12, .bool n13, .string s13, .string d13]))))
  (A02 : Hid (∀ w1, Calls Tryz.prog 57 #[.int .i64 0, .int .i64 2] w1 (Re w1 (.agg #[.bool n14, .string s14, .string d14, .bool n15, .string s15, .string d15]))))
  (A40 : Hid (∀ w1, Calls Tryz.prog 57 #[.int .i64 4, .int .i64 0] w1 (Re w1 (.agg #[.bool n16, .string s16, .string d16, .bool n17, .string s17, .string d17]))))
  (A60 : Hid (∀ w1, Calls Tryz.prog 57 #[.int .i64 6, .int .i64 0] w1 (Re w1 (.agg #[.bool n18, .string s18, .string d18, .bool n19, .string s19, .string d19]))))
  (A10 : Hid (∀ w1, Calls Tryz.prog 57 #[.int .i64 1, .int .i64 0] w1 (Re w1 (.agg #[.bool n20, .string s20, .string d20, .bool n21, .string s21, .string d21]))))
  (A11 : Hid (∀ w1, Calls Tryz.prog 57 #[.int .i64 1, .int .i64 1] w1 (Re w1 (.agg #[.bool n22, .string s22, .string d22, .bool n23, .string s23, .string d23]))))
  (F4 : Hid (∀ w1, Calls Tryz.prog 58 #[.int .i64 4] w1 (Re w1 (.agg #[.bool fN, .string fS, .string fD]))))
  (C1 : Hid (∀ w1, Below w.heap.size w w1 → Calls Tryz.prog 22 #[.agg #[.bool n10, .string s10, .string d10, .bool n11, .string s11, .string d11], .agg #[.bool n12, .string s12, .string d12, .bool n13, .string s13, .string d13], .agg #[.bool n14, .string s14, .string d14, .bool n15, .string s15, .string d15]] w1 (Re w1 (.tuple #[.agg #[.bool n22, .string s22, .string d22, .bool n23, .string s23, .string d23], .int .i64 0]))))
  (C2 : Hid (∀ w1, Below w.heap.size w w1 → Calls Tryz.prog 34 #[.agg #[.bool n10, .string s10, .string d10, .bool n11, .string s11, .string d11], .agg #[.bool n16, .string s16, .string d16, .bool n17, .string s17, .string d17], .agg #[.bool n18, .string s18, .string d18, .bool n19, .string s19, .string d19]] w1 (Re w1 (.tuple #[.agg #[.bool fN, .string fS, .string fD], .int .i64 0]))))
  (C3 : Hid (∀ w1, Below w.heap.size w w1 → Calls Tryz.prog 28 #[.agg #[.bool n20, .string s20, .string d20, .bool n21, .string s21, .string d21], .agg #[.bool n10, .string s10, .string d10, .bool n11, .string s11, .string d11], .agg #[.bool n22, .string s22, .string d22, .bool n23, .string s23, .string d23]] w1 (Re w1 (.tuple #[.bool true, .int .i64 0]))))
  (C4 : Hid (∀ w1, Below w.heap.size w w1 → Calls Tryz.prog 22 #[.agg #[.bool n10, .string s10, .string d10, .bool n11, .string s11, .string d11], .agg #[.bool n20, .string s20, .string d20, .bool n21, .string s21, .string d21], .agg #[.bool n12, .string s12, .string d12, .bool n13, .string s13, .string d13]] w1 (Re w1 (.tuple #[.agg #[.bool false, .string { data := #[] }, .string { data := #[] }, .bool false, .string { data := #[] }, .string { data := #[] }], .int .i64 6])))) :
  Calls Tryz.prog 19 #[] w (Re w (.bool true)) := by
 go_enter Tryz.func19, Tryz.ntmps19
 have bb := Below.refl w.heap.size w
 go_wp2_with fail
 go_fit (A00.out _)
 rintro e w1 ⟨rfl, b1⟩
 replace bb := Below.after bb b1
 clear b1
 go_wp2_with fail
 go_fit (A20.out _)
 rintro e w2 ⟨rfl, b1⟩
 replace bb := Below.after bb b1
 clear b1
 go_wp2_with fail
 go_fit (A02.out _)
 rintro e w3 ⟨rfl, b1⟩
 replace bb := Below.after bb b1
 clear b1
 go_wp2_with fail
 go_fit (C1.out _ bb)
 rintro e w4 ⟨rfl, b1⟩
 replace bb := Below.after bb b1
 clear b1
 go_wp2_with fail
 obtain ⟨x4, hw, kc, b1⟩ := mk1 w4 [.bool n22, .string s22, .string d22, .bool n23, .string s23, .string d23] 28
 rw [← hw]
 clear hw
 replace bb := Below.after bb b1
 clear b1
 go_wp2_with fail
 go_fit (A00.out _)
 rintro e w5 ⟨rfl, b1⟩
 replace kc := kc.below b1
 replace bb := Below.after bb b1
 clear b1
 go_wp2_with fail
 go_fit (A40.out _)
 rintro e w6 ⟨rfl, b1⟩
 replace kc := kc.below b1
 replace bb := Below.after bb b1
 clear b1
 go_wp2_with fail
 go_fit (A60.out _)
 rintro e w7 ⟨rfl, b1⟩
 replace kc := kc.below b1
 replace bb := Below.after bb b1
 clear b1
 go_wp2_with fail
 go_fit (C2.out _ bb)
 rintro e w8 ⟨rfl, b1⟩
 replace kc := kc.below b1
 replace bb := Below.after bb b1
 clear b1
 go_wp2_with fail
 obtain ⟨x8, hw, kn, b1⟩ := mk1 w8 [.bool fN, .string fS, .string fD] 26
 rw [← hw]
 clear hw
 replace kc := kc.below b1
 replace bb := Below.after bb b1
 clear b1
 go_wp2_with fail
 go_fit (A10.out _)
 rintro e w9 ⟨rfl, b1⟩
 replace kc := kc.below b1
 replace kn := kn.below b1
 replace bb := Below.after bb b1
 clear b1
 go_wp2_with fail
 go_fit (A00.out _)
 rintro e w10 ⟨rfl, b1⟩
 replace kc := kc.below b1
 replace kn := kn.below b1
 replace bb := Below.after bb b1
 clear b1
 go_wp2_with fail
 go_fit (A11.out _)
 rintro e w11 ⟨rfl, b1⟩
 replace kc := kc.below b1
 replace kn := kn.below b1
 replace bb := Below.after bb b1
 clear b1
 go_wp2_with fail
 go_fit (C3.out _ bb)
 rintro e w12 ⟨rfl, b1⟩
 replace kc := kc.below b1
 replace kn := kn.below b1
 replace bb := Below.after bb b1
 clear b1
 go_wp2_with fail
 go_fit (A00.out _)
 rintro e w13 ⟨rfl, b1⟩
 replace kc := kc.below b1
 replace kn := kn.below b1
 replace bb := Below.after bb b1
 clear b1
 go_wp2_with fail
 go_fit (A10.out _)
 rintro e w14 ⟨rfl, b1⟩
 replace kc := kc.below b1
 replace kn := kn.below b1
 replace bb := Below.after bb b1
 clear b1
 go_wp2_with fail
 go_fit (A20.out _)
 rintro e w15 ⟨rfl, b1⟩
 replace kc := kc.below b1
 replace kn := kn.below b1
 replace bb := Below.after bb b1
 clear b1
 go_wp2_with fail
 go_fit (C4.out _ bb)
 rintro e w16 ⟨rfl, b1⟩
 replace kc := kc.below b1
 replace kn := kn.below b1
 replace bb := Below.after bb b1
 clear b1
 go_wp2_with fail
 obtain ⟨x16, hw, kz, b1⟩ := mk1 w16 [.bool false, .string { data := #[] }, .string { data := #[] }, .bool false, .string { data := #[] }, .string { data := #[] }] 28
 rw [← hw]
 clear hw
 replace kc := kc.below b1
 replace kn := kn.below b1
 replace bb := Below.after bb b1
 clear b1
 clear kz
 have bd := bdrew x16
 replace kc := kc.below bd
 replace kn := kn.below bd
 replace bb := Below.after bb bd
 clear bd
 refine wp_region_held_drew (S := fun w' => xc6 w' w4.heap.size (.bool n22) (.string s22) (.string d22) (.bool n23) (.string s23) (.string d23) ∧ xc3 w' w8.heap.size (.bool fN) (.string fS) (.string fD)) (by kernel_rfl) ⟨xk6 kc, xk3 kn⟩ (fun hS => ?_)
 refine WA.start (n := 28) (by kernel_rfl) ?_
 refine WA.tp 0 rfl ?_
 refine WA.cal 1 rfl (fun K hK => ?_)
 simp only [List.getElem_toArray, List.getElem_cons_succ, List.getElem_cons_zero]
 go_simp
 go_fit (A11.out _)
 rintro e wn ⟨rfl, bn⟩
 replace kc := kc.below bn
 replace kn := kn.below bn
 replace bb := Below.after bb bn
 try go_wp2_with fail
 clear hS
 refine hK.out _ _ ⟨xk6 kc, xk3 kn⟩ (fun hS => ?_)
 clear hK K bn
 refine WA.tp 2 rfl ?_
 refine WA.tp 3 rfl ?_
 refine WA.tp 4 rfl ?_
 refine WA.tp 5 rfl ?_
 refine WA.tp 6 rfl ?_
 refine WA.tp 7 rfl ?_
 refine WA.tp 8 rfl ?_
 refine WA.cal 9 rfl (fun K hK => ?_)
 simp only [List.getElem_toArray, List.getElem_cons_succ, List.getElem_cons_zero]
 go_simp
 go_fit (F4.out _)
 rintro e wn ⟨rfl, bn⟩
 replace kc := kc.below bn
 replace kn := kn.below bn
 replace bb := Below.after bb bn
 try go_wp2_with fail
 clear hS
 refine hK.out _ _ ⟨xk6 kc, xk3 kn⟩ (fun hS => ?_)
 clear hK K bn
 refine WA.tp 10 rfl ?_
 refine WA.tp 11 rfl ?_
 refine WA.tp 12 rfl ?_
 refine WA.tp 13 rfl ?_
 refine WA.tp 14 rfl ?_
 refine WA.tp 15 rfl ?_
 refine WA.tp 16 rfl ?_
 refine WA.tp 17 rfl ?_
 refine WA.tp 18 rfl ?_
 refine WA.tp 19 rfl ?_
 refine WA.tp 20 rfl ?_
 refine WA.tp 21 rfl ?_
 refine WA.tp 22 rfl ?_
 refine WA.tp 23 rfl ?_
 refine WA.tp 24 rfl ?_
 refine WA.tp 25 rfl ?_
 refine WA.tp 26 rfl ?_
 refine WA.tp 27 rfl ?_
 refine WA.done (by kernel_rfl) ?_
 clear hS
 go_wp2
 go_ret
 exact ⟨rfl, bb⟩
theorem pq_int (x y : Int) : pq (x : Rat) (y : Rat) = .agg #[.bool (nfZ x), .string (sfZ x), .string ⟨#[1]⟩, .bool (nfZ y), .string (sfZ y), .string ⟨#[1]⟩] := by
 have e : strOf 1 = ⟨#[1]⟩ := by decide +kernel
 simp only [pq, Rat.num_intCast, Rat.den_intCast, e]
theorem bq_int (x : Int) (h1 : -200 ≤ x) (h2 : x ≤ 200) : Bq (x : Rat) 1 := by
 constructor
 ·rw [Rat.num_intCast]; unfold Bd; omega
 ·rw [Rat.den_intCast]; unfold Bd; omega
theorem live6_any (w : World) (hT : Tab w) : Calls Tryz.prog 19 #[] w (Re w (.bool true)) := by
 refine live6_walk (nfZ 0) (nfZ 0) (nfZ 2) (nfZ 0) (nfZ 0) (nfZ 2) (nfZ 4) (nfZ 0) (nfZ 6) (nfZ 0) (nfZ 1) (nfZ 0) (nfZ 1) (nfZ 1) (sfZ 0) ⟨#[1]⟩ (sfZ 0) ⟨#[1]⟩ (sfZ 2) ⟨#[1]⟩ (sfZ 0) ⟨#[1]⟩ (sfZ 0) ⟨#[1]⟩ (sfZ 2) ⟨#[1]⟩ (sfZ 4) ⟨#[1]⟩ (sfZ 0) ⟨#[1]⟩ (sfZ 6) ⟨#[1]⟩ (sfZ 0) ⟨#[1]⟩ (sfZ 1) ⟨#[1]⟩ (sfZ 0) ⟨#[1]⟩ (sfZ 1) ⟨#[1]⟩ (sfZ 1) ⟨#[1]⟩ (nfZ 4) (sfZ 4) ⟨#[1]⟩ w ?_ ?_ ?_ ?_ ?_ ?_ ?_ ?_ ?_ ?_ ?_ ?_
 ·exact fun w1 => lat6_any 0 0 (by omega) (by omega) (by omega) (by omega) w1
 ·exact fun w1 => lat6_any 2 0 (by omega) (by omega) (by omega) (by omega) w1
 ·exact fun w1 => lat6_any 0 2 (by omega) (by omega) (by omega) (by omega) w1
 ·exact fun w1 => lat6_any 4 0 (by omega) (by omega) (by omega) (by omega) w1
 ·exact fun w1 => lat6_any 6 0 (by omega) (by omega) (by omega) (by omega) w1
 ·exact fun w1 => lat6_any 1 0 (by omega) (by omega) (by omega) (by omega) w1
 ·exact fun w1 => lat6_any 1 1 (by omega) (by omega) (by omega) (by omega) w1
 ·exact fun w1 => roq_any 4 (by omega) (by omega) w1
 ·intro w1 b
  have := cenI ((0 : Int) : Rat) ((0 : Int) : Rat) ((2 : Int) : Rat) ((0 : Int) : Rat) ((0 : Int) : Rat) ((2 : Int) : Rat) (by omega : 1 ≤ 100) (bq_int 0 (by omega) (by omega)) (bq_int 0 (by omega) (by omega)) (bq_int 2 (by omega) (by omega)) (bq_int 0 (by omega) (by omega)) (bq_int 0 (by omega) (by omega)) (bq_int 2 (by omega) (by omega)) w1 (hT.below b) (by decide +kernel) (cx := ((1 : Int) : Rat)) (cy := ((1 : Int) : Rat)) (by decide +kernel) (by decide +kernel) (M' := 1) (by omega) (by omega) (bq_int 1 (by omega) (by omega)) (bq_int 1 (by omega) (by omega))
  rw [show ((0 : Int) : Rat) + ((1 : Int) : Rat) = ((1 : Int) : Rat) by decide +kernel] at this
  simp only [pq_int] at this
  exact this
 ·intro w1 b
  have := nearI_b ((0 : Int) : Rat) ((0 : Int) : Rat) ((4 : Int) : Rat) ((0 : Int) : Rat) ((6 : Int) : Rat) ((0 : Int) : Rat) (by omega : 1 ≤ 100) (bq_int 0 (by omega) (by omega)) (bq_int 0 (by omega) (by omega)) (bq_int 4 (by omega) (by omega)) (bq_int 0 (by omega) (by omega)) (bq_int 6 (by omega) (by omega)) (bq_int 0 (by omega) (by omega)) w1 (hT.below b) (by decide +kernel) (by decide +kernel) (by decide +kernel)
  rw [show (((6 : Int) : Rat) - ((4 : Int) : Rat)) * (((6 : Int) : Rat) - ((4 : Int) : Rat)) + (((0 : Int) : Rat) - ((0 : Int) : Rat)) * (((0 : Int) : Rat) - ((0 : Int) : Rat)) = ((4 : Int) : Rat) by decide +kernel] at this
  simp only [pq_int] at this
  exact this
 ·intro w1 b
  have := sharpI ((1 : Int) : Rat) ((0 : Int) : Rat) ((0 : Int) : Rat) ((0 : Int) : Rat) ((1 : Int) : Rat) ((1 : Int) : Rat) (by omega : 1 ≤ 100) (bq_int 1 (by omega) (by omega)) (bq_int 0 (by omega) (by omega)) (bq_int 0 (by omega) (by omega)) (bq_int 0 (by omega) (by omega)) (bq_int 1 (by omega) (by omega)) (bq_int 1 (by omega) (by omega)) w1 (hT.below b) (by decide +kernel) (by decide +kernel)
  rw [show shp (((1 : Int) : Rat) - ((0 : Int) : Rat)) (((0 : Int) : Rat) - ((0 : Int) : Rat)) (((1 : Int) : Rat) - ((0 : Int) : Rat)) (((1 : Int) : Rat) - ((0 : Int) : Rat)) = true by decide +kernel] at this
  simp only [pq_int] at this
  exact this
 ·intro w1 b
  have := cenI_flat ((0 : Int) : Rat) ((0 : Int) : Rat) ((1 : Int) : Rat) ((0 : Int) : Rat) ((2 : Int) : Rat) ((0 : Int) : Rat) (by omega : 1 ≤ 100) (bq_int 0 (by omega) (by omega)) (bq_int 0 (by omega) (by omega)) (bq_int 1 (by omega) (by omega)) (bq_int 0 (by omega) (by omega)) (bq_int 2 (by omega) (by omega)) (bq_int 0 (by omega) (by omega)) w1 (hT.below b) (by decide +kernel)
  simp only [pq_int] at this
  exact this
theorem cNear_mid (n0 n1 n2 n3 n4 n5 : Bool) (s0 d0 s1 d1 s2 d2 s3 d3 s4 d4 s5 d5 : ByteArray) (ux uy vx vy tx ty : Rat) (w : World) (hT : Tab w)
  (HC : Hid (∀ (w1 : World) (B : Nat), Below w.heap.size w w1 → Cel w1 B [.bool n0, .string s0, .string d0, .bool n1, .string s1, .string d1, .bool n2, .string s2, .string d2, .bool n3, .string s3, .string d3, .bool n4, .string s4, .string d4, .bool n5, .string s5, .string d5] 28 → Calls Tryz.prog 45 #[.slice (some ⟨B, 0, none⟩) 3 3] w1 (Re w1 (.int .i64 0))))
  (q1 : ∀ w1, (binOp .eql 28 (.agg #[.bool n0, .string s0, .string d0, .bool n1, .string s1, .string d1]) (.agg #[.bool n2, .string s2, .string d2, .bool n3, .string s3, .string d3])).run Tryz.prog w1 = .ok (.bool false) w1)
  (H1 : Hid (∀ w1, Calls Tryz.prog 70 #[.agg #[.bool n0, .string s0, .string d0, .bool n1, .string s1, .string d1], .agg #[.bool n2, .string s2, .string d2, .bool n3, .string s3, .string d3]] w1 fun e w' => ∃ m0 a0 l0 c0 m1 a1 l1 c1 a2 l2 c2 X Y U, e = .returned (.agg #[.bool m0, .slice a0 l0 c0, .bool m1, .slice a1 l1 c1, .bool false, .slice a2 l2 c2]) ∧ SpV w' m0 a0 l0 c0 m1 a1 l1 c1 a2 l2 c2 X Y U ux uy ∧ Below w1.heap.size w1 w'))
  (H2 : Hid (∀ w1, Calls Tryz.prog 70 #[.agg #[.bool n0, .string s0, .string d0, .bool n1, .string s1, .string d1], .agg #[.bool n4, .string s4, .string d4, .bool n5, .string s5, .string d5]] w1 fun e w' => ∃ m0 a0 l0 c0 m1 a1 l1 c1 a2 l2 c2 X Y U, e = .returned (.agg #[.bool m0, .slice a0 l0 c0, .bool m1, .slice a1 l1 c1, .bool false, .slice a2 l2 c2]) ∧ SpV w' m0 a0 l0 c0 m1 a1 l1 c1 a2 l2 c2 X Y U vx vy ∧ Below w1.heap.size w1 w')) (hd : ¬ Gm.sg (ux * vx + uy * vy) ≤ 0) (hb : ¬ 0 ≤ Gm.sg (ux * tx + uy * ty)) (hn : ux * ux + uy * uy ≠ 0)
  (H3 : Hid (∀ w1, Calls Tryz.prog 70 #[.agg #[.bool n2, .string s2, .string d2, .bool n3, .string s3, .string d3], .agg #[.bool n4, .string s4, .string d4, .bool n5, .string s5, .string d5]] w1 fun e w' => ∃ m0 a0 l0 c0 m1 a1 l1 c1 a2 l2 c2 X Y U, e = .returned (.agg #[.bool m0, .slice a0 l0 c0, .bool m1, .slice a1 l1 c1, .bool false, .slice a2 l2 c2]) ∧ NV w' m0 (.slice a0 l0 c0) X 53 ∧ NV w' m1 (.slice a1 l1 c1) Y 53 ∧ NV w' false (.slice a2 l2 c2) U 52 ∧ Gm.Way X Y U tx ty ∧ Below w1.heap.size w1 w')) :
  Calls Tryz.prog 34 #[.agg #[.bool n0, .string s0, .string d0, .bool n1, .string s1, .string d1], .agg #[.bool n2, .string s2, .string d2, .bool n3, .string s3, .string d3], .agg #[.bool n4, .string s4, .string d4, .bool n5, .string s5, .string d5]] w (Re w (.tuple #[.agg #[.bool (nfZ ((ux * vy - uy * vx) * (ux * vy - uy * vx) / (ux * ux + uy * uy)).num), .string (sfZ ((ux * vy - uy * vx) * (ux * vy - uy * vx) / (ux * ux + uy * uy)).num), .string (strOf ((ux * vy - uy * vx) * (ux * vy - uy * vx) / (ux * ux + uy * uy)).den)], .int .i64 0])) := by
 go_enter Tryz.func34, Tryz.ntmps34
 go_wp2_with fail
 obtain ⟨w0, hw, ka, kb, kc, kr, kl, bb⟩ := mk5 w [.bool n0, .string s0, .string d0, .bool n1, .string s1, .string d1] [.bool n2, .string s2, .string d2, .bool n3, .string s3, .string d3] [.bool n4, .string s4, .string d4, .bool n5, .string s5, .string d5] [.bool false, .string { data := #[] }, .string { data := #[] }] [.bool n0, .string s0, .string d0, .bool n1, .string s1, .string d1, .bool n2, .string s2, .string d2, .bool n3, .string s3, .string d3, .bool n4, .string s4, .string d4, .bool n5, .string s5, .string d5] 28 28 28 26 28
 rw [← hw]
 clear hw
 go_fit (HC.out _ _ bb kl)
 rintro e w1 ⟨rfl, b1⟩
 replace ka := ka.below b1
 replace kb := kb.below b1
 replace kc := kc.below b1
 replace kr := kr.below b1
 replace bb := Below.after bb b1
 clear b1 kl
 have tr := kr.lt
 obtain ⟨ca_0, ca_1, ca_2, ca_3, ca_4, ca_5⟩ := xk6 ka
 obtain ⟨cb_6, cb_7, cb_8, cb_9, cb_10, cb_11⟩ := xk6 kb
 obtain ⟨cc_12, cc_13, cc_14, cc_15, cc_16, cc_17⟩ := xk6 kc
 go_wp2_with fail
 clear ca_0 ca_1 ca_2 ca_3 ca_4 ca_5 cb_6 cb_7 cb_8 cb_9 cb_10 cb_11 cc_12 cc_13 cc_14 cc_15 cc_16 cc_17
 have mk : Hid (∀ w', SB w1 w' → xc6 w' w.heap.size (.bool n0) (.string s0) (.string d0) (.bool n1) (.string s1) (.string d1) ∧ xc6 w' (w.heap.size + 1) (.bool n2) (.string s2) (.string d2) (.bool n3) (.string s3) (.string d3) ∧ xc6 w' (w.heap.size + 1 + 1) (.bool n4) (.string s4) (.string d4) (.bool n5) (.string s5) (.string d5)) := fun w' h => ⟨xk6 (ka.below h), xk6 (kb.below h), xk6 (kc.below h)⟩
 go_cut [9, 10] from 27 to 32 (fun v u wx => ∃ gc gd m1 a1 l1 c1 m2 a2 l2 c2 a3 l3 c3 X1 Y1 U1 m4 a4 l4 c4 m5 a5 l5 c5 a6 l6 c6 X4 Y4 U4, v = .pointer (some ⟨gc, 0, none⟩) ∧ u = .pointer (some ⟨gd, 0, none⟩) ∧ w1.heap.size ≤ gc ∧ w1.heap.size ≤ gd ∧ Cel wx gc [.bool m1, .slice a1 l1 c1, .bool m2, .slice a2 l2 c2, .bool false, .slice a3 l3 c3] 74 ∧ Cel wx gd [.bool m4, .slice a4 l4 c4, .bool m5, .slice a5 l5 c5, .bool false, .slice a6 l6 c6] 74 ∧ SpV wx m1 a1 l1 c1 m2 a2 l2 c2 a3 l3 c3 X1 Y1 U1 ux uy ∧ SpV wx m4 a4 l4 c4 m5 a5 l5 c5 a6 l6 c6 X4 Y4 U4 vx vy ∧ Below w1.heap.size w1 wx)
 case first =>
  clear HC q1 H3
  refine wp_region_held_drew (S := SB w1) (by kernel_rfl) (bdrew _) (fun bc => ?_)
  refine WA.start (n := 10) (by kernel_rfl) ?_
  refine WA.tl 0 rfl ?_
  refine WA.tl 1 rfl ?_
  refine WA.tl 3 rfl ?_
  refine WA.tl 4 rfl ?_
  refine WA.gen2 (i := 6) (s := 9) (i' := 7) (s' := 10) undef undef (Pt w1 [.bool false, .slice none 0 0, .bool false, .slice none 0 0, .bool false, .slice none 0 0] 74) (Pt w1 [.bool false, .slice none 0 0, .bool false, .slice none 0 0, .bool false, .slice none 0 0] 74) (fun b b' x x' hz hy hn => ?_)
  simp only [Act.put, List.setIfInBounds_toArray, List.set_cons_zero, List.set_cons_succ]
  replace hz := P2.mk hz hy hn
  clear hy hn
  revert b b' x x'
  refine WA.two 10 27 2 6 7 rfl rfl rfl bc ?_
  clear bc
  intro b b' x x' w' hz bx bc K hK
  clear bx
  simp only [List.getElem_toArray, List.getElem_cons_succ, List.getElem_cons_zero]
  go_simp
  go_fit (H1.out _)
  rintro e wn ⟨m1, a1, l1, c1, m2, a2, l2, c2, a3, l3, c3, X1, Y1, U1, rfl, sv1, bn⟩
  replace bc := Below.after bc bn
  try go_wp2_with fail
  refine hK.out _ _ bc (fun _ => ?_)
  replace hz := hz.below bn
  clear hK K bn
  revert b b' x x'
  refine WA.two 10 31 5 6 7 rfl rfl rfl bc ?_
  clear bc
  intro b b' x x' w' hz bx bc K hK
  replace sv1 := sv1.below bx
  clear bx
  simp only [List.getElem_toArray, List.getElem_cons_succ, List.getElem_cons_zero]
  go_simp
  go_fit (H2.out _)
  rintro e wn ⟨m4, a4, l4, c4, m5, a5, l5, c5, a6, l6, c6, X4, Y4, U4, rfl, sv4, bn⟩
  replace bc := Below.after bc bn
  try go_wp2_with fail
  refine hK.out _ _ bc (fun _ => ?_)
  replace hz := hz.below bn
  replace sv1 := sv1.below bn
  clear hK K bn
  revert b b' x x'
  refine WA.fin2 6 7 rfl rfl bc ?_
  clear bc
  intro x x' w' hz bx bc
  replace sv1 := sv1.below bx
  replace sv4 := sv4.below bx
  obtain ⟨g0, rfl, h0, k0⟩ := hz.p rfl
  obtain ⟨g1, rfl, h1, k1⟩ := hz.p' rfl
  have n01 : ¬ g0 = g1 := fun e => hz.ne rfl rfl (by rw [e])
  clear bx hz
  obtain ⟨e0, e1, e2, e3, e4, e5⟩ := xk6 k0
  have f0 := Cel.frozen k0 0
  have f1 := Cel.frozen k0 1
  have f2 := Cel.frozen k0 2
  have f3 := Cel.frozen k0 3
  have f4 := Cel.frozen k0 4
  have f5 := Cel.frozen k0 5
  refine WA.call 8 rfl (fun K hK => ?_)
  simp only [List.getElem_toArray, List.getElem_cons_succ, List.getElem_cons_zero]
  go_simp
  try go_wp2_with fail
  clear e0 f0 e1 f1 e2 f2 e3 f3 e4 f4 e5 f5
  replace bc := (bset (bset (bset (bset (bset (bset bc h0 0 (.bool m1)) h0 1 (.slice a1 l1 c1)) h0 2 (.bool m2)) h0 3 (.slice a2 l2 c2)) h0 4 (.bool false)) h0 5 (.slice a3 l3 c3))
  refine hK.out _ _ bc (fun _ => ?_)
  clear hK K
  replace sv1 := sv1.set6 k0 (.bool m1) (.slice a1 l1 c1) (.bool m2) (.slice a2 l2 c2) (.bool false) (.slice a3 l3 c3)
  replace sv4 := sv4.set6 k0 (.bool m1) (.slice a1 l1 c1) (.bool m2) (.slice a2 l2 c2) (.bool false) (.slice a3 l3 c3)
  replace k0 := (Cel.set (Cel.set (Cel.set (Cel.set (Cel.set (Cel.set k0 0 (.bool m1)) 1 (.slice a1 l1 c1)) 2 (.bool m2)) 3 (.slice a2 l2 c2)) 4 (.bool false)) 5 (.slice a3 l3 c3))
  replace k1 := (Cel.other (Cel.other (Cel.other (Cel.other (Cel.other (Cel.other k1 (fun e => n01 e.symm) 0 (.bool m1)) (fun e => n01 e.symm) 1 (.slice a1 l1 c1)) (fun e => n01 e.symm) 2 (.bool m2)) (fun e => n01 e.symm) 3 (.slice a2 l2 c2)) (fun e => n01 e.symm) 4 (.bool false)) (fun e => n01 e.symm) 5 (.slice a3 l3 c3))
  obtain ⟨e0, e1, e2, e3, e4, e5⟩ := xk6 k1
  have f0 := Cel.frozen k1 0
  have f1 := Cel.frozen k1 1
  have f2 := Cel.frozen k1 2
  have f3 := Cel.frozen k1 3
  have f4 := Cel.frozen k1 4
  have f5 := Cel.frozen k1 5
  refine WA.call 9 rfl (fun K hK => ?_)
  simp only [List.getElem_toArray, List.getElem_cons_succ, List.getElem_cons_zero]
  go_simp
  try go_wp2_with fail
  clear e0 f0 e1 f1 e2 f2 e3 f3 e4 f4 e5 f5
  replace bc := (bset (bset (bset (bset (bset (bset bc h1 0 (.bool m4)) h1 1 (.slice a4 l4 c4)) h1 2 (.bool m5)) h1 3 (.slice a5 l5 c5)) h1 4 (.bool false)) h1 5 (.slice a6 l6 c6))
  refine hK.out _ _ bc (fun _ => ?_)
  clear hK K
  replace sv1 := sv1.set6 k1 (.bool m4) (.slice a4 l4 c4) (.bool m5) (.slice a5 l5 c5) (.bool false) (.slice a6 l6 c6)
  replace sv4 := sv4.set6 k1 (.bool m4) (.slice a4 l4 c4) (.bool m5) (.slice a5 l5 c5) (.bool false) (.slice a6 l6 c6)
  replace k0 := (Cel.other (Cel.other (Cel.other (Cel.other (Cel.other (Cel.other k0 n01 0 (.bool m4)) n01 1 (.slice a4 l4 c4)) n01 2 (.bool m5)) n01 3 (.slice a5 l5 c5)) n01 4 (.bool false)) n01 5 (.slice a6 l6 c6))
  replace k1 := (Cel.set (Cel.set (Cel.set (Cel.set (Cel.set (Cel.set k1 0 (.bool m4)) 1 (.slice a4 l4 c4)) 2 (.bool m5)) 3 (.slice a5 l5 c5)) 4 (.bool false)) 5 (.slice a6 l6 c6))
  refine WA.done (by kernel_rfl) ?_
  go_wp2_with fail
  go_meet
  exact ⟨_, _, m1, a1, l1, c1, m2, a2, l2, c2, a3, l3, c3, X1, Y1, U1, m4, a4, l4, c4, m5, a5, l5, c5, a6, l6, c6, X4, Y4, U4, rfl, rfl, h0, h1, k0, k1, sv1, sv4, bc⟩
 case rest =>
 obtain ⟨gu, gv, m1, a1, l1, c1, m2, a2, l2, c2, a3, l3, c3, X1, Y1, U1, m4, a4, l4, c4, m5, a5, l5, c5, a6, l6, c6, X4, Y4, U4, rfl, rfl, lu, lv, ku, kv, sv1, sv4, b1⟩ := hcut
 clear mk; have sz := b1.size
 replace ka := ka.below b1
 replace kb := kb.below b1
 replace kc := kc.below b1
 replace kr := kr.below b1
 replace bb := Below.after bb b1
 clear b1
 have tu := ku.lt
 have tv := kv.lt
 obtain ⟨cu_0, cu_1, cu_2, cu_3, cu_4, cu_5⟩ := xk6 ku
 obtain ⟨cv_6, cv_7, cv_8, cv_9, cv_10, cv_11⟩ := xk6 kv
 go_wp2_with fail
 clear cu_0 cu_1 cu_2 cu_3 cu_4 cu_5 cv_6 cv_7 cv_8 cv_9 cv_10 cv_11
 go_fit (sdot_any _ _ _ _ _ _ _ _ _ _ _ _ _ _ _ _ _ _ _ _ _ _ _ _ X1 Y1 X4 Y4 53 _ (by omega) sv1.1 sv1.2.1 sv4.1 sv4.2.1)
 rintro e w2 ⟨m7, v7, rfl, nv7, b1⟩
 obtain ⟨a7, l7, c7, rfl⟩ := nv7.slice
 replace ka := ka.below b1
 replace kb := kb.below b1
 replace kc := kc.below b1
 replace kr := kr.below b1
 replace ku := ku.below b1
 replace kv := kv.below b1
 replace sv1 := sv1.below b1
 replace sv4 := sv4.below b1
 replace bb := Below.after bb b1
 clear b1
 go_wp2_with fail
 go_fit (nsign_any _ _ (X1 * X4 + Y1 * Y4) (53 + 53 + 1) _ nv7)
 rintro e w3 ⟨rfl, b1⟩
 clear nv7
 replace ka := ka.below b1
 replace kb := kb.below b1
 replace kc := kc.below b1
 replace kr := kr.below b1
 replace ku := ku.below b1
 replace kv := kv.below b1
 replace sv1 := sv1.below b1
 replace sv4 := sv4.below b1
 replace bb := Below.after bb b1
 clear b1
 rw [Gm.dot_sign sv1.2.2.2 sv4.2.2.2]
 obtain ⟨nx, ny, nu, hw1⟩ := sv1
 obtain ⟨nz, nw, nt, hw4⟩ := sv4
 go_wp2_with fail
 have bd := bdrew w3
 replace ka := ka.below bd
 replace kb := kb.below bd
 replace kc := kc.below bd
 replace kr := kr.below bd
 replace ku := ku.below bd
 replace kv := kv.below bd
 replace nx := nx.below bd
 replace ny := ny.below bd
 replace nu := nu.below bd
 replace nz := nz.below bd
 replace nw := nw.below bd
 replace nt := nt.below bd
 replace bb := Below.after bb bd
 clear bd
 refine wp_region_held_drew (S := fun w' => xc6 w' gu (.bool m1) (.slice a1 l1 c1) (.bool m2) (.slice a2 l2 c2) (.bool false) (.slice a3 l3 c3) ∧ xc6 w' (w.heap.size + 1) (.bool n2) (.string s2) (.string d2) (.bool n3) (.string s3) (.string d3) ∧ xc6 w' (w.heap.size + 1 + 1) (.bool n4) (.string s4) (.string d4) (.bool n5) (.string s5) (.string d5)) (by kernel_rfl) ⟨xk6 ku, xk6 kb, xk6 kc⟩ (fun hS => ?_)
 refine WA.start (n := 8) (by kernel_rfl) ?_
 refine WA.tp 0 rfl ?_
 refine WA.tp 1 rfl ?_
 refine WA.tp 2 rfl ?_
 refine WA.cal 3 rfl (fun K hK => ?_)
 simp only [List.getElem_toArray, List.getElem_cons_succ, List.getElem_cons_zero]
 go_simp
 go_fit (H3.out _)
 rintro e wn ⟨m20, a20, l20, c20, m21, a21, l21, c21, a22, l22, c22, X9, Y9, U9, rfl, nv20, nv21, nv22, hw9, bn⟩
 replace ka := ka.below bn
 replace kb := kb.below bn
 replace kc := kc.below bn
 replace kr := kr.below bn
 replace ku := ku.below bn
 replace kv := kv.below bn
 replace nx := nx.below bn
 replace ny := ny.below bn
 replace nu := nu.below bn
 replace nz := nz.below bn
 replace nw := nw.below bn
 replace nt := nt.below bn
 replace bb := Below.after bb bn
 try go_wp2_with fail
 clear hS
 refine hK.out _ _ ⟨xk6 ku, xk6 kb, xk6 kc⟩ (fun hS => ?_)
 clear hK K bn
 refine WA.cal 4 rfl (fun K hK => ?_)
 simp only [List.getElem_toArray, List.getElem_cons_succ, List.getElem_cons_zero]
 go_simp
 go_fit (sdot_any _ _ _ _ _ _ _ _ _ _ _ _ _ _ _ _ _ _ _ _ _ _ _ _ X1 Y1 X9 Y9 53 _ (by omega) nx ny nv20 nv21)
 rintro e wn ⟨m8, v8, rfl, nv8, bn⟩
 obtain ⟨a8, l8, c8, rfl⟩ := nv8.slice
 have hz : ¬ (0 : Int) ≤ X1 * X9 + Y1 * Y9 := fun k => by have k2 := Int.sign_nonneg_iff.2 k; rw [Gm.dot_sign hw1 hw9] at k2; omega
 replace ka := ka.below bn
 replace kb := kb.below bn
 replace kc := kc.below bn
 replace kr := kr.below bn
 replace ku := ku.below bn
 replace kv := kv.below bn
 replace nx := nx.below bn
 replace ny := ny.below bn
 replace nu := nu.below bn
 replace nz := nz.below bn
 replace nw := nw.below bn
 replace nt := nt.below bn
 replace nv20 := nv20.below bn
 replace nv21 := nv21.below bn
 replace bb := Below.after bb bn
 try go_wp2_with fail
 clear hS
 refine hK.out _ _ ⟨xk6 ku, xk6 kb, xk6 kc⟩ (fun hS => ?_)
 clear hK K bn
 refine WA.cal 5 rfl (fun K hK => ?_)
 simp only [List.getElem_toArray, List.getElem_cons_succ, List.getElem_cons_zero]
 go_simp
 go_fit (nsign_any _ _ (X1 * X9 + Y1 * Y9) (53 + 53 + 1) _ nv8)
 rintro e wn ⟨rfl, bn⟩
 replace ka := ka.below bn
 replace kb := kb.below bn
 replace kc := kc.below bn
 replace kr := kr.below bn
 replace ku := ku.below bn
 replace kv := kv.below bn
 replace nx := nx.below bn
 replace ny := ny.below bn
 replace nu := nu.below bn
 replace nz := nz.below bn
 replace nw := nw.below bn
 replace nt := nt.below bn
 replace nv20 := nv20.below bn
 replace nv21 := nv21.below bn
 replace nv8 := nv8.below bn
 replace bb := Below.after bb bn
 try go_wp2_with fail
 clear hS
 refine hK.out _ _ ⟨xk6 ku, xk6 kb, xk6 kc⟩ (fun hS => ?_)
 clear hK K bn
 refine WA.tp 6 rfl ?_
 refine WA.tp 7 rfl ?_
 refine WA.done (by kernel_rfl) ?_
 clear hS
 clear nv20 nv21 nv22 nv8 H3
 obtain ⟨cu_0, cu_1, cu_2, cu_3, cu_4, cu_5⟩ := xk6 ku
 obtain ⟨cv_6, cv_7, cv_8, cv_9, cv_10, cv_11⟩ := xk6 kv
 go_wp2_with fail
 clear cu_0 cu_1 cu_2 cu_3 cu_4 cu_5 cv_6 cv_7 cv_8 cv_9 cv_10 cv_11
 go_fit (scross_any _ _ _ _ _ _ _ _ _ _ _ _ _ _ _ _ _ _ _ _ _ _ _ _ X1 Y1 X4 Y4 53 _ (by omega) nx ny nz nw)
 rintro e w5 ⟨m10, v10, rfl, nv10, b1⟩
 obtain ⟨a10, l10, c10, rfl⟩ := nv10.slice
 replace ka := ka.below b1
 replace kb := kb.below b1
 replace kc := kc.below b1
 replace kr := kr.below b1
 replace ku := ku.below b1
 replace kv := kv.below b1
 replace nx := nx.below b1
 replace ny := ny.below b1
 replace nu := nu.below b1
 replace nz := nz.below b1
 replace nw := nw.below b1
 replace nt := nt.below b1
 replace bb := Below.after bb b1
 clear b1
 have t5 := kr.lt
 go_wp2_with fail
 obtain ⟨w6, hw, ks, b1⟩ := mk1 w5 [.bool m10, .slice a10 l10 c10] 72
 rw [← hw]
 clear hw
 have sz := b1.size
 replace ka := ka.below b1
 replace kb := kb.below b1
 replace kc := kc.below b1
 replace kr := kr.below b1
 replace ku := ku.below b1
 replace kv := kv.below b1
 replace nx := nx.below b1
 replace ny := ny.below b1
 replace nu := nu.below b1
 replace nz := nz.below b1
 replace nw := nw.below b1
 replace nt := nt.below b1
 replace nv10 := nv10.below b1
 replace bb := Below.after bb b1
 clear b1
 clear ka kb kc
 have ts := ks.lt
 have qu : gu ≠ w.heap.size + 1 + 1 + 1 := by omega
 have qv : gv ≠ w.heap.size + 1 + 1 + 1 := by omega
 have qs : w5.heap.size ≠ w.heap.size + 1 + 1 + 1 := by omega
 have bd := bdrew w6
 replace kr := kr.below bd
 replace ku := ku.below bd
 replace kv := kv.below bd
 replace ks := ks.below bd
 replace nx := nx.below bd
 replace ny := ny.below bd
 replace nu := nu.below bd
 replace nz := nz.below bd
 replace nw := nw.below bd
 replace nt := nt.below bd
 replace nv10 := nv10.below bd
 replace bb := Below.after bb bd
 clear bd
 have sp := Gm.near_pos hw1 hn
 refine wp_region_held_drew (S := fun w' => xc2 w' w5.heap.size (.bool m10) (.slice a10 l10 c10) ∧ xc6 w' gu (.bool m1) (.slice a1 l1 c1) (.bool m2) (.slice a2 l2 c2) (.bool false) (.slice a3 l3 c3) ∧ xc6 w' gv (.bool m4) (.slice a4 l4 c4) (.bool m5) (.slice a5 l5 c5) (.bool false) (.slice a6 l6 c6)) (by kernel_rfl) ⟨xk2 ks, xk6 ku, xk6 kv⟩ (fun hS => ?_)
 refine WA.start (n := 13) (by kernel_rfl) ?_
 refine WA.tp 0 rfl ?_
 refine WA.tp 1 rfl ?_
 refine WA.tp 3 rfl ?_
 refine WA.tp 5 rfl ?_
 refine WA.tp 6 rfl ?_
 refine WA.tp 7 rfl ?_
 refine WA.tp 8 rfl ?_
 refine WA.cal 2 rfl (fun K hK => ?_)
 simp only [List.getElem_toArray, List.getElem_cons_succ, List.getElem_cons_zero]
 go_simp
 go_fit (ntimes_any _ _ _ _ (X1 * Y4 - Y1 * X4) (X1 * Y4 - Y1 * X4) (53 + 53 + 1) (53 + 53 + 1) _ (by omega) (by omega) nv10 nv10)
 rintro e wn ⟨m11, v11, rfl, nv11, -, bn⟩
 obtain ⟨a11, l11, c11, rfl⟩ := nv11.slice
 replace kr := kr.below bn
 replace ku := ku.below bn
 replace kv := kv.below bn
 replace ks := ks.below bn
 replace nx := nx.below bn
 replace ny := ny.below bn
 replace nu := nu.below bn
 replace nz := nz.below bn
 replace nw := nw.below bn
 replace nt := nt.below bn
 replace nv10 := nv10.below bn
 replace bb := Below.after bb bn
 try go_wp2_with fail
 clear hS
 refine hK.out _ _ ⟨xk2 ks, xk6 ku, xk6 kv⟩ (fun hS => ?_)
 clear hK K bn
 refine WA.cal 4 rfl (fun K hK => ?_)
 simp only [List.getElem_toArray, List.getElem_cons_succ, List.getElem_cons_zero]
 go_simp
 go_fit (ssquare_any _ _ _ _ _ _ _ _ _ _ _ _ X1 Y1 53 _ (by omega) nx ny)
 rintro e wn ⟨m12, v12, rfl, nv12, bn⟩
 obtain ⟨a12, l12, c12, rfl⟩ := nv12.slice
 replace kr := kr.below bn
 replace ku := ku.below bn
 replace kv := kv.below bn
 replace ks := ks.below bn
 replace nx := nx.below bn
 replace ny := ny.below bn
 replace nu := nu.below bn
 replace nz := nz.below bn
 replace nw := nw.below bn
 replace nt := nt.below bn
 replace nv10 := nv10.below bn
 replace nv11 := nv11.below bn
 replace bb := Below.after bb bn
 try go_wp2_with fail
 clear hS
 refine hK.out _ _ ⟨xk2 ks, xk6 ku, xk6 kv⟩ (fun hS => ?_)
 clear hK K bn
 refine WA.cal 9 rfl (fun K hK => ?_)
 simp only [List.getElem_toArray, List.getElem_cons_succ, List.getElem_cons_zero]
 go_simp
 try go_wp2_with fail
 obtain ⟨wm, hw, kB, bn⟩ := mk1 _ [.bool m12, .slice a12 l12 c12, .bool false, .slice a6 l6 c6, .bool false, .slice a6 l6 c6] 72
 rw [← hw]
 clear hw
 replace kr := kr.below bn
 replace ku := ku.below bn
 replace kv := kv.below bn
 replace ks := ks.below bn
 replace nx := nx.below bn
 replace ny := ny.below bn
 replace nu := nu.below bn
 replace nz := nz.below bn
 replace nw := nw.below bn
 replace nt := nt.below bn
 replace nv10 := nv10.below bn
 replace nv11 := nv11.below bn
 replace nv12 := nv12.below bn
 replace bb := Below.after bb bn
 clear hS
 refine hK.out _ _ ⟨xk2 ks, xk6 ku, xk6 kv⟩ (fun hS => ?_)
 clear hK K bn
 refine WA.cal 10 rfl (fun K hK => ?_)
 simp only [List.getElem_toArray, List.getElem_cons_succ, List.getElem_cons_zero]
 go_simp
 go_fit (nover3 _ _ _ _ _ _ _ _ _ _ _ _ _ _ ((X1 * Y4 - Y1 * X4) * (X1 * Y4 - Y1 * X4)) (X1 * X1 + Y1 * Y1) U4 U4 (53 + 53 + 1 + (53 + 53 + 1)) _ _ (hT.below bb) (by omega) sp hw4.1 hw4.1 nv11 (nv12.mono (by omega)) (nt.mono (by omega)) (nt.mono (by omega)) kB (Gm.near_eq hw1 hw4 hn))
 rintro e wn ⟨rfl, bn⟩
 replace kr := kr.below bn
 replace ku := ku.below bn
 replace kv := kv.below bn
 replace ks := ks.below bn
 replace kB := kB.below bn
 replace nx := nx.below bn
 replace ny := ny.below bn
 replace nu := nu.below bn
 replace nz := nz.below bn
 replace nw := nw.below bn
 replace nt := nt.below bn
 replace nv10 := nv10.below bn
 replace nv11 := nv11.below bn
 replace nv12 := nv12.below bn
 replace bb := Below.after bb bn
 try go_wp2_with fail
 clear hS
 refine hK.out _ _ ⟨xk2 ks, xk6 ku, xk6 kv⟩ (fun hS => ?_)
 clear hK K bn
 obtain ⟨e0, e1, e2⟩ := xk3 kr
 have f0 := Cel.frozen kr 0
 have f1 := Cel.frozen kr 1
 have f2 := Cel.frozen kr 2
 refine WA.cal 11 rfl (fun K hK => ?_)
 simp only [List.getElem_toArray, List.getElem_cons_succ, List.getElem_cons_zero]
 go_simp
 try go_wp2_with fail
 clear e0 f0 e1 f1 e2 f2
 clear hS
 refine hK.out _ _ ⟨xk2 (ks.oth3 qs _ _ _), xk6 (ku.oth3 qu _ _ _), xk6 (kv.oth3 qv _ _ _)⟩ (fun hS => ?_)
 clear hK K
 refine WA.tp 12 rfl ?_
 refine WA.done (by kernel_rfl) ?_
 clear hS
 go_wp2_with fail
 exact post_q1 (p := 6) (u := 7) (v := .int .i64 0) (by kernel_rfl) rfl rfl rfl (((kr.set 0 _).set 1 _).set 2 _) ⟨rfl, bset (bset (bset bb (by omega) 0 _) (by omega) 1 _) (by omega) 2 _⟩
theorem vqm_add {a b : Rat} {k j : Nat} (ha : Bq a k) (hb : Bq b j) : Bq (a + b) (k + j + 1) := by
 rw [Rat.add_def']
 exact vq_mk (Nat.mul_pos a.den_pos b.den_pos) ((ha.1.mul hb.2).add ((hb.1.mul ha.2).mono (by omega))) ((vd_cast _ _ ha.2 hb.2).mono (by omega))
theorem vqm_sub {a b : Rat} {k j : Nat} (ha : Bq a k) (hb : Bq b j) : Bq (a - b) (k + j + 1) := by
 rw [Rat.sub_eq_add_neg]
 exact vqm_add ha (vq_neg hb)
theorem vqm_mul {a b : Rat} {k j : Nat} (ha : Bq a k) (hb : Bq b j) : Bq (a * b) (k + j) := by
 rw [Rat.mul_def']
 exact vq_mk (Nat.mul_pos a.den_pos b.den_pos) (ha.1.mul hb.1) (vd_cast _ _ ha.2 hb.2)
theorem rorderI (x y : Rat) {K : Nat} (hK : K ≤ 4000) (b0 : Bq x K) (b1 : Bq y K) (w : World) : Calls Tryz.prog 39 #[rq x, rq y] w (Re w (.int .i64 (Q.cmp x y))) := by
 have := rorderq_any (nfZ x.num) (nfZ y.num) (sfZ x.num) (strOf x.den) (sfZ y.num) (strOf y.den) w (okQ_qI x) (okQ_qI y) hK (bq_sz (Nat.le_refl _) b0).1 (bq_sz (Nat.le_refl _) b0).2 (bq_sz (Nat.le_refl _) b1).1 (bq_sz (Nat.le_refl _) b1).2
 rwa [qOf_one, qOf_one] at this
theorem far6J (x0 y0 x1 y1 : Rat) {K M' : Nat} (hK : K ≤ M') (hM : M' + M' + 4 + (K + K) ≤ 4000) (b0 : Bq x0 K) (b1 : Bq y0 K) (b2 : Bq x1 M') (b3 : Bq y1 M') (w : World) : Calls Tryz.prog 25 #[pq x0 y0, pq x1 y1] w (Re w (rq ((x1 - x0) * (x1 - x0) + (y1 - y0) * (y1 - y0)))) :=
 far6_walk _ _ _ _ _ _ _ _ _ _ _ _ _ _ _ _ _ _ _ _ _ w (fun w1 _ => rminusP x1 y1 x0 y0 (K := M') (by omega) b2 b3 (bq_mono b0 hK) (bq_mono b1 hK) w1) (fun w1 _ => rnormP (x1 - x0) (y1 - y0) (K := M' + K + 1) (by omega) (vqm_sub b2 b0) (vqm_sub b3 b1) w1)
theorem eqP (x y : Rat) : ∀ w1, (binOp .eql 28 (pq x y) (pq x y)).run Tryz.prog w1 = .ok (.bool true) w1 := fun w1 => by go_simp
theorem nearI_same (x0 y0 x2 y2 : Rat) {K : Nat} (hK : K ≤ 100) (b0 : Bq x0 K) (b1 : Bq y0 K) (b4 : Bq x2 K) (b5 : Bq y2 K) (w : World) (hT : Tab w) : Calls Tryz.prog 34 #[pq x0 y0, pq x0 y0, pq x2 y2] w (Ra w (.tuple #[rq ((x2 - x0) * (x2 - x0) + (y2 - y0) * (y2 - y0)), .int .i64 0])) :=
 cNear_same (nfZ x0.num) (nfZ y0.num) (nfZ x0.num) (nfZ y0.num) (nfZ x2.num) (nfZ y2.num) (sfZ x0.num) (strOf x0.den) (sfZ y0.num) (strOf y0.den) (sfZ x0.num) (strOf x0.den) (sfZ y0.num) (strOf y0.den) (sfZ x2.num) (strOf x2.den) (sfZ y2.num) (strOf y2.den) (nfZ (((x2 - x0) * (x2 - x0) + (y2 - y0) * (y2 - y0))).num) (sfZ (((x2 - x0) * (x2 - x0) + (y2 - y0) * (y2 - y0))).num) (strOf (((x2 - x0) * (x2 - x0) + (y2 - y0) * (y2 - y0))).den) w (chkI x0 y0 x0 y0 x2 y2 hK b0 b1 b0 b1 b4 b5 w hT) (eqP x0 y0) (fun w1 b => farI x0 y0 x2 y2 hK b0 b1 b4 b5 w1 (hT.below b))
theorem nearI_mid (x0 y0 x1 y1 x2 y2 : Rat) {K : Nat} (hK : K ≤ 100) (b0 : Bq x0 K) (b1 : Bq y0 K) (b2 : Bq x1 K) (b3 : Bq y1 K) (b4 : Bq x2 K) (b5 : Bq y2 K) (w : World) (hT : Tab w) (h1 : ¬ (x0 = x1 ∧ y0 = y1)) (hd : ¬ Gm.sg ((x1 - x0) * (x2 - x0) + (y1 - y0) * (y2 - y0)) ≤ 0) (hb : ¬ 0 ≤ Gm.sg ((x1 - x0) * (x2 - x1) + (y1 - y0) * (y2 - y1))) (hn : ((x1 - x0) * (x1 - x0) + (y1 - y0) * (y1 - y0)) ≠ 0) : Calls Tryz.prog 34 #[pq x0 y0, pq x1 y1, pq x2 y2] w (Ra w (.tuple #[rq (((x1 - x0) * (y2 - y0) - (y1 - y0) * (x2 - x0)) * ((x1 - x0) * (y2 - y0) - (y1 - y0) * (x2 - x0)) / ((x1 - x0) * (x1 - x0) + (y1 - y0) * (y1 - y0))), .int .i64 0])) :=
 cNear_mid (nfZ x0.num) (nfZ y0.num) (nfZ x1.num) (nfZ y1.num) (nfZ x2.num) (nfZ y2.num) (sfZ x0.num) (strOf x0.den) (sfZ y0.num) (strOf y0.den) (sfZ x1.num) (strOf x1.den) (sfZ y1.num) (strOf y1.den) (sfZ x2.num) (strOf x2.den) (sfZ y2.num) (strOf y2.den) (x1 - x0) (y1 - y0) (x2 - x0) (y2 - y0) (x2 - x1) (y2 - y1) w hT (chkI x0 y0 x1 y1 x2 y2 hK b0 b1 b2 b3 b4 b5 w hT) (neI _ _ _ _ h1) (ofI x0 y0 x1 y1 hK b0 b1 b2 b3) (ofI x0 y0 x2 y2 hK b0 b1 b4 b5) hd hb hn (fun w1 => (ofI x1 y1 x2 y2 hK b2 b3 b4 b5 w1).mono (fun e w' h => by obtain ⟨m0, a0, l0, c0, m1, a1, l1, c1, a2, l2, c2, X, Y, U, h1, h2, h3⟩ := h; exact ⟨m0, a0, l0, c0, m1, a1, l1, c1, a2, l2, c2, X, Y, U, h1, h2.1, h2.2.1, h2.2.2.1, h2.2.2.2, h3⟩))
theorem fracI (N M : Int) (h1 : 0 < M) (h2 : M ≤ 1000) (h3 : 0 ≤ N) (h4 : N ≤ M) (w : World) : Calls Tryz.prog 38 #[.int .i64 N, .int .i64 M] w (Re w (rq (Rat.divInt N M))) := by
 have bb : ∀ z : Int, 0 ≤ z → z ≤ 1000 → Bd z 2 := fun z a b => by unfold Bd; omega
 refine frac6_walk N M (nfZ N) (nfZ M) (sfZ N) (sfZ M) _ _ _ w (fun w1 _ => rof_any N (by omega) (by omega) w1) (fun w1 _ => rof_any M (by omega) (by omega) w1) (fun w1 _ => ?_)
 have := low_any (nfZ N) (nfZ M) (sfZ N) (sfZ M) w1 (okZ_nz N) (okZ_nz M) (Nat.le_trans (bd_sf (bb N h3 (by omega))) (by omega)) (Nat.le_trans (bd_sf (bb M (by omega) h2)) (by omega)) (by rw [natOf_sfZ]; omega)
 rw [zOf_nz, zOf_nz] at this
 exact this
theorem nearest6_P (x0 y0 x1 y1 x2 y2 k : Rat) {K : Nat} (hK : K ≤ 60) (b0 : Bq x0 K) (b1 : Bq y0 K) (b2 : Bq x1 K) (b3 : Bq y1 K) (b4 : Bq x2 K) (b5 : Bq y2 K) (h0 : 0 ≤ k) (h1 : k ≤ 1) (w : World) (hT : Tab w) :
  ∃ r : Rat, (∀ w1, Below w.heap.size w w1 → Calls Tryz.prog 34 #[pq x0 y0, pq x1 y1, pq x2 y2] w1 (Ra w1 (.tuple #[rq r, .int .i64 0]))) ∧ r ≤ (((x0 + (x1 - x0) * k) - x2) * ((x0 + (x1 - x0) * k) - x2) + ((y0 + (y1 - y0) * k) - y2) * ((y0 + (y1 - y0) * k) - y2)) ∧ Bq r (((K + K + 1) + (K + K + 1) + ((K + K + 1) + (K + K + 1)) + 1) + ((K + K + 1) + (K + K + 1) + ((K + K + 1) + (K + K + 1)) + 1) + ((K + K + 1) + (K + K + 1) + ((K + K + 1) + (K + K + 1)) + 1)) := by
 have bux := vqm_sub b2 b0
 have buy := vqm_sub b3 b1
 have bvx := vqm_sub b4 b0
 have bvy := vqm_sub b5 b1
 have bwx := vqm_sub b4 b2
 have bwy := vqm_sub b5 b3
 have bn := vqm_add (vqm_mul bux bux) (vqm_mul buy buy)
 have bm := vqm_add (vqm_mul bvx bvx) (vqm_mul bvy bvy)
 have bo := vqm_add (vqm_mul bwx bwx) (vqm_mul bwy bwy)
 have bc := vqm_sub (vqm_mul bux bvy) (vqm_mul buy bvx)
 have bs := vqm_mul (vqm_mul bc bc) (vq_inv bn)
 rw [← Rat.div_def] at bs
 have ek : (((x0 + (x1 - x0) * k) - x2) * ((x0 + (x1 - x0) * k) - x2) + ((y0 + (y1 - y0) * k) - y2) * ((y0 + (y1 - y0) * k) - y2)) = ((x2 - x0) * (x2 - x0) + (y2 - y0) * (y2 - y0)) - 2 * k * ((x2 - x0) * (x1 - x0) + (y2 - y0) * (y1 - y0)) + k * k * ((x1 - x0) * (x1 - x0) + (y1 - y0) * (y1 - y0)) := by grind
 rw [ek]
 by_cases hs : x0 = x1 ∧ y0 = y1
 ·obtain ⟨rfl, rfl⟩ := hs
  exact ⟨_, fun w1 b => nearI_same x0 y0 x2 y2 (by omega) b0 b1 b4 b5 w1 (hT.below b), by grind, bq_mono bm (by omega)⟩
 have hp : 0 < ((x1 - x0) * (x1 - x0) + (y1 - y0) * (y1 - y0)) := sq_pos (fun ⟨a, b⟩ => hs ⟨by grind, by grind⟩)
 have hn : ¬ ((x1 - x0) * (x1 - x0) + (y1 - y0) * (y1 - y0)) = 0 := fun e => by rw [e] at hp; exact absurd hp (by decide)
 have ec : (x1 - x0) * (x2 - x0) + (y1 - y0) * (y2 - y0) = ((x2 - x0) * (x1 - x0) + (y2 - y0) * (y1 - y0)) := by grind
 have eb : (x1 - x0) * (x2 - x1) + (y1 - y0) * (y2 - y1) = ((x2 - x0) * (x1 - x0) + (y2 - y0) * (y1 - y0)) - ((x1 - x0) * (x1 - x0) + (y1 - y0) * (y1 - y0)) := by grind
 by_cases hd : ((x2 - x0) * (x1 - x0) + (y2 - y0) * (y1 - y0)) ≤ 0
 ·refine ⟨_, fun w1 b => nearI_a x0 y0 x1 y1 x2 y2 (by omega) b0 b1 b2 b3 b4 b5 w1 (hT.below b) hs ?_, near_first hd (by grind) h0, bq_mono bm (by omega)⟩
  rw [ec]
  rcases Gm.sg_cases ((x2 - x0) * (x1 - x0) + (y2 - y0) * (y1 - y0)) with ⟨q, e⟩ | ⟨q, e⟩ | ⟨q, e⟩
  ·rw [e]; decide
  ·exact absurd q (by grind)
  ·rw [e]; decide
 have hd' : ¬ Gm.sg ((x1 - x0) * (x2 - x0) + (y1 - y0) * (y2 - y0)) ≤ 0 := by rw [ec, Gm.sg_pos (by grind)]; decide
 by_cases hb : ((x2 - x0) * (x1 - x0) + (y2 - y0) * (y1 - y0)) < ((x1 - x0) * (x1 - x0) + (y1 - y0) * (y1 - y0))
 ·refine ⟨_, fun w1 b => nearI_mid x0 y0 x1 y1 x2 y2 (by omega) b0 b1 b2 b3 b4 b5 w1 (hT.below b) hs hd' (by rw [eb, Gm.sg_neg (by grind)]; decide) hn, ?_, bq_mono bs (by omega)⟩
  have ht : (((x2 - x0) * (x1 - x0) + (y2 - y0) * (y1 - y0)) / ((x1 - x0) * (x1 - x0) + (y1 - y0) * (y1 - y0))) * ((x1 - x0) * (x1 - x0) + (y1 - y0) * (y1 - y0)) = ((x2 - x0) * (x1 - x0) + (y2 - y0) * (y1 - y0)) := Rat.div_mul_cancel hn
  have em := foot_eq (a := x0) (b := y0) (c := x1) (d := y1) (e := x2) (f := y2) (t := (((x2 - x0) * (x1 - x0) + (y2 - y0) * (y1 - y0)) / ((x1 - x0) * (x1 - x0) + (y1 - y0) * (y1 - y0)))) rfl ht hn
  rw [← em]
  have e2 : (((x0 + ((x1 - x0) * (((x2 - x0) * (x1 - x0) + (y2 - y0) * (y1 - y0)) / ((x1 - x0) * (x1 - x0) + (y1 - y0) * (y1 - y0))))) - x2) * ((x0 + ((x1 - x0) * (((x2 - x0) * (x1 - x0) + (y2 - y0) * (y1 - y0)) / ((x1 - x0) * (x1 - x0) + (y1 - y0) * (y1 - y0))))) - x2) + ((y0 + ((y1 - y0) * (((x2 - x0) * (x1 - x0) + (y2 - y0) * (y1 - y0)) / ((x1 - x0) * (x1 - x0) + (y1 - y0) * (y1 - y0))))) - y2) * ((y0 + ((y1 - y0) * (((x2 - x0) * (x1 - x0) + (y2 - y0) * (y1 - y0)) / ((x1 - x0) * (x1 - x0) + (y1 - y0) * (y1 - y0))))) - y2)) = ((x2 - x0) * (x2 - x0) + (y2 - y0) * (y2 - y0)) - 2 * (((x2 - x0) * (x1 - x0) + (y2 - y0) * (y1 - y0)) / ((x1 - x0) * (x1 - x0) + (y1 - y0) * (y1 - y0))) * ((x2 - x0) * (x1 - x0) + (y2 - y0) * (y1 - y0)) + (((x2 - x0) * (x1 - x0) + (y2 - y0) * (y1 - y0)) / ((x1 - x0) * (x1 - x0) + (y1 - y0) * (y1 - y0))) * ((((x2 - x0) * (x1 - x0) + (y2 - y0) * (y1 - y0)) / ((x1 - x0) * (x1 - x0) + (y1 - y0) * (y1 - y0))) * ((x1 - x0) * (x1 - x0) + (y1 - y0) * (y1 - y0))) := by
   generalize (((x2 - x0) * (x1 - x0) + (y2 - y0) * (y1 - y0)) / ((x1 - x0) * (x1 - x0) + (y1 - y0) * (y1 - y0))) = s
   grind
  rw [e2, ht, show ((x2 - x0) * (x2 - x0) + (y2 - y0) * (y2 - y0)) - 2 * (((x2 - x0) * (x1 - x0) + (y2 - y0) * (y1 - y0)) / ((x1 - x0) * (x1 - x0) + (y1 - y0) * (y1 - y0))) * ((x2 - x0) * (x1 - x0) + (y2 - y0) * (y1 - y0)) + (((x2 - x0) * (x1 - x0) + (y2 - y0) * (y1 - y0)) / ((x1 - x0) * (x1 - x0) + (y1 - y0) * (y1 - y0))) * ((x2 - x0) * (x1 - x0) + (y2 - y0) * (y1 - y0)) = ((x2 - x0) * (x2 - x0) + (y2 - y0) * (y2 - y0)) - (((x2 - x0) * (x1 - x0) + (y2 - y0) * (y1 - y0)) / ((x1 - x0) * (x1 - x0) + (y1 - y0) * (y1 - y0))) * ((x2 - x0) * (x1 - x0) + (y2 - y0) * (y1 - y0)) by generalize (((x2 - x0) * (x1 - x0) + (y2 - y0) * (y1 - y0)) / ((x1 - x0) * (x1 - x0) + (y1 - y0) * (y1 - y0))) = s; grind]
  exact near_between hp ht
 ·refine ⟨_, fun w1 b => nearI_b x0 y0 x1 y1 x2 y2 (by omega) b0 b1 b2 b3 b4 b5 w1 (hT.below b) hs hd' ?_, ?_, bq_mono bo (by omega)⟩
  ·rw [eb]
   rcases Gm.sg_cases (((x2 - x0) * (x1 - x0) + (y2 - y0) * (y1 - y0)) - ((x1 - x0) * (x1 - x0) + (y1 - y0) * (y1 - y0))) with ⟨q, e⟩ | ⟨q, e⟩ | ⟨q, e⟩
   ·rw [e]; decide
   ·rw [e]; decide
   ·exact absurd q (by grind)
  ·rw [show ((x2 - x1) * (x2 - x1) + (y2 - y1) * (y2 - y1)) = ((x2 - x0) * (x2 - x0) + (y2 - y0) * (y2 - y0)) - 2 * ((x2 - x0) * (x1 - x0) + (y2 - y0) * (y1 - y0)) + ((x1 - x0) * (x1 - x0) + (y1 - y0) * (y1 - y0)) by grind]
   exact near_second (by grind) (by grind) h1
theorem div_unit {N M : Int} (h1 : 0 < M) (h3 : 0 ≤ N) (h4 : N ≤ M) : 0 ≤ Rat.divInt N M ∧ Rat.divInt N M ≤ 1 := by
 have hp := Gm.upos h1
 rw [Rat.divInt_eq_div]
 constructor
 ·rw [← Rat.not_lt, Rat.div_lt_iff hp, Rat.zero_mul, Rat.not_lt]
  exact_mod_cast h3
 ·rw [← Rat.not_lt, Rat.lt_div_iff hp, Rat.one_mul, Rat.not_lt]
  exact_mod_cast h4
theorem bq_frac {N M : Int} (h1 : 0 < M) (h2 : M ≤ 1000) (h3 : 0 ≤ N) (h4 : N ≤ M) : Bq (Rat.divInt N M) 2 := by
 obtain ⟨m, rfl⟩ := Int.eq_ofNat_of_zero_le (Int.le_of_lt h1)
 show Bq (mkRat N m) 2
 exact vq_mk (by omega) (by unfold Bd; omega) (by unfold Bd; omega)
theorem nearest6_I (x0 y0 x1 y1 x2 y2 : Rat) {K : Nat} (hK : K ≤ 60) (b0 : Bq x0 K) (b1 : Bq y0 K) (b2 : Bq x1 K) (b3 : Bq y1 K) (b4 : Bq x2 K) (b5 : Bq y2 K) (N M : Int) (g1 : 0 < M) (g2 : M ≤ 1000) (g3 : 0 ≤ N) (g4 : N ≤ M) (w : World) (hT : Tab w)
  (hs : Hid (∀ w1, Calls Tryz.prog 18 #[.agg #[.bool (nfZ x0.num), .string (sfZ x0.num), .string (strOf x0.den), .bool (nfZ y0.num), .string (sfZ y0.num), .string (strOf y0.den), .bool (nfZ x1.num), .string (sfZ x1.num), .string (strOf x1.den), .bool (nfZ y1.num), .string (sfZ y1.num), .string (strOf y1.den), .bool (nfZ x2.num), .string (sfZ x2.num), .string (strOf x2.den), .bool (nfZ y2.num), .string (sfZ y2.num), .string (strOf y2.den)]] w1 (Re w1 (.bool true))))
  (ha : Hid (∀ w1, Below w.heap.size w w1 → Calls Tryz.prog 23 #[pq x0 y0, pq x1 y1, pq x2 y2] w1 (Re w1 (.int .i64 0)))) :
  Calls Tryz.prog 7 #[.agg #[.bool (nfZ x0.num), .string (sfZ x0.num), .string (strOf x0.den), .bool (nfZ y0.num), .string (sfZ y0.num), .string (strOf y0.den), .bool (nfZ x1.num), .string (sfZ x1.num), .string (strOf x1.den), .bool (nfZ y1.num), .string (sfZ y1.num), .string (strOf y1.den), .bool (nfZ x2.num), .string (sfZ x2.num), .string (strOf x2.den), .bool (nfZ y2.num), .string (sfZ y2.num), .string (strOf y2.den)], .int .i64 N, .int .i64 M] w (Re w (.bool true)) := by
 obtain ⟨u0, u1⟩ := div_unit g1 g3 g4
 have bk := bq_frac g1 g2 g3 g4
 obtain ⟨r, h1, h2, br⟩ := nearest6_P x0 y0 x1 y1 x2 y2 (Rat.divInt N M) hK b0 b1 b2 b3 b4 b5 u0 u1 w hT
 have bux := vqm_sub b2 b0
 have buy := vqm_sub b3 b1
 have bsx := vqm_mul bux bk
 have bsy := vqm_mul buy bk
 have bfx := vqm_add b0 bsx
 have bfy := vqm_add b1 bsy
 have bdx := vqm_sub bfx b4
 have bdy := vqm_sub bfy b5
 have bz := vqm_add (vqm_mul bdx bdx) (vqm_mul bdy bdy)
 have FC := fun w1 (_ : Below w.heap.size w w1) => fracI N M g1 g2 g3 g4 w1
 generalize Rat.divInt N M = k at *
 refine nearest6_ok (nfZ x0.num) (nfZ y0.num) (nfZ x1.num) (nfZ y1.num) (nfZ x2.num) (nfZ y2.num) (sfZ x0.num) (strOf x0.den) (sfZ y0.num) (strOf y0.den) (sfZ x1.num) (strOf x1.den) (sfZ y1.num) (strOf y1.den) (sfZ x2.num) (strOf x2.den) (sfZ y2.num) (strOf y2.den) N M (nfZ (r).num) (sfZ (r).num) (strOf (r).den) (nfZ ((x1 - x0)).num) (nfZ ((y1 - y0)).num) (sfZ ((x1 - x0)).num) (strOf ((x1 - x0)).den) (sfZ ((y1 - y0)).num) (strOf ((y1 - y0)).den) (nfZ (k).num) (sfZ (k).num) (strOf (k).den) (nfZ ((x1 - x0) * k).num) (nfZ ((y1 - y0) * k).num) (sfZ ((x1 - x0) * k).num) (strOf ((x1 - x0) * k).den) (sfZ ((y1 - y0) * k).num) (strOf ((y1 - y0) * k).den) (nfZ (x0 + (x1 - x0) * k).num) (nfZ (y0 + (y1 - y0) * k).num) (sfZ (x0 + (x1 - x0) * k).num) (strOf (x0 + (x1 - x0) * k).den) (sfZ (y0 + (y1 - y0) * k).num) (strOf (y0 + (y1 - y0) * k).den) (nfZ ((((x0 + ((x1 - x0) * k)) - x2) * ((x0 + ((x1 - x0) * k)) - x2) + ((y0 + ((y1 - y0) * k)) - y2) * ((y0 + ((y1 - y0) * k)) - y2))).num) (sfZ ((((x0 + ((x1 - x0) * k)) - x2) * ((x0 + ((x1 - x0) * k)) - x2) + ((y0 + ((y1 - y0) * k)) - y2) * ((y0 + ((y1 - y0) * k)) - y2))).num) (strOf ((((x0 + ((x1 - x0) * k)) - x2) * ((x0 + ((x1 - x0) * k)) - x2) + ((y0 + ((y1 - y0) * k)) - y2) * ((y0 + ((y1 - y0) * k)) - y2))).den) (Q.cmp r (((x0 + ((x1 - x0) * k)) - x2) * ((x0 + ((x1 - x0) * k)) - x2) + ((y0 + ((y1 - y0) * k)) - y2) * ((y0 + ((y1 - y0) * k)) - y2))) w (by omega) (by omega) (by omega) (by omega) ?_ hs ha h1 (fun w1 _ => rminusP x1 y1 x0 y0 (K := K) (by omega) b2 b3 b0 b1 w1) FC (fun w1 _ => rscaleP _ _ _ (K := K + K + 1 + 2) (by omega) (bq_mono bux (by omega)) (bq_mono buy (by omega)) (bq_mono bk (by omega)) w1) (fun w1 _ => rplusP x0 y0 _ _ (K := K + K + 1 + 2) (by omega) (bq_mono b0 (by omega)) (bq_mono b1 (by omega)) bsx bsy w1) (fun w1 _ => far6J x2 y2 _ _ (K := K) (M' := K + (K + K + 1 + 2) + 1) (by omega) (by omega) b4 b5 bfx bfy w1) (fun w1 _ => rorderI _ _ (K := (((K + K + 1) + (K + K + 1) + ((K + K + 1) + (K + K + 1)) + 1) + ((K + K + 1) + (K + K + 1) + ((K + K + 1) + (K + K + 1)) + 1) + ((K + K + 1) + (K + K + 1) + ((K + K + 1) + (K + K + 1)) + 1)) + 20) (by omega) (bq_mono br (by omega)) (bq_mono bz (by omega)) w1) (fun w1 b => live6_any w1 (hT.below b))
 unfold Q.cmp
 split
 ·decide
 ·split
  ·rename_i q
   exact absurd h2 (Rat.not_le.2 q)
  ·decide
theorem nearest6_law (n0 n1 n2 n3 n4 n5 : Bool) (s0 d0 s1 d1 s2 d2 s3 d3 s4 d4 s5 d5 : ByteArray) (N M : Int) (w : World) (hT : Tab w) :
  Calls Tryz.prog 7 #[.agg #[.bool n0, .string s0, .string d0, .bool n1, .string s1, .string d1, .bool n2, .string s2, .string d2, .bool n3, .string s3, .string d3, .bool n4, .string s4, .string d4, .bool n5, .string s5, .string d5], .int .i64 N, .int .i64 M] w (Re w (.bool true)) := by
 have HL : Hid (∀ w1, Below w.heap.size w w1 → Calls Tryz.prog 19 #[] w1 (Re w1 (.bool true))) := fun w1 b => live6_any w1 (hT.below b)
 have hs := fun w1 => small6_any n0 n1 n2 n3 n4 n5 s0 d0 s1 d1 s2 d2 s3 d3 s4 d4 s5 d5 w1
 cases e1 : (sh6 s0 d0 && (sh6 s1 d1 && (sh6 s2 d2 && (sh6 s3 d3 && (sh6 s4 d4 && sh6 s5 d5))))) with
 | false => rw [e1] at hs; exact nearest6_l n0 n1 n2 n3 n4 n5 s0 d0 s1 d1 s2 d2 s3 d3 s4 d4 s5 d5 N M w hs HL
 | true =>
  rw [e1] at hs
  simp only [Bool.and_eq_true] at e1
  obtain ⟨q0, q1, q2, q3, q4, q5⟩ := e1
  have z0 := sh6_t q0; have z1 := sh6_t q1; have z2 := sh6_t q2; have z3 := sh6_t q3; have z4 := sh6_t q4; have z5 := sh6_t q5
  have ha := fun w1 (_ : Below w.heap.size w w1) => asked6_any n0 n1 n2 n3 n4 n5 s0 d0 s1 d1 s2 d2 s3 d3 s4 d4 s5 d5 w1 (le100 z0) (le100 z1) (le100 z2) (le100 z3) (le100 z4) (le100 z5)
  by_cases hE : twoc (twoc (twoq n0 s0 d0 n1 s1 d1) (twoq n2 s2 d2 n3 s3 d3)) (twoq n4 s4 d4 n5 s5 d5) = 0
  ·rw [hE] at ha
   by_cases hN : 1 ≤ M ∧ M ≤ 1000 ∧ 0 ≤ N ∧ N ≤ M
   ·simp only [two_zero, twoq_zero] at hE
    obtain ⟨⟨⟨a0, a1⟩, a2, a3⟩, a4, a5⟩ := hE
    obtain ⟨x0, b0, rfl, rfl, rfl⟩ := canon a0 z0
    obtain ⟨x1, b1, rfl, rfl, rfl⟩ := canon a1 z1
    obtain ⟨x2, b2, rfl, rfl, rfl⟩ := canon a2 z2
    obtain ⟨x3, b3, rfl, rfl, rfl⟩ := canon a3 z3
    obtain ⟨x4, b4, rfl, rfl, rfl⟩ := canon a4 z4
    obtain ⟨x5, b5, rfl, rfl, rfl⟩ := canon a5 z5
    exact nearest6_I x0 x1 x2 x3 x4 x5 (Nat.le_refl _) b0 b1 b2 b3 b4 b5 N M (by omega) hN.2.1 hN.2.2.1 hN.2.2.2 w hT hs ha
   ·exact nearest6_o n0 n1 n2 n3 n4 n5 s0 d0 s1 d1 s2 d2 s3 d3 s4 d4 s5 d5 N M w hN hs ha HL
  ·exact nearest6_a n0 n1 n2 n3 n4 n5 s0 d0 s1 d1 s2 d2 s3 d3 s4 d4 s5 d5 N M _ w (by omega) hs ha HL
end Go.Proofs.YtiiigiggcbbgjaaGreatDoor
