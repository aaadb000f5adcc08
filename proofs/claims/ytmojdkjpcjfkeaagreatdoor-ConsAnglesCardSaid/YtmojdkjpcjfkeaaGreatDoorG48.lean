/-
  Package cons, in numbers' one form.
  Package cons, in numbers' one form: distances.
  gussetlaw06: live.
  The angles of a triangle: not all are sharp; where none is, all sides are even.
  gussetlaw06: ConsAngles holds.
-/
import Derived.Test.YtmojdkjpcjfkeaaGreatDoorG46
import Derived.Test.YtmojdkjpcjfkeaaGreatDoorG47
import Derived.Test.YtmojdkjpcjfkeaaGreatDoorP53
import Derived.Test.YtmojdkjpcjfkeaaGreatDoorP54
set_option maxRecDepth 100000
set_option maxHeartbeats 8000000
namespace Go.Proofs.YtmojdkjpcjfkeaaGreatDoor
open Go.RowKit
abbrev pq (x y : Rat) : Value := .agg #[.bool (nfZ x.num), .string (sfZ x.num), .string (strOf x.den), .bool (nfZ y.num), .string (sfZ y.num), .string (strOf y.den)]
abbrev rq (x : Rat) : Value := .agg #[.bool (nfZ x.num), .string (sfZ x.num), .string (strOf x.den)]
abbrev Ra (w : World) (v : Value) : Ending → World → Prop := fun e w' => e = .returned v ∧ Below w.heap.size w w'
theorem ofI (x0 y0 x1 y1 : Rat) {K : Nat} (hK : K ≤ 100) (b0 : Bq x0 K) (b1 : Bq y0 K) (b2 : Bq x1 K) (b3 : Bq y1 K) : Hid (∀ w1, Calls Tryz.prog 57 #[pq x0 y0, pq x1 y1] w1 fun e w' => ∃ m0 a0 l0 c0 m1 a1 l1 c1 a2 l2 c2 X Y U, e = .returned (.agg #[.bool m0, .slice a0 l0 c0, .bool m1, .slice a1 l1 c1, .bool false, .slice a2 l2 c2]) ∧ SpV w' m0 a0 l0 c0 m1 a1 l1 c1 a2 l2 c2 X Y U (x1 - x0) (y1 - y0) ∧ Below w1.heap.size w1 w') := fun w1 => by
 have := sof_any (nfZ x0.num) (nfZ y0.num) (nfZ x1.num) (nfZ y1.num) (sfZ x0.num) (strOf x0.den) (sfZ y0.num) (strOf y0.den) (sfZ x1.num) (strOf x1.den) (sfZ y1.num) (strOf y1.den) w1 (okQ_qI x0) (okQ_qI y0) (okQ_qI x1) (okQ_qI y1) (bq_sz hK b0) (bq_sz hK b1) (bq_sz hK b2) (bq_sz hK b3)
 simp only [qOf_one] at this
 refine this.mono ?_
 rintro e w' ⟨m0, a0, l0, c0, m1, a1, l1, c1, a2, l2, c2, X, Y, U, h1, h2, h3, h4, h5, h6⟩
 exact ⟨m0, a0, l0, c0, m1, a1, l1, c1, a2, l2, c2, X, Y, U, h1, ⟨h2, h3, h4, h5⟩, h6⟩
theorem chkI (x0 y0 x1 y1 x2 y2 : Rat) {K : Nat} (hK : K ≤ 100) (b0 : Bq x0 K) (b1 : Bq y0 K) (b2 : Bq x1 K) (b3 : Bq y1 K) (b4 : Bq x2 K) (b5 : Bq y2 K) (w : World) (hT : Tab w) : Hid (∀ (w1 : World) (B : Nat), Below w.heap.size w w1 → Cel w1 B [.bool (nfZ x0.num), .string (sfZ x0.num), .string (strOf x0.den), .bool (nfZ y0.num), .string (sfZ y0.num), .string (strOf y0.den), .bool (nfZ x1.num), .string (sfZ x1.num), .string (strOf x1.den), .bool (nfZ y1.num), .string (sfZ y1.num), .string (strOf y1.den), .bool (nfZ x2.num), .string (sfZ x2.num), .string (strOf x2.den), .bool (nfZ y2.num), .string (sfZ y2.num), .string (strOf y2.den)] 28 → Calls Tryz.prog 40 #[.slice (some ⟨B, 0, none⟩) 3 3] w1 (Re w1 (.int .i64 0))) := fun w1 B b h => by
 have := scheck3 B (nfZ x0.num) (nfZ y0.num) (nfZ x1.num) (nfZ y1.num) (nfZ x2.num) (nfZ y2.num) (sfZ x0.num) (strOf x0.den) (sfZ y0.num) (strOf y0.den) (sfZ x1.num) (strOf x1.den) (sfZ y1.num) (strOf y1.den) (sfZ x2.num) (strOf x2.den) (sfZ y2.num) (strOf y2.den) w1 (hT.below b) h (bq_sz hK b0) (bq_sz hK b1) (bq_sz hK b2) (bq_sz hK b3) (bq_sz hK b4) (bq_sz hK b5)
 rwa [two_zero.2 ⟨two_zero.2 ⟨twoq_zero.2 ⟨chk_can8 x0 (by omega) b0, chk_can8 y0 (by omega) b1⟩, twoq_zero.2 ⟨chk_can8 x1 (by omega) b2, chk_can8 y1 (by omega) b3⟩⟩, twoq_zero.2 ⟨chk_can8 x2 (by omega) b4, chk_can8 y2 (by omega) b5⟩⟩] at this
theorem can_eq {x y : Rat} (h1 : nfZ x.num = nfZ y.num) (h2 : sfZ x.num = sfZ y.num) (h3 : strOf x.den = strOf y.den) : x = y := by
 rw [← qOf_one x, ← qOf_one y, h1, h2, h3]
theorem neI (x0 y0 x1 y1 : Rat) (h : ¬ (x0 = x1 ∧ y0 = y1)) : ∀ w1, (binOp .eql 28 (pq x0 y0) (pq x1 y1)).run Tryz.prog w1 = .ok (.bool false) w1 := fun w1 =>
 run_peq _ _ _ _ _ _ _ _ _ _ _ _ w1 (fun ⟨a, b, c, d, e, f⟩ => h ⟨can_eq a b c, can_eq d e f⟩)
theorem bq_mono {x : Rat} {K M' : Nat} (h : Bq x K) (hK : K ≤ M') : Bq x M' := ⟨h.1.mono hK, h.2.mono hK⟩
theorem sg_zero {x : Rat} (h : Gm.sg x = 0) : x = 0 := by
 exact Rat.num_eq_zero.1 (Int.sign_eq_zero_iff_zero.1 h)
def shp (ux uy vx vy : Rat) : Bool := decide (0 < Gm.sg (ux * vx + uy * vy)) && decide (0 < Gm.sg (4 * ((ux * vx + uy * vy) * (ux * vx + uy * vy)) - (ux * ux + uy * uy) * (vx * vx + vy * vy)))
theorem sharpI (x0 y0 x1 y1 x2 y2 : Rat) {K : Nat} (hK : K ≤ 100) (b0 : Bq x0 K) (b1 : Bq y0 K) (b2 : Bq x1 K) (b3 : Bq y1 K) (b4 : Bq x2 K) (b5 : Bq y2 K) (w : World) (hT : Tab w) (h1 : ¬ (x1 = x0 ∧ y1 = y0)) (h2 : ¬ (x1 = x2 ∧ y1 = y2)) : Calls Tryz.prog 21 #[pq x0 y0, pq x1 y1, pq x2 y2] w (Ra w (.tuple #[.bool (shp (x0 - x1) (y0 - y1) (x2 - x1) (y2 - y1)), .int .i64 0])) := by
 unfold shp
 by_cases hd : Gm.sg ((x0 - x1) * (x2 - x1) + (y0 - y1) * (y2 - y1)) ≤ 0
 ·rw [decide_eq_false (by omega), Bool.false_and]
  exact cSharp_no (nfZ x0.num) (nfZ y0.num) (nfZ x1.num) (nfZ y1.num) (nfZ x2.num) (nfZ y2.num) (sfZ x0.num) (strOf x0.den) (sfZ y0.num) (strOf y0.den) (sfZ x1.num) (strOf x1.den) (sfZ y1.num) (strOf y1.den) (sfZ x2.num) (strOf x2.den) (sfZ y2.num) (strOf y2.den) (x0 - x1) (y0 - y1) (x2 - x1) (y2 - y1) w (chkI x0 y0 x1 y1 x2 y2 hK b0 b1 b2 b3 b4 b5 w hT) (neI _ _ _ _ h1) (neI _ _ _ _ h2) (ofI x1 y1 x0 y0 hK b2 b3 b0 b1) (ofI x1 y1 x2 y2 hK b2 b3 b4 b5) hd
 ·rw [decide_eq_true (by omega), Bool.true_and]
  exact cSharp_ok (nfZ x0.num) (nfZ y0.num) (nfZ x1.num) (nfZ y1.num) (nfZ x2.num) (nfZ y2.num) (sfZ x0.num) (strOf x0.den) (sfZ y0.num) (strOf y0.den) (sfZ x1.num) (strOf x1.den) (sfZ y1.num) (strOf y1.den) (sfZ x2.num) (strOf x2.den) (sfZ y2.num) (strOf y2.den) (x0 - x1) (y0 - y1) (x2 - x1) (y2 - y1) w (chkI x0 y0 x1 y1 x2 y2 hK b0 b1 b2 b3 b4 b5 w hT) (neI _ _ _ _ h1) (neI _ _ _ _ h2) (ofI x1 y1 x0 y0 hK b2 b3 b0 b1) (ofI x1 y1 x2 y2 hK b2 b3 b4 b5) hd
theorem cenI_flat (x0 y0 x1 y1 x2 y2 : Rat) {K : Nat} (hK : K ≤ 100) (b0 : Bq x0 K) (b1 : Bq y0 K) (b2 : Bq x1 K) (b3 : Bq y1 K) (b4 : Bq x2 K) (b5 : Bq y2 K) (w : World) (hT : Tab w) (h : (x1 - x0) * (y2 - y0) - (y1 - y0) * (x2 - x0) = 0) : Calls Tryz.prog 53 #[pq x0 y0, pq x1 y1, pq x2 y2] w (Ra w (.tuple #[.agg #[.bool false, .string { data := #[] }, .string { data := #[] }, .bool false, .string { data := #[] }, .string { data := #[] }], .int .i64 6])) :=
 cCen_flat (nfZ x0.num) (nfZ y0.num) (nfZ x1.num) (nfZ y1.num) (nfZ x2.num) (nfZ y2.num) (sfZ x0.num) (strOf x0.den) (sfZ y0.num) (strOf y0.den) (sfZ x1.num) (strOf x1.den) (sfZ y1.num) (strOf y1.den) (sfZ x2.num) (strOf x2.den) (sfZ y2.num) (strOf y2.den) w (chkI x0 y0 x1 y1 x2 y2 hK b0 b1 b2 b3 b4 b5 w hT) (fun w1 => toC_flat (nfZ x0.num) (nfZ y0.num) (nfZ x1.num) (nfZ y1.num) (nfZ x2.num) (nfZ y2.num) (sfZ x0.num) (strOf x0.den) (sfZ y0.num) (strOf y0.den) (sfZ x1.num) (strOf x1.den) (sfZ y1.num) (strOf y1.den) (sfZ x2.num) (strOf x2.den) (sfZ y2.num) (strOf y2.den) (x1 - x0) (y1 - y0) (x2 - x0) (y2 - y0) w1 (by rw [h]; rfl) (ofI x0 y0 x1 y1 hK b0 b1 b2 b3) (ofI x0 y0 x2 y2 hK b0 b1 b4 b5))
def cenX (ux uy vx vy : Rat) : Rat := ((ux * ux + uy * uy) * vy - (vx * vx + vy * vy) * uy) / ((ux * vy - uy * vx) + (ux * vy - uy * vx))
def cenY (ux uy vx vy : Rat) : Rat := (ux * (vx * vx + vy * vy) - vx * (ux * ux + uy * uy)) / ((ux * vy - uy * vx) + (ux * vy - uy * vx))
theorem cenI (x0 y0 x1 y1 x2 y2 : Rat) {K : Nat} (hK : K ≤ 100) (b0 : Bq x0 K) (b1 : Bq y0 K) (b2 : Bq x1 K) (b3 : Bq y1 K) (b4 : Bq x2 K) (b5 : Bq y2 K) (w : World) (hT : Tab w) (h : (x1 - x0) * (y2 - y0) - (y1 - y0) * (x2 - x0) ≠ 0) {cx cy : Rat} (ex : cenX (x1 - x0) (y1 - y0) (x2 - x0) (y2 - y0) = cx) (ey : cenY (x1 - x0) (y1 - y0) (x2 - x0) (y2 - y0) = cy) {M' : Nat} (hM : M' ≤ 4000) (hKM : K ≤ M') (bx : Bq cx M') (bY : Bq cy M') :
  Calls Tryz.prog 53 #[pq x0 y0, pq x1 y1, pq x2 y2] w (Ra w (.tuple #[pq (x0 + cx) (y0 + cy), .int .i64 0])) := by
 subst ex ey
 refine cCen_ok (nfZ x0.num) (nfZ y0.num) (nfZ x1.num) (nfZ y1.num) (nfZ x2.num) (nfZ y2.num) (sfZ x0.num) (strOf x0.den) (sfZ y0.num) (strOf y0.den) (sfZ x1.num) (strOf x1.den) (sfZ y1.num) (strOf y1.den) (sfZ x2.num) (strOf x2.den) (sfZ y2.num) (strOf y2.den) (cenX (x1 - x0) (y1 - y0) (x2 - x0) (y2 - y0)) (cenY (x1 - x0) (y1 - y0) (x2 - x0) (y2 - y0)) _ _ _ _ _ _ w hT (chkI x0 y0 x1 y1 x2 y2 hK b0 b1 b2 b3 b4 b5 w hT) (fun w1 => toC_ok (nfZ x0.num) (nfZ y0.num) (nfZ x1.num) (nfZ y1.num) (nfZ x2.num) (nfZ y2.num) (sfZ x0.num) (strOf x0.den) (sfZ y0.num) (strOf y0.den) (sfZ x1.num) (strOf x1.den) (sfZ y1.num) (strOf y1.den) (sfZ x2.num) (strOf x2.den) (sfZ y2.num) (strOf y2.den) (x1 - x0) (y1 - y0) (x2 - x0) (y2 - y0) w1 ?_ (ofI x0 y0 x1 y1 hK b0 b1 b2 b3) (ofI x0 y0 x2 y2 hK b0 b1 b4 b5)) (fun w1 b => vplusI x0 y0 _ _ hM (bq_mono b0 hKM) (bq_mono b1 hKM) bx bY w1 (hT.below b))
 rw [beq_eq_false_iff_ne]
 intro e
 exact h (sg_zero e)
theorem farI (x0 y0 x1 y1 : Rat) {K : Nat} (hK : K ≤ 100) (b0 : Bq x0 K) (b1 : Bq y0 K) (b2 : Bq x1 K) (b3 : Bq y1 K) (w : World) (hT : Tab w) : Calls Tryz.prog 56 #[pq x0 y0, pq x1 y1] w (Ra w (rq ((x1 - x0) * (x1 - x0) + (y1 - y0) * (y1 - y0)))) :=
 far2_walk (nfZ x0.num) (nfZ y0.num) (nfZ x1.num) (nfZ y1.num) (sfZ x0.num) (strOf x0.den) (sfZ y0.num) (strOf y0.den) (sfZ x1.num) (strOf x1.den) (sfZ y1.num) (strOf y1.den) (x1 - x0) (y1 - y0) w hT (ofI x0 y0 x1 y1 hK b0 b1 b2 b3)
theorem nearI_b (x0 y0 x1 y1 x2 y2 : Rat) {K : Nat} (hK : K ≤ 100) (b0 : Bq x0 K) (b1 : Bq y0 K) (b2 : Bq x1 K) (b3 : Bq y1 K) (b4 : Bq x2 K) (b5 : Bq y2 K) (w : World) (hT : Tab w) (h1 : ¬ (x0 = x1 ∧ y0 = y1)) (hd : ¬ Gm.sg ((x1 - x0) * (x2 - x0) + (y1 - y0) * (y2 - y0)) ≤ 0) (hb : 0 ≤ Gm.sg ((x1 - x0) * (x2 - x1) + (y1 - y0) * (y2 - y1))) : Calls Tryz.prog 18 #[pq x0 y0, pq x1 y1, pq x2 y2] w (Ra w (.tuple #[rq ((x2 - x1) * (x2 - x1) + (y2 - y1) * (y2 - y1)), .int .i64 0])) :=
 cNear_b (nfZ x0.num) (nfZ y0.num) (nfZ x1.num) (nfZ y1.num) (nfZ x2.num) (nfZ y2.num) (sfZ x0.num) (strOf x0.den) (sfZ y0.num) (strOf y0.den) (sfZ x1.num) (strOf x1.den) (sfZ y1.num) (strOf y1.den) (sfZ x2.num) (strOf x2.den) (sfZ y2.num) (strOf y2.den) (nfZ (((x2 - x1) * (x2 - x1) + (y2 - y1) * (y2 - y1))).num) (sfZ (((x2 - x1) * (x2 - x1) + (y2 - y1) * (y2 - y1))).num) (strOf (((x2 - x1) * (x2 - x1) + (y2 - y1) * (y2 - y1))).den) (x1 - x0) (y1 - y0) (x2 - x0) (y2 - y0) (x2 - x1) (y2 - y1) w (chkI x0 y0 x1 y1 x2 y2 hK b0 b1 b2 b3 b4 b5 w hT) (neI _ _ _ _ h1) (ofI x0 y0 x1 y1 hK b0 b1 b2 b3) (ofI x0 y0 x2 y2 hK b0 b1 b4 b5) hd hb (fun w1 => (ofI x1 y1 x2 y2 hK b2 b3 b4 b5 w1).mono (fun e w' h => by obtain ⟨m0, a0, l0, c0, m1, a1, l1, c1, a2, l2, c2, X, Y, U, h1, h2, h3⟩ := h; exact ⟨m0, a0, l0, c0, m1, a1, l1, c1, a2, l2, c2, X, Y, U, h1, h2.1, h2.2.1, h2.2.2.1, h2.2.2.2, h3⟩)) (fun w1 b => farI x1 y1 x2 y2 hK b2 b3 b4 b5 w1 (hT.below b))
theorem live6_walk (n10 n11 n12 n13 n14 n15 n16 n17 n18 n19 n20 n21 n22 n23 : Bool) (s10 d10 s11 d11 s12 d12 s13 d13 s14 d14 s15 d15 s16 d16 s17 d17 s18 d18 s19 d19 s20 d20 s21 d21 s22 d22 s23 d23 : ByteArray) (fN : Bool) (fS fD : ByteArray) (w : World)
  (A00 : Hid (∀ w1, Calls Tryz.prog 54 #[.int .i64 0, .int .i64 0] w1 (Re w1 (.agg #[.bool n10, .string s10, .string d10, .bool n11, .string s11, .string d11]))))
  (A20 : Hid (∀ w1, Calls Tryz.prog 54 #[.int .i64 2, .int .i64 0] w1 (Re w1 (.agg #[.bool n12, .string s12, .string d12, .bool n13, .string s13, .string d13]))))
  (A02 : Hid (∀ w1, Calls Tryz.prog 54 #[.int .i64 0, .int .i64 2] w1 (Re w1 (.agg #[.bool n14, .string s14, .string d14, .bool n15, .string s15, .string d15]))))
  (A40 : Hid (∀ w1, Calls Tryz.prog 54 #[.int .i64 4, .int .i64 0] w1 (Re w1 (.agg #[.bool n16, .string s16, .string d16, .bool n17, .string s17, .string d17]))))
  (A60 : Hid (∀ w1, Calls Tryz.prog 54 #[.int .i64 6, .int .i64 0] w1 (Re w1 (.agg #[.bool n18, .string s18, .string d18, .bool n19, .string s19, .string d19]))))
  (A10 : Hid (∀ w1, Calls Tryz.prog 54 #[.int .i64 1, .int .i64 0] w1 (Re w1 (.agg #[.bool n20, .string s20, .string d20, .bool n21, .string s21, .string d21]))))
  (A11 : Hid (∀ w1, Calls Tryz.prog 54 #[.int .i64 1, .int .i64 1] w1 (Re w1 (.agg #[.bool n22, .string s22, .string d22, .bool n23, .string s23, .string d23]))))
  (F4 : Hid (∀ w1, Calls Tryz.prog 55 #[.int .i64 4] w1 (Re w1 (.agg #[.bool fN, .string fS, .string fD]))))
  (C1 : Hid (∀ w1, Below w.heap.size w w1 → Calls Tryz.prog 53 #[.agg #[.bool n10, .string s10, .string d10, .bool n11, .string s11, .string d11], .agg #[.bool n12, .string s12, .string d12, .bool n13, .string s13, .string d13], .agg #[.bool n14, .string s14, .string d14, .bool n15, .string s15, .string d15]] w1 (Re w1 (.tuple #[.agg #[.bool n22, .string s22, .string d22, .bool n23, .string s23, .string d23], .int .i64 0]))))
  (C2 : Hid (∀ w1, Below w.heap.size w w1 → Calls Tryz.prog 18 #[.agg #[.bool n10, .string s10, .string d10, .bool n11, .string s11, .string d11], .agg #[.bool n16, .string s16, .string d16, .bool n17, .string s17, .string d17], .agg #[.bool n18, .string s18, .string d18, .bool n19, .string s19, .string d19]] w1 (Re w1 (.tuple #[.agg #[.bool fN, .string fS, .string fD], .int .i64 0]))))
  (C3 : Hid (∀ w1, Below w.heap.size w w1 → Calls Tryz.prog 21 #[.agg #[.bool n20, .string s20, .string d20, .bool n21, .string s21, .string d21], .agg #[.bool n10, .string s10, .string d10, .bool n11, .string s11, .string d11], .agg #[.bool n22, .string s22, .string d22, .bool n23, .string s23, .string d23]] w1 (Re w1 (.tuple #[.bool true, .int .i64 0]))))
  (C4 : Hid (∀ w1, Below w.heap.size w w1 → Calls Tryz.prog 53 #[.agg #[.bool n10, .string s10, .string d10, .bool n11, .string s11, .string d11], .agg #[.bool n20, .string s20, .string d20, .bool n21, .string s21, .string d21], .agg #[.bool n12, .string s12, .string d12, .bool n13, .string s13, .string d13]] w1 (Re w1 (.tuple #[.agg #[.bool false, .string { data := #[] }, .string { data := #[] }, .bool false, .string { data := #[] }, .string { data := #[] }], .int .i64 6])))) :
  Calls Tryz.prog 17 #[] w (Re w (.bool true)) := by
 go_enter Tryz.func17, Tryz.ntmps17
 have bb := Below.refl w.heap.size w
 go_wp2_with fail
 go_fit (A00.out _)
 rintro e w1 ⟨rfl, b1⟩
 replace bb := Below.after bb b1
 clear b1
 go_wp2_with fail
 go_fit (A20.out _)
 rintro e w2 ⟨rfl, b1⟩
 replace bb := Below.after bb b1
 clear b1
 go_wp2_with fail
 go_fit (A02.out _)
 rintro e w3 ⟨rfl, b1⟩
 replace bb := Below.after bb b1
 clear b1
 go_wp2_with fail
 go_fit (C1.out _ bb)
 rintro e w4 ⟨rfl, b1⟩
 replace bb := Below.after bb b1
 clear b1
 go_wp2_with fail
 obtain ⟨x4, hw, kc, b1⟩ := mk1 w4 [.bool n22, .string s22, .string d22, .bool n23, .string s23, .string d23] 28
 rw [← hw]
 clear hw
 replace bb := Below.after bb b1
 clear b1
 go_wp2_with fail
 go_fit (A00.out _)
 rintro e w5 ⟨rfl, b1⟩
 replace kc := kc.below b1
 replace bb := Below.after bb b1
 clear b1
 go_wp2_with fail
 go_fit (A40.out _)
 rintro e w6 ⟨rfl, b1⟩
 replace kc := kc.below b1
 replace bb := Below.after bb b1
 clear b1
 go_wp2_with fail
 go_fit (A60.out _)
 rintro e w7 ⟨rfl, b1⟩
 replace kc := kc.below b1
 replace bb := Below.after bb b1
 clear b1
 go_wp2_with fail
 go_fit (C2.out _ bb)
 rintro e w8 ⟨rfl, b1⟩
 replace kc := kc.below b1
 replace bb := Below.after bb b1
 clear b1
 go_wp2_with fail
 obtain ⟨x8, hw, kn, b1⟩ := mk1 w8 [.bool fN, .string fS, .string fD] 26
 rw [← hw]
 clear hw
 replace kc := kc.below b1
 replace bb := Below.after bb b1
 clear b1
 go_wp2_with fail
 go_fit (A10.out _)
 rintro e w9 ⟨rfl, b1⟩
 replace kc := kc.below b1
 replace kn := kn.below b1
 replace bb := Below.after bb b1
 clear b1
 go_wp2_with fail
 go_fit (A00.out _)
 rintro e w10 ⟨rfl, b1⟩
 replace kc := kc.below b1
 replace kn := kn.below b1
 replace bb := Below.after bb b1
 clear b1
 go_wp2_with fail
 go_fit (A11.out _)
 rintro e w11 ⟨rfl, b1⟩
 replace kc := kc.below b1
 replace kn := kn.below b1
 replace bb := Below.after bb b1
 clear b1
 go_wp2_with fail
 go_fit (C3.out _ bb)
 rintro e w12 ⟨rfl, b1⟩
 replace kc := kc.below b1
 replace kn := kn.below b1
 replace bb := Below.after bb b1
 clear b1
 go_wp2_with fail
 go_fit (A00.out _)
 rintro e w13 ⟨rfl, b1⟩
 replace kc := kc.below b1
 replace kn := kn.below b1
 replace bb := Below.after bb b1
 clear b1
 go_wp2_with fail
 go_fit (A10.out _)
 rintro e w14 ⟨rfl, b1⟩
 replace kc := kc.below b1
 replace kn := kn.below b1
 replace bb := Below.after bb b1
 clear b1
 go_wp2_with fail
 go_fit (A20.out _)
 rintro e w15 ⟨rfl, b1⟩
 replace kc := kc.below b1
 replace kn := kn.below b1
 replace bb := Below.after bb b1
 clear b1
 go_wp2_with fail
 go_fit (C4.out _ bb)
 rintro e w16 ⟨rfl, b1⟩
 replace kc := kc.below b1
 replace kn := kn.below b1
 replace bb := Below.after bb b1
 clear b1
 go_wp2_with fail
 obtain ⟨x16, hw, kz, b1⟩ := mk1 w16 [.bool false, .string { data := #[] }, .string { data := #[] }, .bool false, .string { data := #[] }, .string { data := #[] }] 28
 rw [← hw]
 clear hw
 replace kc := kc.below b1
 replace kn := kn.below b1
 replace bb := Below.after bb b1
 clear b1
 clear kz
 have bd := bdrew x16
 replace kc := kc.below bd
 replace kn := kn.below bd
 replace bb := Below.after bb bd
 clear bd
 refine wp_region_held_drew (S := fun w' => xc6 w' w4.heap.size (.bool n22) (.string s22) (.string d22) (.bool n23) (.string s23) (.string d23) ∧ xc3 w' w8.heap.size (.bool fN) (.string fS) (.string fD)) (by kernel_rfl) ⟨xk6 kc, xk3 kn⟩ (fun hS => ?_)
 refine WA.start (n := 28) (by kernel_rfl) ?_
 refine WA.tp 0 rfl ?_
 refine WA.cal 1 rfl (fun K hK => ?_)
 simp only [List.getElem_toArray, List.getElem_cons_succ, List.getElem_cons_zero]
 go_simp
 go_fit (A11.out _)
 rintro e wn ⟨rfl, bn⟩
 replace kc := kc.below bn
 replace kn := kn.below bn
 replace bb := Below.after bb bn
 try go_wp2_with fail
 clear hS
 refine hK.out _ _ ⟨xk6 kc, xk3 kn⟩ (fun hS => ?_)
 clear hK K bn
 refine WA.tp 2 rfl ?_
 refine WA.tp 3 rfl ?_
 refine WA.tp 4 rfl ?_
 refine WA.tp 5 rfl ?_
 refine WA.tp 6 rfl ?_
 refine WA.tp 7 rfl ?_
 refine WA.tp 8 rfl ?_
 refine WA.cal 9 rfl (fun K hK => ?_)
 simp only [List.getElem_toArray, List.getElem_cons_succ, List.getElem_cons_zero]
 go_simp
 go_fit (F4.out _)
 rintro e wn ⟨rfl, bn⟩
 replace kc := kc.below bn
 replace kn := kn.below bn
 replace bb := Below.after bb bn
 try go_wp2_with fail
 clear hS
 refine hK.out _ _ ⟨xk6 kc, xk3 kn⟩ (fun hS => ?_)
 clear hK K bn
 refine WA.tp 10 rfl ?_
 refine WA.tp 11 rfl ?_
 refine WA.tp 12 rfl ?_
 refine WA.tp 13 rfl ?_
 refine WA.tp 14 rfl ?_
 refine WA.tp 15 rfl ?_
 refine WA.tp 16 rfl ?_
 refine WA.tp 17 rfl ?_
 refine WA.tp 18 rfl ?_
 refine WA.tp 19 rfl ?_
 refine WA.tp 20 rfl ?_
 refine WA.tp 21 rfl ?_
 refine WA.tp 22 rfl ?_
 refine WA.tp 23 rfl ?_
 refine WA.tp 24 rfl ?_
 refine WA.tp 25 rfl ?_
 refine WA.tp 26 rfl ?_
 refine WA.tp 27 rfl ?_
 refine WA.done (by kernel_rfl) ?_
 clear hS
 go_wp2
 go_ret
 exact ⟨rfl, bb⟩
theorem pq_int (x y : Int) : pq (x : Rat) (y : Rat) = .agg #[.bool (nfZ x), .string (sfZ x), .string ⟨#[1]⟩, .bool (nfZ y), .string (sfZ y), .string ⟨#[1]⟩] := by
 have e : strOf 1 = ⟨#[1]⟩ := by decide +kernel
 simp only [pq, Rat.num_intCast, Rat.den_intCast, e]
theorem bq_int (x : Int) (h1 : -200 ≤ x) (h2 : x ≤ 200) : Bq (x : Rat) 1 := by
 constructor
 ·rw [Rat.num_intCast]; unfold Bd; omega
 ·rw [Rat.den_intCast]; unfold Bd; omega
theorem live6_any (w : World) (hT : Tab w) : Calls Tryz.prog 17 #[] w (Re w (.bool true)) := by
 refine live6_walk (nfZ 0) (nfZ 0) (nfZ 2) (nfZ 0) (nfZ 0) (nfZ 2) (nfZ 4) (nfZ 0) (nfZ 6) (nfZ 0) (nfZ 1) (nfZ 0) (nfZ 1) (nfZ 1) (sfZ 0) ⟨#[1]⟩ (sfZ 0) ⟨#[1]⟩ (sfZ 2) ⟨#[1]⟩ (sfZ 0) ⟨#[1]⟩ (sfZ 0) ⟨#[1]⟩ (sfZ 2) ⟨#[1]⟩ (sfZ 4) ⟨#[1]⟩ (sfZ 0) ⟨#[1]⟩ (sfZ 6) ⟨#[1]⟩ (sfZ 0) ⟨#[1]⟩ (sfZ 1) ⟨#[1]⟩ (sfZ 0) ⟨#[1]⟩ (sfZ 1) ⟨#[1]⟩ (sfZ 1) ⟨#[1]⟩ (nfZ 4) (sfZ 4) ⟨#[1]⟩ w ?_ ?_ ?_ ?_ ?_ ?_ ?_ ?_ ?_ ?_ ?_ ?_
 ·exact fun w1 => lat6_any 0 0 (by omega) (by omega) (by omega) (by omega) w1
 ·exact fun w1 => lat6_any 2 0 (by omega) (by omega) (by omega) (by omega) w1
 ·exact fun w1 => lat6_any 0 2 (by omega) (by omega) (by omega) (by omega) w1
 ·exact fun w1 => lat6_any 4 0 (by omega) (by omega) (by omega) (by omega) w1
 ·exact fun w1 => lat6_any 6 0 (by omega) (by omega) (by omega) (by omega) w1
 ·exact fun w1 => lat6_any 1 0 (by omega) (by omega) (by omega) (by omega) w1
 ·exact fun w1 => lat6_any 1 1 (by omega) (by omega) (by omega) (by omega) w1
 ·exact fun w1 => roq_any 4 (by omega) (by omega) w1
 ·intro w1 b
  have := cenI ((0 : Int) : Rat) ((0 : Int) : Rat) ((2 : Int) : Rat) ((0 : Int) : Rat) ((0 : Int) : Rat) ((2 : Int) : Rat) (by omega : 1 ≤ 100) (bq_int 0 (by omega) (by omega)) (bq_int 0 (by omega) (by omega)) (bq_int 2 (by omega) (by omega)) (bq_int 0 (by omega) (by omega)) (bq_int 0 (by omega) (by omega)) (bq_int 2 (by omega) (by omega)) w1 (hT.below b) (by decide +kernel) (cx := ((1 : Int) : Rat)) (cy := ((1 : Int) : Rat)) (by decide +kernel) (by decide +kernel) (M' := 1) (by omega) (by omega) (bq_int 1 (by omega) (by omega)) (bq_int 1 (by omega) (by omega))
  rw [show ((0 : Int) : Rat) + ((1 : Int) : Rat) = ((1 : Int) : Rat) by decide +kernel] at this
  simp only [pq_int] at this
  exact this
 ·intro w1 b
  have := nearI_b ((0 : Int) : Rat) ((0 : Int) : Rat) ((4 : Int) : Rat) ((0 : Int) : Rat) ((6 : Int) : Rat) ((0 : Int) : Rat) (by omega : 1 ≤ 100) (bq_int 0 (by omega) (by omega)) (bq_int 0 (by omega) (by omega)) (bq_int 4 (by omega) (by omega)) (bq_int 0 (by omega) (by omega)) (bq_int 6 (by omega) (by omega)) (bq_int 0 (by omega) (by omega)) w1 (hT.below b) (by decide +kernel) (by decide +kernel) (by decide +kernel)
  rw [show (((6 : Int) : Rat) - ((4 : Int) : Rat)) * (((6 : Int) : Rat) - ((4 : Int) : Rat)) + (((0 : Int) : Rat) - ((0 : Int) : Rat)) * (((0 : Int) : Rat) - ((0 : Int) : Rat)) = ((4 : Int) : Rat) by decide +kernel] at this
  simp only [pq_int] at this
  exact this
 ·intro w1 b
  have := sharpI ((1 : Int) : Rat) ((0 : Int) : Rat) ((0 : Int) : Rat) ((0 : Int) : Rat) ((1 : Int) : Rat) ((1 : Int) : Rat) (by omega : 1 ≤ 100) (bq_int 1 (by omega) (by omega)) (bq_int 0 (by omega) (by omega)) (bq_int 0 (by omega) (by omega)) (bq_int 0 (by omega) (by omega)) (bq_int 1 (by omega) (by omega)) (bq_int 1 (by omega) (by omega)) w1 (hT.below b) (by decide +kernel) (by decide +kernel)
  rw [show shp (((1 : Int) : Rat) - ((0 : Int) : Rat)) (((0 : Int) : Rat) - ((0 : Int) : Rat)) (((1 : Int) : Rat) - ((0 : Int) : Rat)) (((1 : Int) : Rat) - ((0 : Int) : Rat)) = true by decide +kernel] at this
  simp only [pq_int] at this
  exact this
 ·intro w1 b
  have := cenI_flat ((0 : Int) : Rat) ((0 : Int) : Rat) ((1 : Int) : Rat) ((0 : Int) : Rat) ((2 : Int) : Rat) ((0 : Int) : Rat) (by omega : 1 ≤ 100) (bq_int 0 (by omega) (by omega)) (bq_int 0 (by omega) (by omega)) (bq_int 1 (by omega) (by omega)) (bq_int 0 (by omega) (by omega)) (bq_int 2 (by omega) (by omega)) (bq_int 0 (by omega) (by omega)) w1 (hT.below b) (by decide +kernel)
  simp only [pq_int] at this
  exact this
theorem Gm.sg_posi {x : Rat} : 0 < Gm.sg x ↔ 0 < x := by
 rcases Gm.sg_cases x with ⟨h, e⟩ | ⟨h, e⟩ | ⟨h, e⟩ <;> rw [e] <;> constructor <;> intro k <;> first | grind | omega
theorem Gm.big {p q r : Rat} (hq : 0 < q) (h1 : q ≤ p) (h2 : r ≤ p) : ¬ (0 < q + r - p ∧ q * r < (q + r - p) * (q + r - p)) := by
 rintro ⟨h3, h4⟩
 have a : (q + r - p) * (q + r - p) ≤ q * (q + r - p) := Rat.mul_le_mul_of_nonneg_right (by grind) (by grind)
 have b : q * (q + r - p) ≤ q * r := Rat.mul_le_mul_of_nonneg_left (by grind) (by grind)
 grind
theorem Gm.least {p q r : Rat} (hq : 0 < q) (hr : 0 < r) (h1 : p ≤ q) (h2 : p ≤ r) (h : ¬ (0 < q + r - p ∧ q * r < (q + r - p) * (q + r - p))) : p = q ∧ q = r := by
 have h3 : (q + r - p) * (q + r - p) ≤ q * r := by
  rcases Rat.le_total (a := ((q + r - p) * (q + r - p))) (b := (q * r)) with k | k
  ·exact k
  ·by_cases e : (q + r - p) * (q + r - p) = q * r
   ·rw [e]; exact Rat.le_refl
   ·exact absurd ⟨by grind, by grind⟩ h
 have a : (q + r - p) * q ≤ (q + r - p) * (q + r - p) := Rat.mul_le_mul_of_nonneg_left (by grind) (by grind)
 have b : (q + r - p) * r ≤ (q + r - p) * (q + r - p) := Rat.mul_le_mul_of_nonneg_left (by grind) (by grind)
 have c : r * q ≤ (q + r - p) * q := Rat.mul_le_mul_of_nonneg_right (by grind) (by grind)
 have d : q * r ≤ (q + r - p) * r := Rat.mul_le_mul_of_nonneg_right (by grind) (by grind)
 have e1 : (q - p) * q = 0 := by grind
 have e2 : (r - p) * r = 0 := by grind
 rcases Rat.mul_eq_zero.1 e1 with h | h
 ·rcases Rat.mul_eq_zero.1 e2 with k | k
  ·grind
  ·grind
 ·grind
theorem shp_sides {ux uy vx vy p q r : Rat} (hp : p = (ux - vx) * (ux - vx) + (uy - vy) * (uy - vy)) (hq : q = ux * ux + uy * uy) (hr : r = vx * vx + vy * vy) : shp ux uy vx vy = true ↔ (0 < q + r - p ∧ q * r < (q + r - p) * (q + r - p)) := by
 unfold shp
 rw [Bool.and_eq_true, decide_eq_true_iff, decide_eq_true_iff, Gm.sg_posi, Gm.sg_posi]
 have e : q + r - p = 2 * (ux * vx + uy * vy) := by grind
 rw [e]
 subst hq hr
 rw [show 2 * (ux * vx + uy * vy) * (2 * (ux * vx + uy * vy)) = 4 * ((ux * vx + uy * vy) * (ux * vx + uy * vy)) by grind]
 clear e hp
 generalize ux * vx + uy * vy = D
 generalize D * D = E
 generalize (ux * ux + uy * uy) * (vx * vx + vy * vy) = N
 constructor
 ·rintro ⟨h1, h2⟩
  constructor <;> grind
 ·rintro ⟨h1, h2⟩
  constructor <;> grind
theorem sq_pos {x y : Rat} (h : ¬ (x = 0 ∧ y = 0)) : 0 < x * x + y * y := by
 have sx : 0 ≤ x * x := by
  rcases Rat.le_total (a := 0) (b := x) with k | k
  ·exact Rat.mul_nonneg k k
  ·have := Rat.mul_nonneg (a := -x) (b := -x) (by grind) (by grind)
   grind
 have sy : 0 ≤ y * y := by
  rcases Rat.le_total (a := 0) (b := y) with k | k
  ·exact Rat.mul_nonneg k k
  ·have := Rat.mul_nonneg (a := -y) (b := -y) (by grind) (by grind)
   grind
 by_cases e : x * x + y * y = 0
 ·exfalso
  have e1 : x * x = 0 := by grind
  have e2 : y * y = 0 := by grind
  refine h ⟨?_, ?_⟩
  ·rcases Rat.mul_eq_zero.1 e1 with k | k <;> exact k
  ·rcases Rat.mul_eq_zero.1 e2 with k | k <;> exact k
 ·grind
theorem angles {p q r : Rat} (hp : 0 < p) (hq : 0 < q) (hr : 0 < r) {A B C : Bool} (ha : A = true ↔ (0 < q + r - p ∧ q * r < (q + r - p) * (q + r - p))) (hb : B = true ↔ (0 < r + p - q ∧ r * p < (r + p - q) * (r + p - q))) (hc : C = true ↔ (0 < p + q - r ∧ p * q < (p + q - r) * (p + q - r))) :
  ¬ (A = true ∧ B = true ∧ C = true) ∧ (A = true ∨ B = true ∨ C = true ∨ (r = p ∧ p = q)) := by
 constructor
 ·rintro ⟨h1, h2, h3⟩
  rw [ha] at h1
  rw [hb] at h2
  rw [hc] at h3
  rcases Rat.le_total (a := p) (b := q) with k | k <;> rcases Rat.le_total (a := q) (b := r) with k2 | k2 <;> rcases Rat.le_total (a := p) (b := r) with k3 | k3
  all_goals first | exact Gm.big hq (by grind) (by grind) h1 | exact Gm.big hr (by grind) (by grind) h2 | exact Gm.big hp (by grind) (by grind) h3
 ·by_cases h1 : A = true
  ·exact Or.inl h1
  by_cases h2 : B = true
  ·exact Or.inr (Or.inl h2)
  by_cases h3 : C = true
  ·exact Or.inr (Or.inr (Or.inl h3))
  refine Or.inr (Or.inr (Or.inr ?_))
  rw [ha] at h1
  rw [hb] at h2
  rw [hc] at h3
  rcases Rat.le_total (a := p) (b := q) with k | k <;> rcases Rat.le_total (a := q) (b := r) with k2 | k2 <;> rcases Rat.le_total (a := p) (b := r) with k3 | k3
  all_goals first | (have := Gm.least hq hr (by grind) (by grind) h1; grind) | (have := Gm.least hr hp (by grind) (by grind) h2; grind) | (have := Gm.least hp hq (by grind) (by grind) h3; grind)
theorem far6I (x0 y0 x1 y1 : Rat) {K : Nat} (hK : K ≤ 100) (b0 : Bq x0 K) (b1 : Bq y0 K) (b2 : Bq x1 K) (b3 : Bq y1 K) (w : World) : Calls Tryz.prog 33 #[pq x0 y0, pq x1 y1] w (Re w (rq ((x1 - x0) * (x1 - x0) + (y1 - y0) * (y1 - y0)))) :=
 far6_walk _ _ _ _ _ _ _ _ _ _ _ _ _ _ _ _ _ _ _ _ _ w (fun w1 _ => rminusP x1 y1 x0 y0 (K := K) (by omega) b2 b3 b0 b1 w1) (fun w1 _ => rnormP (x1 - x0) (y1 - y0) (K := K + K + 1) (by omega) (vq_sub b2 b0) (vq_sub b3 b1) w1)
theorem eqI (x y : Rat) {b : Bool} (h : decide (x = y) = b) : ∀ w1, (binOp .eql 26 (rq x) (rq y)).run Tryz.prog w1 = .ok (.bool b) w1 := fun w1 => by
 subst h
 by_cases e : x = y
 ·subst e
  rw [decide_eq_true rfl]
  go_simp
 ·rw [decide_eq_false e]
  go_simp
  intro a b c
  exact e (can_eq a (bytes_eq b) (bytes_eq c))
theorem angles6_I (x0 y0 x1 y1 x2 y2 : Rat) {K : Nat} (hK : K ≤ 60) (b0 : Bq x0 K) (b1 : Bq y0 K) (b2 : Bq x1 K) (b3 : Bq y1 K) (b4 : Bq x2 K) (b5 : Bq y2 K) (w : World) (hT : Tab w) :
  Calls Tryz.prog 7 #[.agg #[.bool (nfZ x0.num), .string (sfZ x0.num), .string (strOf x0.den), .bool (nfZ y0.num), .string (sfZ y0.num), .string (strOf y0.den), .bool (nfZ x1.num), .string (sfZ x1.num), .string (strOf x1.den), .bool (nfZ y1.num), .string (sfZ y1.num), .string (strOf y1.den), .bool (nfZ x2.num), .string (sfZ x2.num), .string (strOf x2.den), .bool (nfZ y2.num), .string (sfZ y2.num), .string (strOf y2.den)]] w (Re w (.bool true)) := by
 have z : ∀ {x : Rat}, Bq x K → (sfZ x.num).size ≤ 100 ∧ (strOf x.den).size ≤ 100 := fun b => bq_sz (by omega) b
 have sx : ∀ {x : Rat}, Bq x K → sh6 (sfZ x.num) (strOf x.den) = true := fun b => decide_eq_true (bq_sz hK b)
 have c := fun {x : Rat} (b : Bq x K) => chk_can8 x (by omega) b
 have HL : Hid (∀ w1, Below w.heap.size w w1 → Calls Tryz.prog 17 #[] w1 (Re w1 (.bool true))) := fun w1 b => live6_any w1 (hT.below b)
 have hs : Hid (∀ w1, Calls Tryz.prog 16 #[.agg #[.bool (nfZ x0.num), .string (sfZ x0.num), .string (strOf x0.den), .bool (nfZ y0.num), .string (sfZ y0.num), .string (strOf y0.den), .bool (nfZ x1.num), .string (sfZ x1.num), .string (strOf x1.den), .bool (nfZ y1.num), .string (sfZ y1.num), .string (strOf y1.den), .bool (nfZ x2.num), .string (sfZ x2.num), .string (strOf x2.den), .bool (nfZ y2.num), .string (sfZ y2.num), .string (strOf y2.den)]] w1 (Re w1 (.bool true))) := fun w1 => by
  have := small6_any (nfZ x0.num) (nfZ y0.num) (nfZ x1.num) (nfZ y1.num) (nfZ x2.num) (nfZ y2.num) (sfZ x0.num) (strOf x0.den) (sfZ y0.num) (strOf y0.den) (sfZ x1.num) (strOf x1.den) (sfZ y1.num) (strOf y1.den) (sfZ x2.num) (strOf x2.den) (sfZ y2.num) (strOf y2.den) w1
  rwa [sx b0, sx b1, sx b2, sx b3, sx b4, sx b5] at this
 have ha : Hid (∀ w1, Below w.heap.size w w1 → Calls Tryz.prog 19 #[pq x0 y0, pq x1 y1, pq x2 y2] w1 (Re w1 (.int .i64 0))) := fun w1 _ => by
  have := asked6_any (nfZ x0.num) (nfZ y0.num) (nfZ x1.num) (nfZ y1.num) (nfZ x2.num) (nfZ y2.num) (sfZ x0.num) (strOf x0.den) (sfZ y0.num) (strOf y0.den) (sfZ x1.num) (strOf x1.den) (sfZ y1.num) (strOf y1.den) (sfZ x2.num) (strOf x2.den) (sfZ y2.num) (strOf y2.den) w1 (z b0) (z b1) (z b2) (z b3) (z b4) (z b5)
  rwa [two_zero.2 ⟨two_zero.2 ⟨twoq_zero.2 ⟨c b0, c b1⟩, twoq_zero.2 ⟨c b2, c b3⟩⟩, twoq_zero.2 ⟨c b4, c b5⟩⟩] at this
 have ho := fun w1 (_ : Below w.heap.size w w1) => rorientI x0 y0 x1 y1 x2 y2 (K := K) (by omega) b0 b1 b2 b3 b4 b5 w1
 by_cases h0 : Gm.sg (Gm.cr x0 y0 x1 y1 x2 y2) = 0
 ·rw [h0] at ho
  exact angles6_o (nfZ x0.num) (nfZ y0.num) (nfZ x1.num) (nfZ y1.num) (nfZ x2.num) (nfZ y2.num) (sfZ x0.num) (strOf x0.den) (sfZ y0.num) (strOf y0.den) (sfZ x1.num) (strOf x1.den) (sfZ y1.num) (strOf y1.den) (sfZ x2.num) (strOf x2.den) (sfZ y2.num) (strOf y2.den) w hs ha ho HL
 ·have hne : Gm.cr x0 y0 x1 y1 x2 y2 ≠ 0 := fun e => h0 (Gm.sg_eq_zero.2 e)
  unfold Gm.cr at hne
  have nAC : ¬ (x0 = x2 ∧ y0 = y2) := by rintro ⟨rfl, rfl⟩; exact hne (by grind)
  have nAB : ¬ (x0 = x1 ∧ y0 = y1) := by rintro ⟨rfl, rfl⟩; exact hne (by grind)
  have nBC : ¬ (x1 = x2 ∧ y1 = y2) := by rintro ⟨rfl, rfl⟩; exact hne (by grind)
  have nBA : ¬ (x1 = x0 ∧ y1 = y0) := fun ⟨a, b⟩ => nAB ⟨a.symm, b.symm⟩
  have nCB : ¬ (x2 = x1 ∧ y2 = y1) := fun ⟨a, b⟩ => nBC ⟨a.symm, b.symm⟩
  have nCA : ¬ (x2 = x0 ∧ y2 = y0) := fun ⟨a, b⟩ => nAC ⟨a.symm, b.symm⟩
  have hp : 0 < ((x2 - x1) * (x2 - x1) + (y2 - y1) * (y2 - y1)) := sq_pos (fun ⟨a, b⟩ => nBC ⟨by grind, by grind⟩)
  have hq : 0 < ((x0 - x2) * (x0 - x2) + (y0 - y2) * (y0 - y2)) := sq_pos (fun ⟨a, b⟩ => nAC ⟨by grind, by grind⟩)
  have hr : 0 < ((x1 - x0) * (x1 - x0) + (y1 - y0) * (y1 - y0)) := sq_pos (fun ⟨a, b⟩ => nAB ⟨by grind, by grind⟩)
  have ag := angles hp hq hr (A := (shp (x2 - x0) (y2 - y0) (x1 - x0) (y1 - y0))) (B := (shp (x0 - x1) (y0 - y1) (x2 - x1) (y2 - y1))) (C := (shp (x1 - x2) (y1 - y2) (x0 - x2) (y0 - y2))) (shp_sides (by grind) (by grind) (by grind)) (shp_sides (by grind) (by grind) (by grind)) (shp_sides (by grind) (by grind) (by grind))
  have hg : (Gm.sg (Gm.cr x0 y0 x1 y1 x2 y2) == 0) = false := beq_eq_false_iff_ne.2 h0
  by_cases e1 : ((x1 - x0) * (x1 - x0) + (y1 - y0) * (y1 - y0)) = ((x2 - x1) * (x2 - x1) + (y2 - y1) * (y2 - y1))
  ·by_cases e2 : ((x2 - x1) * (x2 - x1) + (y2 - y1) * (y2 - y1)) = ((x0 - x2) * (x0 - x2) + (y0 - y2) * (y0 - y2))
   ·exact angles6_y (nfZ x0.num) (nfZ y0.num) (nfZ x1.num) (nfZ y1.num) (nfZ x2.num) (nfZ y2.num) (sfZ x0.num) (strOf x0.den) (sfZ y0.num) (strOf y0.den) (sfZ x1.num) (strOf x1.den) (sfZ y1.num) (strOf y1.den) (sfZ x2.num) (strOf x2.den) (sfZ y2.num) (strOf y2.den) _ _ _ (nfZ (((x2 - x1) * (x2 - x1) + (y2 - y1) * (y2 - y1))).num) (nfZ (((x0 - x2) * (x0 - x2) + (y0 - y2) * (y0 - y2))).num) (nfZ (((x1 - x0) * (x1 - x0) + (y1 - y0) * (y1 - y0))).num) (sfZ (((x2 - x1) * (x2 - x1) + (y2 - y1) * (y2 - y1))).num) (strOf (((x2 - x1) * (x2 - x1) + (y2 - y1) * (y2 - y1))).den) (sfZ (((x0 - x2) * (x0 - x2) + (y0 - y2) * (y0 - y2))).num) (strOf (((x0 - x2) * (x0 - x2) + (y0 - y2) * (y0 - y2))).den) (sfZ (((x1 - x0) * (x1 - x0) + (y1 - y0) * (y1 - y0))).num) (strOf (((x1 - x0) * (x1 - x0) + (y1 - y0) * (y1 - y0))).den) _ w hg ag.1 hs ha ho HL (fun w1 b => sharpI x2 y2 x0 y0 x1 y1 (by omega) b4 b5 b0 b1 b2 b3 w1 (hT.below b) nAC nAB) (fun w1 b => sharpI x0 y0 x1 y1 x2 y2 (by omega) b0 b1 b2 b3 b4 b5 w1 (hT.below b) nBA nBC) (fun w1 b => sharpI x1 y1 x2 y2 x0 y0 (by omega) b2 b3 b4 b5 b0 b1 w1 (hT.below b) nCB nCA) (fun w1 _ => far6I x0 y0 x1 y1 (by omega) b0 b1 b2 b3 w1) (fun w1 _ => far6I x1 y1 x2 y2 (by omega) b2 b3 b4 b5 w1) (fun w1 _ => far6I x2 y2 x0 y0 (by omega) b4 b5 b0 b1 w1) (eqI _ _ (decide_eq_true e1)) (eqI _ _ (decide_eq_true e2))
   ·exact angles6_m (nfZ x0.num) (nfZ y0.num) (nfZ x1.num) (nfZ y1.num) (nfZ x2.num) (nfZ y2.num) (sfZ x0.num) (strOf x0.den) (sfZ y0.num) (strOf y0.den) (sfZ x1.num) (strOf x1.den) (sfZ y1.num) (strOf y1.den) (sfZ x2.num) (strOf x2.den) (sfZ y2.num) (strOf y2.den) _ _ _ (nfZ (((x2 - x1) * (x2 - x1) + (y2 - y1) * (y2 - y1))).num) (nfZ (((x0 - x2) * (x0 - x2) + (y0 - y2) * (y0 - y2))).num) (nfZ (((x1 - x0) * (x1 - x0) + (y1 - y0) * (y1 - y0))).num) (sfZ (((x2 - x1) * (x2 - x1) + (y2 - y1) * (y2 - y1))).num) (strOf (((x2 - x1) * (x2 - x1) + (y2 - y1) * (y2 - y1))).den) (sfZ (((x0 - x2) * (x0 - x2) + (y0 - y2) * (y0 - y2))).num) (strOf (((x0 - x2) * (x0 - x2) + (y0 - y2) * (y0 - y2))).den) (sfZ (((x1 - x0) * (x1 - x0) + (y1 - y0) * (y1 - y0))).num) (strOf (((x1 - x0) * (x1 - x0) + (y1 - y0) * (y1 - y0))).den) _ w hg ag.1 (by rcases ag.2 with h | h | h | h; exact Or.inl h; exact Or.inr (Or.inl h); exact Or.inr (Or.inr h); exact absurd h.2 e2) hs ha ho HL (fun w1 b => sharpI x2 y2 x0 y0 x1 y1 (by omega) b4 b5 b0 b1 b2 b3 w1 (hT.below b) nAC nAB) (fun w1 b => sharpI x0 y0 x1 y1 x2 y2 (by omega) b0 b1 b2 b3 b4 b5 w1 (hT.below b) nBA nBC) (fun w1 b => sharpI x1 y1 x2 y2 x0 y0 (by omega) b2 b3 b4 b5 b0 b1 w1 (hT.below b) nCB nCA) (fun w1 _ => far6I x0 y0 x1 y1 (by omega) b0 b1 b2 b3 w1) (fun w1 _ => far6I x1 y1 x2 y2 (by omega) b2 b3 b4 b5 w1) (fun w1 _ => far6I x2 y2 x0 y0 (by omega) b4 b5 b0 b1 w1) (eqI _ _ (decide_eq_true e1)) (eqI _ _ (decide_eq_false e2))
  ·exact angles6_n (nfZ x0.num) (nfZ y0.num) (nfZ x1.num) (nfZ y1.num) (nfZ x2.num) (nfZ y2.num) (sfZ x0.num) (strOf x0.den) (sfZ y0.num) (strOf y0.den) (sfZ x1.num) (strOf x1.den) (sfZ y1.num) (strOf y1.den) (sfZ x2.num) (strOf x2.den) (sfZ y2.num) (strOf y2.den) _ _ _ (nfZ (((x2 - x1) * (x2 - x1) + (y2 - y1) * (y2 - y1))).num) (nfZ (((x1 - x0) * (x1 - x0) + (y1 - y0) * (y1 - y0))).num) (sfZ (((x2 - x1) * (x2 - x1) + (y2 - y1) * (y2 - y1))).num) (strOf (((x2 - x1) * (x2 - x1) + (y2 - y1) * (y2 - y1))).den) (sfZ (((x1 - x0) * (x1 - x0) + (y1 - y0) * (y1 - y0))).num) (strOf (((x1 - x0) * (x1 - x0) + (y1 - y0) * (y1 - y0))).den) _ w hg ag.1 (by rcases ag.2 with h | h | h | h; exact Or.inl h; exact Or.inr (Or.inl h); exact Or.inr (Or.inr h); exact absurd h.1 e1) hs ha ho HL (fun w1 b => sharpI x2 y2 x0 y0 x1 y1 (by omega) b4 b5 b0 b1 b2 b3 w1 (hT.below b) nAC nAB) (fun w1 b => sharpI x0 y0 x1 y1 x2 y2 (by omega) b0 b1 b2 b3 b4 b5 w1 (hT.below b) nBA nBC) (fun w1 b => sharpI x1 y1 x2 y2 x0 y0 (by omega) b2 b3 b4 b5 b0 b1 w1 (hT.below b) nCB nCA) (fun w1 _ => far6I x0 y0 x1 y1 (by omega) b0 b1 b2 b3 w1) (fun w1 _ => far6I x1 y1 x2 y2 (by omega) b2 b3 b4 b5 w1) (eqI _ _ (decide_eq_false e1))
theorem angles6_law (n0 n1 n2 n3 n4 n5 : Bool) (s0 d0 s1 d1 s2 d2 s3 d3 s4 d4 s5 d5 : ByteArray) (w : World) (hT : Tab w) :
  Calls Tryz.prog 7 #[.agg #[.bool n0, .string s0, .string d0, .bool n1, .string s1, .string d1, .bool n2, .string s2, .string d2, .bool n3, .string s3, .string d3, .bool n4, .string s4, .string d4, .bool n5, .string s5, .string d5]] w (Re w (.bool true)) := by
 have HL : Hid (∀ w1, Below w.heap.size w w1 → Calls Tryz.prog 17 #[] w1 (Re w1 (.bool true))) := fun w1 b => live6_any w1 (hT.below b)
 have hs := fun w1 => small6_any n0 n1 n2 n3 n4 n5 s0 d0 s1 d1 s2 d2 s3 d3 s4 d4 s5 d5 w1
 cases e1 : (sh6 s0 d0 && (sh6 s1 d1 && (sh6 s2 d2 && (sh6 s3 d3 && (sh6 s4 d4 && sh6 s5 d5))))) with
 | false => rw [e1] at hs; exact angles6_l n0 n1 n2 n3 n4 n5 s0 d0 s1 d1 s2 d2 s3 d3 s4 d4 s5 d5 w hs HL
 | true =>
  rw [e1] at hs
  simp only [Bool.and_eq_true] at e1
  obtain ⟨q0, q1, q2, q3, q4, q5⟩ := e1
  have z0 := sh6_t q0; have z1 := sh6_t q1; have z2 := sh6_t q2; have z3 := sh6_t q3; have z4 := sh6_t q4; have z5 := sh6_t q5
  have ha := fun w1 (_ : Below w.heap.size w w1) => asked6_any n0 n1 n2 n3 n4 n5 s0 d0 s1 d1 s2 d2 s3 d3 s4 d4 s5 d5 w1 (le100 z0) (le100 z1) (le100 z2) (le100 z3) (le100 z4) (le100 z5)
  by_cases hE : two (two (twoq n0 s0 d0 n1 s1 d1) (twoq n2 s2 d2 n3 s3 d3)) (twoq n4 s4 d4 n5 s5 d5) = 0
  ·simp only [two_zero, twoq_zero] at hE
   obtain ⟨⟨⟨a0, a1⟩, a2, a3⟩, a4, a5⟩ := hE
   obtain ⟨x0, b0, rfl, rfl, rfl⟩ := canon a0 z0
   obtain ⟨x1, b1, rfl, rfl, rfl⟩ := canon a1 z1
   obtain ⟨x2, b2, rfl, rfl, rfl⟩ := canon a2 z2
   obtain ⟨x3, b3, rfl, rfl, rfl⟩ := canon a3 z3
   obtain ⟨x4, b4, rfl, rfl, rfl⟩ := canon a4 z4
   obtain ⟨x5, b5, rfl, rfl, rfl⟩ := canon a5 z5
   exact angles6_I x0 x1 x2 x3 x4 x5 (Nat.le_refl _) b0 b1 b2 b3 b4 b5 w hT
  ·exact angles6_a n0 n1 n2 n3 n4 n5 s0 d0 s1 d1 s2 d2 s3 d3 s4 d4 s5 d5 _ w (by omega) hs ha HL
end Go.Proofs.YtmojdkjpcjfkeaaGreatDoor
