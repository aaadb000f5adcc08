/-
  Package cons, in numbers' one form.
  Package cons, in numbers' one form: distances.
  gussetlaw06: live.
  gussetlaw06: ConsParts holds.
-/
import Derived.Test.YtmojdkjpcjfkeaaGreatDoorP46
import Derived.Test.YtmojdkjpcjfkeaaGreatDoorP47
import Derived.Test.YtmojdkjpcjfkeaaGreatDoorP53
import Derived.Test.YtmojdkjpcjfkeaaGreatDoorP54
namespace Go.Proofs.YtmojdkjpcjfkeaaGreatDoor
open Go.RowKit
abbrev pq (x y : Rat) : Value := .agg #[.bool (nfZ x.num), .string (sfZ x.num), .string (strOf x.den), .bool (nfZ y.num), .string (sfZ y.num), .string (strOf y.den)]
abbrev rq (x : Rat) : Value := .agg #[.bool (nfZ x.num), .string (sfZ x.num), .string (strOf x.den)]
abbrev Ra (w : World) (v : Value) : Ending → World → Prop := fun e w' => e = .returned v ∧ Below w.heap.size w w'
theorem ofI (x0 y0 x1 y1 : Rat) {K : Nat} (hK : K ≤ 100) (b0 : Bq x0 K) (b1 : Bq y0 K) (b2 : Bq x1 K) (b3 : Bq y1 K) : Hid (∀ w1, Calls Tryz.prog 57 #[pq x0 y0, pq x1 y1] w1 fun e w' => ∃ m0 a0 l0 c0 m1 a1 l1 c1 a2 l2 c2 X Y U, e = .returned (.agg #[.bool m0, .slice a0 l0 c0, .bool m1, .slice a1 l1 c1, .bool false, .slice a2 l2 c2]) ∧ SpV w' m0 a0 l0 c0 m1 a1 l1 c1 a2 l2 c2 X Y U (x1 - x0) (y1 - y0) ∧ Below w1.heap.size w1 w') := fun w1 => by
 have := sof_any (nfZ x0.num) (nfZ y0.num) (nfZ x1.num) (nfZ y1.num) (sfZ x0.num) (strOf x0.den) (sfZ y0.num) (strOf y0.den) (sfZ x1.num) (strOf x1.den) (sfZ y1.num) (strOf y1.den) w1 (okQ_qI x0) (okQ_qI y0) (okQ_qI x1) (okQ_qI y1) (bq_sz hK b0) (bq_sz hK b1) (bq_sz hK b2) (bq_sz hK b3)
 simp only [qOf_one] at this
 refine this.mono ?_
 rintro e w' ⟨m0, a0, l0, c0, m1, a1, l1, c1, a2, l2, c2, X, Y, U, h1, h2, h3, h4, h5, h6⟩
 exact ⟨m0, a0, l0, c0, m1, a1, l1, c1, a2, l2, c2, X, Y, U, h1, ⟨h2, h3, h4, h5⟩, h6⟩
theorem chkI (x0 y0 x1 y1 x2 y2 : Rat) {K : Nat} (hK : K ≤ 100) (b0 : Bq x0 K) (b1 : Bq y0 K) (b2 : Bq x1 K) (b3 : Bq y1 K) (b4 : Bq x2 K) (b5 : Bq y2 K) (w : World) (hT : Tab w) : Hid (∀ (w1 : World) (B : Nat), Below w.heap.size w w1 → Cel w1 B [.bool (nfZ x0.num), .string (sfZ x0.num), .string (strOf x0.den), .bool (nfZ y0.num), .string (sfZ y0.num), .string (strOf y0.den), .bool (nfZ x1.num), .string (sfZ x1.num), .string (strOf x1.den), .bool (nfZ y1.num), .string (sfZ y1.num), .string (strOf y1.den), .bool (nfZ x2.num), .string (sfZ x2.num), .string (strOf x2.den), .bool (nfZ y2.num), .string (sfZ y2.num), .string (strOf y2.den)] 28 → Calls Tryz.prog 40 #[.slice (some ⟨B, 0, none⟩) 3 3] w1 (Re w1 (.int .i64 0))) := fun w1 B b h => by
 have := scheck3 B (nfZ x0.num) (nfZ y0.num) (nfZ x1.num) (nfZ y1.num) (nfZ x2.num) (nfZ y2.num) (sfZ x0.num) (strOf x0.den) (sfZ y0.num) (strOf y0.den) (sfZ x1.num) (strOf x1.den) (sfZ y1.num) (strOf y1.den) (sfZ x2.num) (strOf x2.den) (sfZ y2.num) (strOf y2.den) w1 (hT.below b) h (bq_sz hK b0) (bq_sz hK b1) (bq_sz hK b2) (bq_sz hK b3) (bq_sz hK b4) (bq_sz hK b5)
 rwa [two_zero.2 ⟨two_zero.2 ⟨twoq_zero.2 ⟨chk_can8 x0 (by omega) b0, chk_can8 y0 (by omega) b1⟩, twoq_zero.2 ⟨chk_can8 x1 (by omega) b2, chk_can8 y1 (by omega) b3⟩⟩, twoq_zero.2 ⟨chk_can8 x2 (by omega) b4, chk_can8 y2 (by omega) b5⟩⟩] at this
theorem can_eq {x y : Rat} (h1 : nfZ x.num = nfZ y.num) (h2 : sfZ x.num = sfZ y.num) (h3 : strOf x.den = strOf y.den) : x = y := by
 rw [← qOf_one x, ← qOf_one y, h1, h2, h3]
theorem neI (x0 y0 x1 y1 : Rat) (h : ¬ (x0 = x1 ∧ y0 = y1)) : ∀ w1, (binOp .eql 28 (pq x0 y0) (pq x1 y1)).run Tryz.prog w1 = .ok (.bool false) w1 := fun w1 =>
 run_peq _ _ _ _ _ _ _ _ _ _ _ _ w1 (fun ⟨a, b, c, d, e, f⟩ => h ⟨can_eq a b c, can_eq d e f⟩)
theorem bq_mono {x : Rat} {K M' : Nat} (h : Bq x K) (hK : K ≤ M') : Bq x M' := ⟨h.1.mono hK, h.2.mono hK⟩
theorem sg_zero {x : Rat} (h : Gm.sg x = 0) : x = 0 := by
 exact Rat.num_eq_zero.1 (Int.sign_eq_zero_iff_zero.1 h)
theorem areaI (x0 y0 x1 y1 x2 y2 : Rat) {K : Nat} (hK : K ≤ 100) (b0 : Bq x0 K) (b1 : Bq y0 K) (b2 : Bq x1 K) (b3 : Bq y1 K) (b4 : Bq x2 K) (b5 : Bq y2 K) (w : World) (hT : Tab w) : Calls Tryz.prog 22 #[pq x0 y0, pq x1 y1, pq x2 y2] w (Ra w (.tuple #[rq ((x1 - x0) * (y2 - y0) - (y1 - y0) * (x2 - x0)), .int .i64 0])) :=
 cArea_ok (nfZ x0.num) (nfZ y0.num) (nfZ x1.num) (nfZ y1.num) (nfZ x2.num) (nfZ y2.num) (sfZ x0.num) (strOf x0.den) (sfZ y0.num) (strOf y0.den) (sfZ x1.num) (strOf x1.den) (sfZ y1.num) (strOf y1.den) (sfZ x2.num) (strOf x2.den) (sfZ y2.num) (strOf y2.den) (x1 - x0) (y1 - y0) (x2 - x0) (y2 - y0) w hT (chkI x0 y0 x1 y1 x2 y2 hK b0 b1 b2 b3 b4 b5 w hT) (ofI x0 y0 x1 y1 hK b0 b1 b2 b3) (ofI x0 y0 x2 y2 hK b0 b1 b4 b5)
def shp (ux uy vx vy : Rat) : Bool := decide (0 < Gm.sg (ux * vx + uy * vy)) && decide (0 < Gm.sg (4 * ((ux * vx + uy * vy) * (ux * vx + uy * vy)) - (ux * ux + uy * uy) * (vx * vx + vy * vy)))
theorem sharpI (x0 y0 x1 y1 x2 y2 : Rat) {K : Nat} (hK : K ≤ 100) (b0 : Bq x0 K) (b1 : Bq y0 K) (b2 : Bq x1 K) (b3 : Bq y1 K) (b4 : Bq x2 K) (b5 : Bq y2 K) (w : World) (hT : Tab w) (h1 : ¬ (x1 = x0 ∧ y1 = y0)) (h2 : ¬ (x1 = x2 ∧ y1 = y2)) : Calls Tryz.prog 21 #[pq x0 y0, pq x1 y1, pq x2 y2] w (Ra w (.tuple #[.bool (shp (x0 - x1) (y0 - y1) (x2 - x1) (y2 - y1)), .int .i64 0])) := by
 unfold shp
 by_cases hd : Gm.sg ((x0 - x1) * (x2 - x1) + (y0 - y1) * (y2 - y1)) ≤ 0
 ·rw [decide_eq_false (by omega), Bool.false_and]
  exact cSharp_no (nfZ x0.num) (nfZ y0.num) (nfZ x1.num) (nfZ y1.num) (nfZ x2.num) (nfZ y2.num) (sfZ x0.num) (strOf x0.den) (sfZ y0.num) (strOf y0.den) (sfZ x1.num) (strOf x1.den) (sfZ y1.num) (strOf y1.den) (sfZ x2.num) (strOf x2.den) (sfZ y2.num) (strOf y2.den) (x0 - x1) (y0 - y1) (x2 - x1) (y2 - y1) w (chkI x0 y0 x1 y1 x2 y2 hK b0 b1 b2 b3 b4 b5 w hT) (neI _ _ _ _ h1) (neI _ _ _ _ h2) (ofI x1 y1 x0 y0 hK b2 b3 b0 b1) (ofI x1 y1 x2 y2 hK b2 b3 b4 b5) hd
 ·rw [decide_eq_true (by omega), Bool.true_and]
  exact cSharp_ok (nfZ x0.num) (nfZ y0.num) (nfZ x1.num) (nfZ y1.num) (nfZ x2.num) (nfZ y2.num) (sfZ x0.num) (strOf x0.den) (sfZ y0.num) (strOf y0.den) (sfZ x1.num) (strOf x1.den) (sfZ y1.num) (strOf y1.den) (sfZ x2.num) (strOf x2.den) (sfZ y2.num) (strOf y2.den) (x0 - x1) (y0 - y1) (x2 - x1) (y2 - y1) w (chkI x0 y0 x1 y1 x2 y2 hK b0 b1 b2 b3 b4 b5 w hT) (neI _ _ _ _ h1) (neI _ _ _ _ h2) (ofI x1 y1 x0 y0 hK b2 b3 b0 b1) (ofI x1 y1 x2 y2 hK b2 b3 b4 b5) hd
theorem cenI_flat (x0 y0 x1 y1 x2 y2 : Rat) {K : Nat} (hK : K ≤ 100) (b0 : Bq x0 K) (b1 : Bq y0 K) (b2 : Bq x1 K) (b3 : Bq y1 K) (b4 : Bq x2 K) (b5 : Bq y2 K) (w : World) (hT : Tab w) (h : (x1 - x0) * (y2 - y0) - (y1 - y0) * (x2 - x0) = 0) : Calls Tryz.prog 53 #[pq x0 y0, pq x1 y1, pq x2 y2] w (Ra w (.tuple #[.agg #[.bool false, .string { data := #[] }, .string { data := #[] }, .bool false, .string { data := #[] }, .string { data := #[] }], .int .i64 6])) :=
 cCen_flat (nfZ x0.num) (nfZ y0.num) (nfZ x1.num) (nfZ y1.num) (nfZ x2.num) (nfZ y2.num) (sfZ x0.num) (strOf x0.den) (sfZ y0.num) (strOf y0.den) (sfZ x1.num) (strOf x1.den) (sfZ y1.num) (strOf y1.den) (sfZ x2.num) (strOf x2.den) (sfZ y2.num) (strOf y2.den) w (chkI x0 y0 x1 y1 x2 y2 hK b0 b1 b2 b3 b4 b5 w hT) (fun w1 => toC_flat (nfZ x0.num) (nfZ y0.num) (nfZ x1.num) (nfZ y1.num) (nfZ x2.num) (nfZ y2.num) (sfZ x0.num) (strOf x0.den) (sfZ y0.num) (strOf y0.den) (sfZ x1.num) (strOf x1.den) (sfZ y1.num) (strOf y1.den) (sfZ x2.num) (strOf x2.den) (sfZ y2.num) (strOf y2.den) (x1 - x0) (y1 - y0) (x2 - x0) (y2 - y0) w1 (by rw [h]; rfl) (ofI x0 y0 x1 y1 hK b0 b1 b2 b3) (ofI x0 y0 x2 y2 hK b0 b1 b4 b5))
def cenX (ux uy vx vy : Rat) : Rat := ((ux * ux + uy * uy) * vy - (vx * vx + vy * vy) * uy) / ((ux * vy - uy * vx) + (ux * vy - uy * vx))
def cenY (ux uy vx vy : Rat) : Rat := (ux * (vx * vx + vy * vy) - vx * (ux * ux + uy * uy)) / ((ux * vy - uy * vx) + (ux * vy - uy * vx))
theorem cenI (x0 y0 x1 y1 x2 y2 : Rat) {K : Nat} (hK : K ≤ 100) (b0 : Bq x0 K) (b1 : Bq y0 K) (b2 : Bq x1 K) (b3 : Bq y1 K) (b4 : Bq x2 K) (b5 : Bq y2 K) (w : World) (hT : Tab w) (h : (x1 - x0) * (y2 - y0) - (y1 - y0) * (x2 - x0) ≠ 0) {cx cy : Rat} (ex : cenX (x1 - x0) (y1 - y0) (x2 - x0) (y2 - y0) = cx) (ey : cenY (x1 - x0) (y1 - y0) (x2 - x0) (y2 - y0) = cy) {M' : Nat} (hM : M' ≤ 4000) (hKM : K ≤ M') (bx : Bq cx M') (bY : Bq cy M') :
  Calls Tryz.prog 53 #[pq x0 y0, pq x1 y1, pq x2 y2] w (Ra w (.tuple #[pq (x0 + cx) (y0 + cy), .int .i64 0])) := by
 subst ex ey
 refine cCen_ok (nfZ x0.num) (nfZ y0.num) (nfZ x1.num) (nfZ y1.num) (nfZ x2.num) (nfZ y2.num) (sfZ x0.num) (strOf x0.den) (sfZ y0.num) (strOf y0.den) (sfZ x1.num) (strOf x1.den) (sfZ y1.num) (strOf y1.den) (sfZ x2.num) (strOf x2.den) (sfZ y2.num) (strOf y2.den) (cenX (x1 - x0) (y1 - y0) (x2 - x0) (y2 - y0)) (cenY (x1 - x0) (y1 - y0) (x2 - x0) (y2 - y0)) _ _ _ _ _ _ w hT (chkI x0 y0 x1 y1 x2 y2 hK b0 b1 b2 b3 b4 b5 w hT) (fun w1 => toC_ok (nfZ x0.num) (nfZ y0.num) (nfZ x1.num) (nfZ y1.num) (nfZ x2.num) (nfZ y2.num) (sfZ x0.num) (strOf x0.den) (sfZ y0.num) (strOf y0.den) (sfZ x1.num) (strOf x1.den) (sfZ y1.num) (strOf y1.den) (sfZ x2.num) (strOf x2.den) (sfZ y2.num) (strOf y2.den) (x1 - x0) (y1 - y0) (x2 - x0) (y2 - y0) w1 ?_ (ofI x0 y0 x1 y1 hK b0 b1 b2 b3) (ofI x0 y0 x2 y2 hK b0 b1 b4 b5)) (fun w1 b => vplusI x0 y0 _ _ hM (bq_mono b0 hKM) (bq_mono b1 hKM) bx bY w1 (hT.below b))
 rw [beq_eq_false_iff_ne]
 intro e
 exact h (sg_zero e)
theorem farI (x0 y0 x1 y1 : Rat) {K : Nat} (hK : K ≤ 100) (b0 : Bq x0 K) (b1 : Bq y0 K) (b2 : Bq x1 K) (b3 : Bq y1 K) (w : World) (hT : Tab w) : Calls Tryz.prog 56 #[pq x0 y0, pq x1 y1] w (Ra w (rq ((x1 - x0) * (x1 - x0) + (y1 - y0) * (y1 - y0)))) :=
 far2_walk (nfZ x0.num) (nfZ y0.num) (nfZ x1.num) (nfZ y1.num) (sfZ x0.num) (strOf x0.den) (sfZ y0.num) (strOf y0.den) (sfZ x1.num) (strOf x1.den) (sfZ y1.num) (strOf y1.den) (x1 - x0) (y1 - y0) w hT (ofI x0 y0 x1 y1 hK b0 b1 b2 b3)
theorem nearI_b (x0 y0 x1 y1 x2 y2 : Rat) {K : Nat} (hK : K ≤ 100) (b0 : Bq x0 K) (b1 : Bq y0 K) (b2 : Bq x1 K) (b3 : Bq y1 K) (b4 : Bq x2 K) (b5 : Bq y2 K) (w : World) (hT : Tab w) (h1 : ¬ (x0 = x1 ∧ y0 = y1)) (hd : ¬ Gm.sg ((x1 - x0) * (x2 - x0) + (y1 - y0) * (y2 - y0)) ≤ 0) (hb : 0 ≤ Gm.sg ((x1 - x0) * (x2 - x1) + (y1 - y0) * (y2 - y1))) : Calls Tryz.prog 18 #[pq x0 y0, pq x1 y1, pq x2 y2] w (Ra w (.tuple #[rq ((x2 - x1) * (x2 - x1) + (y2 - y1) * (y2 - y1)), .int .i64 0])) :=
 cNear_b (nfZ x0.num) (nfZ y0.num) (nfZ x1.num) (nfZ y1.num) (nfZ x2.num) (nfZ y2.num) (sfZ x0.num) (strOf x0.den) (sfZ y0.num) (strOf y0.den) (sfZ x1.num) (strOf x1.den) (sfZ y1.num) (strOf y1.den) (sfZ x2.num) (strOf x2.den) (sfZ y2.num) (strOf y2.den) (nfZ (((x2 - x1) * (x2 - x1) + (y2 - y1) * (y2 - y1))).num) (sfZ (((x2 - x1) * (x2 - x1) + (y2 - y1) * (y2 - y1))).num) (strOf (((x2 - x1) * (x2 - x1) + (y2 - y1) * (y2 - y1))).den) (x1 - x0) (y1 - y0) (x2 - x0) (y2 - y0) (x2 - x1) (y2 - y1) w (chkI x0 y0 x1 y1 x2 y2 hK b0 b1 b2 b3 b4 b5 w hT) (neI _ _ _ _ h1) (ofI x0 y0 x1 y1 hK b0 b1 b2 b3) (ofI x0 y0 x2 y2 hK b0 b1 b4 b5) hd hb (fun w1 => (ofI x1 y1 x2 y2 hK b2 b3 b4 b5 w1).mono (fun e w' h => by obtain ⟨m0, a0, l0, c0, m1, a1, l1, c1, a2, l2, c2, X, Y, U, h1, h2, h3⟩ := h; exact ⟨m0, a0, l0, c0, m1, a1, l1, c1, a2, l2, c2, X, Y, U, h1, h2.1, h2.2.1, h2.2.2.1, h2.2.2.2, h3⟩)) (fun w1 b => farI x1 y1 x2 y2 hK b2 b3 b4 b5 w1 (hT.below b))
set_option maxRecDepth 100000 in
set_option maxHeartbeats 8000000 in
theorem live6_walk (n10 n11 n12 n13 n14 n15 n16 n17 n18 n19 n20 n21 n22 n23 : Bool) (s10 d10 s11 d11 s12 d12 s13 d13 s14 d14 s15 d15 s16 d16 s17 d17 s18 d18 s19 d19 s20 d20 s21 d21 s22 d22 s23 d23 : ByteArray) (fN : Bool) (fS fD : ByteArray) (w : World)
  (A00 : Hid (∀ w1, Calls Tryz.prog 54 #[.int .i64 0, .int .i64 0] w1 (Re w1 (.agg #[.bool n10, .string s10, .string d10, .bool n11, .string s11, .string d11]))))
  (A20 : Hid (∀ w1, Calls Tryz.prog 54 #[.int .i64 2, .int .i64 0] w1 (Re w1 (.agg #[.bool n12, .string s12, .string d12, .bool n13, .string s13, .string d13]))))
  (A02 : Hid (∀ w1, Calls Tryz.prog 54 #[.int .i64 0, .int .i64 2] w1 (Re w1 (.agg #[.bool n14, .string s14, .string d14, .bool n15, .string s15, .string d15]))))
  (A40 : Hid (∀ w1, Calls Tryz.prog 54 #[.int .i64 4, .int .i64 0] w1 (Re w1 (.agg #[.bool n16, .string s16, .string d16, .bool n17, .string s17, .string d17]))))
  (A60 : Hid (∀ w1, Calls Tryz.prog 54 #[.int .i64 6, .int .i64 0] w1 (Re w1 (.agg #[.bool n18, .string s18, .string d18, .bool n19, .string s19, .string d19]))))
  (A10 : Hid (∀ w1, Calls Tryz.prog 54 #[.int .i64 1, .int .i64 0] w1 (Re w1 (.agg #[.bool n20, .string s20, .string d20, .bool n21, .string s21, .string d21]))))
  (A11 : Hid (∀ w1, Calls Tryz.prog 54 #[.int .i64 1, .int .i64 1] w1 (Re w1 (.agg #[.bool n22, .string s22, .string d22, .bool n23, .string s23, .string d23]))))
  (F4 : Hid (∀ w1, Calls Tryz.prog 55 #[.int .i64 4] w1 (Re w1 (.agg #[.bool fN, .string fS, .string fD]))))
  (C1 : Hid (∀ w1, Below w.heap.size w w1 → Calls Tryz.prog 53 #[.agg #[.bool n10, .string s10, .string d10, .bool n11, .string s11, .string d11], .agg #[.bool n12, .string s12, .string d12, .bool n13, .string s13, .string d13], .agg #[.bool n14, .string s14, .string d14, .bool n15, .string s15, .string d15]] w1 (Re w1 (.tuple #[.agg #[.bool n22, .string s22, .string d22, .bool n23, .string s23, .string d23], .int .i64 0]))))
  (C2 : Hid (∀ w1, Below w.heap.size w w1 → Calls Tryz.prog 18 #[.agg #[.bool n10, .string s10, .string d10, .bool n11, .string s11, .string d11], .agg #[.bool n16, .string s16, .string d16, .bool n17, .string s17, .string d17], .agg #[.bool n18, .string s18, .string d18, .bool n19, .string s19, .string d19]] w1 (Re w1 (.tuple #[.agg #[.bool fN, .string fS, .string fD], .int .i64 0]))))
  (C3 : Hid (∀ w1, Below w.heap.size w w1 → Calls Tryz.prog 21 #[.agg #[.bool n20, .string s20, .string d20, .bool n21, .string s21, .string d21], .agg #[.bool n10, .string s10, .string d10, .bool n11, .string s11, .string d11], .agg #[.bool n22, .string s22, .string d22, .bool n23, .string s23, .string d23]] w1 (Re w1 (.tuple #[.bool true, .int .i64 0]))))
  (C4 : Hid (∀ w1, Below w.heap.size w w1 → Calls Tryz.prog 53 #[.agg #[.bool n10, .string s10, .string d10, .bool n11, .string s11, .string d11], .agg #[.bool n20, .string s20, .string d20, .bool n21, .string s21, .string d21], .agg #[.bool n12, .string s12, .string d12, .bool n13, .string s13, .string d13]] w1 (Re w1 (.tuple #[.agg #[.bool false, .string { data := #[] }, .string { data := #[] }, .bool false, .string { data := #[] }, .string { data := #[] }], .int .i64 6])))) :
  Calls Tryz.prog 17 #[] w (Re w (.bool true)) := by
 go_enter Tryz.func17, Tryz.ntmps17
 have bb := Below.refl w.heap.size w
 go_wp2_with fail
 go_fit (A00.out _)
 rintro e w1 ⟨rfl, b1⟩
 replace bb := Below.after bb b1
 clear b1
 go_wp2_with fail
 go_fit (A20.out _)
 rintro e w2 ⟨rfl, b1⟩
 replace bb := Below.after bb b1
 clear b1
 go_wp2_with fail
 go_fit (A02.out _)
 rintro e w3 ⟨rfl, b1⟩
 replace bb := Below.after bb b1
 clear b1
 go_wp2_with fail
 go_fit (C1.out _ bb)
 rintro e w4 ⟨rfl, b1⟩
 replace bb := Below.after bb b1
 clear b1
 go_wp2_with fail
 obtain ⟨x4, hw, kc, b1⟩ := mk1 w4 [.bool n22, .string s22, .string d22, .bool n23, .string s23, .string d23] 28
 rw [← hw]
 clear hw
 replace bb := Below.after bb b1
 clear b1
 go_wp2_with fail
 go_fit (A00.out _)
 rintro e w5 ⟨rfl, b1⟩
 replace kc := kc.below b1
 replace bb := Below.after bb b1
 clear b1
 go_wp2_with fail
 go_fit (A40.out _)
 rintro e w6 ⟨rfl, b1⟩
 replace kc := kc.below b1
 replace bb := Below.after bb b1
 clear b1
 go_wp2_with fail
 go_fit (A60.out _)
 rintro e w7 ⟨rfl, b1⟩
 replace kc := kc.below b1
 replace bb := Below.after bb b1
 clear b1
 go_wp2_with fail
 go_fit (C2.out _ bb)
 rintro e w8 ⟨rfl, b1⟩
 replace kc := kc.below b1
 replace bb := Below.after bb b1
 clear b1
 go_wp2_with fail
 obtain ⟨x8, hw, kn, b1⟩ := mk1 w8 [.bool fN, .string fS, .string fD] 26
 rw [← hw]
 clear hw
 replace kc := kc.below b1
 replace bb := Below.after bb b1
 clear b1
 go_wp2_with fail
 go_fit (A10.out _)
 rintro e w9 ⟨rfl, b1⟩
 replace kc := kc.below b1
 replace kn := kn.below b1
 replace bb := Below.after bb b1
 clear b1
 go_wp2_with fail
 go_fit (A00.out _)
 rintro e w10 ⟨rfl, b1⟩
 replace kc := kc.below b1
 replace kn := kn.below b1
 replace bb := Below.after bb b1
 clear b1
 go_wp2_with fail
 go_fit (A11.out _)
 rintro e w11 ⟨rfl, b1⟩
 replace kc := kc.below b1
 replace kn := kn.below b1
 replace bb := Below.after bb b1
 clear b1
 go_wp2_with fail
 go_fit (C3.out _ bb)
 rintro e w12 ⟨rfl, b1⟩
 replace kc := kc.below b1
 replace kn := kn.below b1
 replace bb := Below.after bb b1
 clear b1
 go_wp2_with fail
 go_fit (A00.out _)
 rintro e w13 ⟨rfl, b1⟩
 replace kc := kc.below b1
 replace kn := kn.below b1
 replace bb := Below.after bb b1
 clear b1
 go_wp2_with fail
 go_fit (A10.out _)
 rintro e w14 ⟨rfl, b1⟩
 replace kc := kc.below b1
 replace kn := kn.below b1
 replace bb := Below.after bb b1
 clear b1
 go_wp2_with fail
 go_fit (A20.out _)
 rintro e w15 ⟨rfl, b1⟩
 replace kc := kc.below b1
 replace kn := kn.below b1
 replace bb := Below.after bb b1
 clear b1
 go_wp2_with fail
 go_fit (C4.out _ bb)
 rintro e w16 ⟨rfl, b1⟩
 replace kc := kc.below b1
 replace kn := kn.below b1
 replace bb := Below.after bb b1
 clear b1
 go_wp2_with fail
 obtain ⟨x16, hw, kz, b1⟩ := mk1 w16 [.bool false, .string { data := #[] }, .string { data := #[] }, .bool false, .string { data := #[] }, .string { data := #[] }] 28
 rw [← hw]
 clear hw
 replace kc := kc.below b1
 replace kn := kn.below b1
 replace bb := Below.after bb b1
 clear b1
 clear kz
 have bd := bdrew x16
 replace kc := kc.below bd
 replace kn := kn.below bd
 replace bb := Below.after bb bd
 clear bd
 refine wp_region_held_drew (S := fun w' => xc6 w' w4.heap.size (.bool n22) (.string s22) (.string d22) (.bool n23) (.string s23) (.string d23) ∧ xc3 w' w8.heap.size (.bool fN) (.string fS) (.string fD)) (by kernel_rfl) ⟨xk6 kc, xk3 kn⟩ (fun hS => ?_)
 refine WA.start (n := 28) (by kernel_rfl) ?_
 refine WA.tp 0 rfl ?_
 refine WA.cal 1 rfl (fun K hK => ?_)
 simp only [List.getElem_toArray, List.getElem_cons_succ, List.getElem_cons_zero]
 go_simp
 go_fit (A11.out _)
 rintro e wn ⟨rfl, bn⟩
 replace kc := kc.below bn
 replace kn := kn.below bn
 replace bb := Below.after bb bn
 try go_wp2_with fail
 clear hS
 refine hK.out _ _ ⟨xk6 kc, xk3 kn⟩ (fun hS => ?_)
 clear hK K bn
 refine WA.tp 2 rfl ?_
 refine WA.tp 3 rfl ?_
 refine WA.tp 4 rfl ?_
 refine WA.tp 5 rfl ?_
 refine WA.tp 6 rfl ?_
 refine WA.tp 7 rfl ?_
 refine WA.tp 8 rfl ?_
 refine WA.cal 9 rfl (fun K hK => ?_)
 simp only [List.getElem_toArray, List.getElem_cons_succ, List.getElem_cons_zero]
 go_simp
 go_fit (F4.out _)
 rintro e wn ⟨rfl, bn⟩
 replace kc := kc.below bn
 replace kn := kn.below bn
 replace bb := Below.after bb bn
 try go_wp2_with fail
 clear hS
 refine hK.out _ _ ⟨xk6 kc, xk3 kn⟩ (fun hS => ?_)
 clear hK K bn
 refine WA.tp 10 rfl ?_
 refine WA.tp 11 rfl ?_
 refine WA.tp 12 rfl ?_
 refine WA.tp 13 rfl ?_
 refine WA.tp 14 rfl ?_
 refine WA.tp 15 rfl ?_
 refine WA.tp 16 rfl ?_
 refine WA.tp 17 rfl ?_
 refine WA.tp 18 rfl ?_
 refine WA.tp 19 rfl ?_
 refine WA.tp 20 rfl ?_
 refine WA.tp 21 rfl ?_
 refine WA.tp 22 rfl ?_
 refine WA.tp 23 rfl ?_
 refine WA.tp 24 rfl ?_
 refine WA.tp 25 rfl ?_
 refine WA.tp 26 rfl ?_
 refine WA.tp 27 rfl ?_
 refine WA.done (by kernel_rfl) ?_
 clear hS
 go_wp2
 go_ret
 exact ⟨rfl, bb⟩
theorem pq_int (x y : Int) : pq (x : Rat) (y : Rat) = .agg #[.bool (nfZ x), .string (sfZ x), .string ⟨#[1]⟩, .bool (nfZ y), .string (sfZ y), .string ⟨#[1]⟩] := by
 have e : strOf 1 = ⟨#[1]⟩ := by decide +kernel
 simp only [pq, Rat.num_intCast, Rat.den_intCast, e]
theorem bq_int (x : Int) (h1 : -200 ≤ x) (h2 : x ≤ 200) : Bq (x : Rat) 1 := by
 constructor
 ·rw [Rat.num_intCast]; unfold Bd; omega
 ·rw [Rat.den_intCast]; unfold Bd; omega
theorem live6_any (w : World) (hT : Tab w) : Calls Tryz.prog 17 #[] w (Re w (.bool true)) := by
 refine live6_walk (nfZ 0) (nfZ 0) (nfZ 2) (nfZ 0) (nfZ 0) (nfZ 2) (nfZ 4) (nfZ 0) (nfZ 6) (nfZ 0) (nfZ 1) (nfZ 0) (nfZ 1) (nfZ 1) (sfZ 0) ⟨#[1]⟩ (sfZ 0) ⟨#[1]⟩ (sfZ 2) ⟨#[1]⟩ (sfZ 0) ⟨#[1]⟩ (sfZ 0) ⟨#[1]⟩ (sfZ 2) ⟨#[1]⟩ (sfZ 4) ⟨#[1]⟩ (sfZ 0) ⟨#[1]⟩ (sfZ 6) ⟨#[1]⟩ (sfZ 0) ⟨#[1]⟩ (sfZ 1) ⟨#[1]⟩ (sfZ 0) ⟨#[1]⟩ (sfZ 1) ⟨#[1]⟩ (sfZ 1) ⟨#[1]⟩ (nfZ 4) (sfZ 4) ⟨#[1]⟩ w ?_ ?_ ?_ ?_ ?_ ?_ ?_ ?_ ?_ ?_ ?_ ?_
 ·exact fun w1 => lat6_any 0 0 (by omega) (by omega) (by omega) (by omega) w1
 ·exact fun w1 => lat6_any 2 0 (by omega) (by omega) (by omega) (by omega) w1
 ·exact fun w1 => lat6_any 0 2 (by omega) (by omega) (by omega) (by omega) w1
 ·exact fun w1 => lat6_any 4 0 (by omega) (by omega) (by omega) (by omega) w1
 ·exact fun w1 => lat6_any 6 0 (by omega) (by omega) (by omega) (by omega) w1
 ·exact fun w1 => lat6_any 1 0 (by omega) (by omega) (by omega) (by omega) w1
 ·exact fun w1 => lat6_any 1 1 (by omega) (by omega) (by omega) (by omega) w1
 ·exact fun w1 => roq_any 4 (by omega) (by omega) w1
 ·intro w1 b
  have := cenI ((0 : Int) : Rat) ((0 : Int) : Rat) ((2 : Int) : Rat) ((0 : Int) : Rat) ((0 : Int) : Rat) ((2 : Int) : Rat) (by omega : 1 ≤ 100) (bq_int 0 (by omega) (by omega)) (bq_int 0 (by omega) (by omega)) (bq_int 2 (by omega) (by omega)) (bq_int 0 (by omega) (by omega)) (bq_int 0 (by omega) (by omega)) (bq_int 2 (by omega) (by omega)) w1 (hT.below b) (by decide +kernel) (cx := ((1 : Int) : Rat)) (cy := ((1 : Int) : Rat)) (by decide +kernel) (by decide +kernel) (M' := 1) (by omega) (by omega) (bq_int 1 (by omega) (by omega)) (bq_int 1 (by omega) (by omega))
  rw [show ((0 : Int) : Rat) + ((1 : Int) : Rat) = ((1 : Int) : Rat) by decide +kernel] at this
  simp only [pq_int] at this
  exact this
 ·intro w1 b
  have := nearI_b ((0 : Int) : Rat) ((0 : Int) : Rat) ((4 : Int) : Rat) ((0 : Int) : Rat) ((6 : Int) : Rat) ((0 : Int) : Rat) (by omega : 1 ≤ 100) (bq_int 0 (by omega) (by omega)) (bq_int 0 (by omega) (by omega)) (bq_int 4 (by omega) (by omega)) (bq_int 0 (by omega) (by omega)) (bq_int 6 (by omega) (by omega)) (bq_int 0 (by omega) (by omega)) w1 (hT.below b) (by decide +kernel) (by decide +kernel) (by decide +kernel)
  rw [show (((6 : Int) : Rat) - ((4 : Int) : Rat)) * (((6 : Int) : Rat) - ((4 : Int) : Rat)) + (((0 : Int) : Rat) - ((0 : Int) : Rat)) * (((0 : Int) : Rat) - ((0 : Int) : Rat)) = ((4 : Int) : Rat) by decide +kernel] at this
  simp only [pq_int] at this
  exact this
 ·intro w1 b
  have := sharpI ((1 : Int) : Rat) ((0 : Int) : Rat) ((0 : Int) : Rat) ((0 : Int) : Rat) ((1 : Int) : Rat) ((1 : Int) : Rat) (by omega : 1 ≤ 100) (bq_int 1 (by omega) (by omega)) (bq_int 0 (by omega) (by omega)) (bq_int 0 (by omega) (by omega)) (bq_int 0 (by omega) (by omega)) (bq_int 1 (by omega) (by omega)) (bq_int 1 (by omega) (by omega)) w1 (hT.below b) (by decide +kernel) (by decide +kernel)
  rw [show shp (((1 : Int) : Rat) - ((0 : Int) : Rat)) (((0 : Int) : Rat) - ((0 : Int) : Rat)) (((1 : Int) : Rat) - ((0 : Int) : Rat)) (((1 : Int) : Rat) - ((0 : Int) : Rat)) = true by decide +kernel] at this
  simp only [pq_int] at this
  exact this
 ·intro w1 b
  have := cenI_flat ((0 : Int) : Rat) ((0 : Int) : Rat) ((1 : Int) : Rat) ((0 : Int) : Rat) ((2 : Int) : Rat) ((0 : Int) : Rat) (by omega : 1 ≤ 100) (bq_int 0 (by omega) (by omega)) (bq_int 0 (by omega) (by omega)) (bq_int 1 (by omega) (by omega)) (bq_int 0 (by omega) (by omega)) (bq_int 2 (by omega) (by omega)) (bq_int 0 (by omega) (by omega)) w1 (hT.below b) (by decide +kernel)
  simp only [pq_int] at this
  exact this
theorem sh6_t {s d : ByteArray} (h : sh6 s d = true) : s.size ≤ 60 ∧ d.size ≤ 60 := of_decide_eq_true h
theorem le100 {s d : ByteArray} (h : s.size ≤ 60 ∧ d.size ≤ 60) : s.size ≤ 100 ∧ d.size ≤ 100 := ⟨by omega, by omega⟩
theorem bq_cr {a b c d e f : Rat} {K : Nat} (b0 : Bq a K) (b1 : Bq b K) (b2 : Bq c K) (b3 : Bq d K) (b4 : Bq e K) (b5 : Bq f K) : Bq ((c - a) * (f - b) - (d - b) * (e - a)) ((K + K + 1 + (K + K + 1) + 1) + (K + K + 1 + (K + K + 1) + 1) + 1) := vq_sub (vq_mul (vq_sub b2 b0) (vq_sub b5 b1)) (vq_mul (vq_sub b3 b1) (vq_sub b4 b0))
theorem parts6_I (x0 y0 x1 y1 x2 y2 x3 y3 : Rat) {K : Nat} (hK : K ≤ 60) (b0 : Bq x0 K) (b1 : Bq y0 K) (b2 : Bq x1 K) (b3 : Bq y1 K) (b4 : Bq x2 K) (b5 : Bq y2 K) (b6 : Bq x3 K) (b7 : Bq y3 K) (w : World) (hT : Tab w) :
  Calls Tryz.prog 8 #[.agg #[.bool (nfZ x0.num), .string (sfZ x0.num), .string (strOf x0.den), .bool (nfZ y0.num), .string (sfZ y0.num), .string (strOf y0.den), .bool (nfZ x1.num), .string (sfZ x1.num), .string (strOf x1.den), .bool (nfZ y1.num), .string (sfZ y1.num), .string (strOf y1.den), .bool (nfZ x2.num), .string (sfZ x2.num), .string (strOf x2.den), .bool (nfZ y2.num), .string (sfZ y2.num), .string (strOf y2.den)], pq x3 y3] w (Re w (.bool true)) := by
 have z : ∀ {x : Rat}, Bq x K → (sfZ x.num).size ≤ 100 ∧ (strOf x.den).size ≤ 100 := fun b => bq_sz (by omega) b
 have sx : ∀ {x : Rat}, Bq x K → sh6 (sfZ x.num) (strOf x.den) = true := fun b => decide_eq_true (bq_sz hK b)
 have c := fun {x : Rat} (b : Bq x K) => chk_can8 x (by omega) b
 have id1 : ((x1 - x0) * (y3 - y0) - (y1 - y0) * (x3 - x0)) + (((x2 - x1) * (y3 - y1) - (y2 - y1) * (x3 - x1)) + ((x0 - x2) * (y3 - y2) - (y0 - y2) * (x3 - x2))) = ((x1 - x0) * (y2 - y0) - (y1 - y0) * (x2 - x0)) := by grind
 have bg := bq_cr b2 b3 b4 b5 b6 b7
 have bh := bq_cr b4 b5 b0 b1 b6 b7
 have bf := bq_cr b0 b1 b2 b3 b6 b7
 refine parts6_ok (nfZ x0.num) (nfZ y0.num) (nfZ x1.num) (nfZ y1.num) (nfZ x2.num) (nfZ y2.num) (nfZ x3.num) (nfZ y3.num) (sfZ x0.num) (strOf x0.den) (sfZ y0.num) (strOf y0.den) (sfZ x1.num) (strOf x1.den) (sfZ y1.num) (strOf y1.den) (sfZ x2.num) (strOf x2.den) (sfZ y2.num) (strOf y2.den) (sfZ x3.num) (strOf x3.den) (sfZ y3.num) (strOf y3.den) (nfZ (((x1 - x0) * (y2 - y0) - (y1 - y0) * (x2 - x0))).num) (nfZ (((x1 - x0) * (y3 - y0) - (y1 - y0) * (x3 - x0))).num) (nfZ (((x2 - x1) * (y3 - y1) - (y2 - y1) * (x3 - x1))).num) (nfZ (((x0 - x2) * (y3 - y2) - (y0 - y2) * (x3 - x2))).num) (nfZ ((((x2 - x1) * (y3 - y1) - (y2 - y1) * (x3 - x1)) + ((x0 - x2) * (y3 - y2) - (y0 - y2) * (x3 - x2)))).num) (sfZ (((x1 - x0) * (y2 - y0) - (y1 - y0) * (x2 - x0))).num) (strOf (((x1 - x0) * (y2 - y0) - (y1 - y0) * (x2 - x0))).den) (sfZ (((x1 - x0) * (y3 - y0) - (y1 - y0) * (x3 - x0))).num) (strOf (((x1 - x0) * (y3 - y0) - (y1 - y0) * (x3 - x0))).den) (sfZ (((x2 - x1) * (y3 - y1) - (y2 - y1) * (x3 - x1))).num) (strOf (((x2 - x1) * (y3 - y1) - (y2 - y1) * (x3 - x1))).den) (sfZ (((x0 - x2) * (y3 - y2) - (y0 - y2) * (x3 - x2))).num) (strOf (((x0 - x2) * (y3 - y2) - (y0 - y2) * (x3 - x2))).den) (sfZ ((((x2 - x1) * (y3 - y1) - (y2 - y1) * (x3 - x1)) + ((x0 - x2) * (y3 - y2) - (y0 - y2) * (x3 - x2)))).num) (strOf ((((x2 - x1) * (y3 - y1) - (y2 - y1) * (x3 - x1)) + ((x0 - x2) * (y3 - y2) - (y0 - y2) * (x3 - x2)))).den) w ?_ ?_ ?_ ?_ ?_ (fun w1 b => live6_any w1 (hT.below b)) (fun w1 b => areaI x0 y0 x1 y1 x2 y2 (by omega) b0 b1 b2 b3 b4 b5 w1 (hT.below b)) (fun w1 b => areaI x0 y0 x1 y1 x3 y3 (by omega) b0 b1 b2 b3 b6 b7 w1 (hT.below b)) (fun w1 b => areaI x1 y1 x2 y2 x3 y3 (by omega) b2 b3 b4 b5 b6 b7 w1 (hT.below b)) (fun w1 b => areaI x2 y2 x0 y0 x3 y3 (by omega) b4 b5 b0 b1 b6 b7 w1 (hT.below b)) ?_ ?_
 ·intro w1
  have := small6_any (nfZ x0.num) (nfZ y0.num) (nfZ x1.num) (nfZ y1.num) (nfZ x2.num) (nfZ y2.num) (sfZ x0.num) (strOf x0.den) (sfZ y0.num) (strOf y0.den) (sfZ x1.num) (strOf x1.den) (sfZ y1.num) (strOf y1.den) (sfZ x2.num) (strOf x2.den) (sfZ y2.num) (strOf y2.den) w1
  rwa [sx b0, sx b1, sx b2, sx b3, sx b4, sx b5] at this
 ·intro w1
  have := short6_any (nfZ x3.num) (sfZ x3.num) (strOf x3.den) w1
  rwa [sx b6] at this
 ·intro w1
  have := short6_any (nfZ y3.num) (sfZ y3.num) (strOf y3.den) w1
  rwa [sx b7] at this
 ·intro w1 _
  have := asked6_any (nfZ x0.num) (nfZ y0.num) (nfZ x1.num) (nfZ y1.num) (nfZ x2.num) (nfZ y2.num) (sfZ x0.num) (strOf x0.den) (sfZ y0.num) (strOf y0.den) (sfZ x1.num) (strOf x1.den) (sfZ y1.num) (strOf y1.den) (sfZ x2.num) (strOf x2.den) (sfZ y2.num) (strOf y2.den) w1 (z b0) (z b1) (z b2) (z b3) (z b4) (z b5)
  rwa [two_zero.2 ⟨two_zero.2 ⟨twoq_zero.2 ⟨c b0, c b1⟩, twoq_zero.2 ⟨c b2, c b3⟩⟩, twoq_zero.2 ⟨c b4, c b5⟩⟩] at this
 ·intro w1 B _ hB
  have := asked1 B (nfZ x3.num) (nfZ y3.num) (sfZ x3.num) (strOf x3.den) (sfZ y3.num) (strOf y3.den) w1 hB (z b6) (z b7)
  rwa [twoq_zero.2 ⟨c b6, c b7⟩] at this
 ·exact fun w1 _ => rsumI ((x2 - x1) * (y3 - y1) - (y2 - y1) * (x3 - x1)) ((x0 - x2) * (y3 - y2) - (y0 - y2) * (x3 - x2)) (by omega) bg bh w1
 ·intro w1 _
  have := rsumI ((x1 - x0) * (y3 - y0) - (y1 - y0) * (x3 - x0)) (((x2 - x1) * (y3 - y1) - (y2 - y1) * (x3 - x1)) + ((x0 - x2) * (y3 - y2) - (y0 - y2) * (x3 - x2))) (K := ((K + K + 1 + (K + K + 1) + 1) + (K + K + 1 + (K + K + 1) + 1) + 1) + ((K + K + 1 + (K + K + 1) + 1) + (K + K + 1 + (K + K + 1) + 1) + 1) + 1) (by omega) (bq_mono bf (by omega)) (vq_add bg bh) w1
  rwa [id1] at this
theorem parts6_law (n0 n1 n2 n3 n4 n5 n6 n7 : Bool) (s0 d0 s1 d1 s2 d2 s3 d3 s4 d4 s5 d5 s6 d6 s7 d7 : ByteArray) (w : World) (hT : Tab w) :
  Calls Tryz.prog 8 #[.agg #[.bool n0, .string s0, .string d0, .bool n1, .string s1, .string d1, .bool n2, .string s2, .string d2, .bool n3, .string s3, .string d3, .bool n4, .string s4, .string d4, .bool n5, .string s5, .string d5], .agg #[.bool n6, .string s6, .string d6, .bool n7, .string s7, .string d7]] w (Re w (.bool true)) := by
 have HL : Hid (∀ w1, Below w.heap.size w w1 → Calls Tryz.prog 17 #[] w1 (Re w1 (.bool true))) := fun w1 b => live6_any w1 (hT.below b)
 have hs := fun w1 => small6_any n0 n1 n2 n3 n4 n5 s0 d0 s1 d1 s2 d2 s3 d3 s4 d4 s5 d5 w1
 have hx := fun w1 => short6_any n6 s6 d6 w1
 have hy := fun w1 => short6_any n7 s7 d7 w1
 cases e1 : (sh6 s0 d0 && (sh6 s1 d1 && (sh6 s2 d2 && (sh6 s3 d3 && (sh6 s4 d4 && sh6 s5 d5))))) with
 | false => rw [e1] at hs; exact parts6_l n0 n1 n2 n3 n4 n5 n6 n7 s0 d0 s1 d1 s2 d2 s3 d3 s4 d4 s5 d5 s6 d6 s7 d7 w hs HL
 | true =>
  rw [e1] at hs
  simp only [Bool.and_eq_true] at e1
  obtain ⟨q0, q1, q2, q3, q4, q5⟩ := e1
  cases e2 : sh6 s6 d6 with
  | false => rw [e2] at hx; exact parts6_x n0 n1 n2 n3 n4 n5 n6 n7 s0 d0 s1 d1 s2 d2 s3 d3 s4 d4 s5 d5 s6 d6 s7 d7 w hs hx HL
  | true =>
   cases e3 : sh6 s7 d7 with
   | false => rw [e2] at hx; rw [e3] at hy; exact parts6_y n0 n1 n2 n3 n4 n5 n6 n7 s0 d0 s1 d1 s2 d2 s3 d3 s4 d4 s5 d5 s6 d6 s7 d7 w hs hx hy HL
   | true =>
    rw [e2] at hx; rw [e3] at hy
    have z0 := sh6_t q0; have z1 := sh6_t q1; have z2 := sh6_t q2; have z3 := sh6_t q3; have z4 := sh6_t q4; have z5 := sh6_t q5; have z6 := sh6_t e2; have z7 := sh6_t e3
    have ha := fun w1 (_ : Below w.heap.size w w1) => asked6_any n0 n1 n2 n3 n4 n5 s0 d0 s1 d1 s2 d2 s3 d3 s4 d4 s5 d5 w1 (le100 z0) (le100 z1) (le100 z2) (le100 z3) (le100 z4) (le100 z5)
    have hp := fun (w1 : World) (B : Nat) (_ : Below w.heap.size w w1) hB => asked1 B n6 n7 s6 d6 s7 d7 w1 hB (le100 z6) (le100 z7)
    by_cases hE : two (two (twoq n0 s0 d0 n1 s1 d1) (twoq n2 s2 d2 n3 s3 d3)) (twoq n4 s4 d4 n5 s5 d5) = 0
    ·by_cases hF : twoq n6 s6 d6 n7 s7 d7 = 0
     ·simp only [two_zero, twoq_zero] at hE hF
      obtain ⟨⟨⟨a0, a1⟩, a2, a3⟩, a4, a5⟩ := hE
      obtain ⟨x0, b0, rfl, rfl, rfl⟩ := canon a0 z0
      obtain ⟨x1, b1, rfl, rfl, rfl⟩ := canon a1 z1
      obtain ⟨x2, b2, rfl, rfl, rfl⟩ := canon a2 z2
      obtain ⟨x3, b3, rfl, rfl, rfl⟩ := canon a3 z3
      obtain ⟨x4, b4, rfl, rfl, rfl⟩ := canon a4 z4
      obtain ⟨x5, b5, rfl, rfl, rfl⟩ := canon a5 z5
      obtain ⟨x6, b6, rfl, rfl, rfl⟩ := canon hF.1 z6
      obtain ⟨x7, b7, rfl, rfl, rfl⟩ := canon hF.2 z7
      exact parts6_I x0 x1 x2 x3 x4 x5 x6 x7 (Nat.le_refl _) b0 b1 b2 b3 b4 b5 b6 b7 w hT
     ·rw [hE] at ha
      exact parts6_p n0 n1 n2 n3 n4 n5 n6 n7 s0 d0 s1 d1 s2 d2 s3 d3 s4 d4 s5 d5 s6 d6 s7 d7 _ w (by omega) hs hx hy ha hp HL
    ·exact parts6_a n0 n1 n2 n3 n4 n5 n6 n7 s0 d0 s1 d1 s2 d2 s3 d3 s4 d4 s5 d5 s6 d6 s7 d7 _ w (by omega) hs hx hy ha HL
end Go.Proofs.YtmojdkjpcjfkeaaGreatDoor
