/-
  gussetlaw06: ConsAngles, walked; gussetref06: Far2.
  Package cons, in numbers' one form.
  gussetlaw06: ConsAngles holds.
  gussetlaw06: ConsNear holds.
  How long the numbers of a crossing are; what signs tell.
  gussetlaw06: ConsEven holds.
  gussetref06: Asked; gussetref05: Asked of one point.
  How long the numbers of a way and of a centre are.
  Middle, Far2, Centre in numbers' one form, both sides.
  Package cons: Area2, walked.
  Package cons, in numbers' one form: distances.
  gussetlaw06: live.
-/
import Derived.Test.YtiiigiggcbbgjaaGreatDoorK44
import Derived.Test.YtiiigiggcbbgjaaGreatDoorK45
import Derived.Test.YtiiigiggcbbgjaaGreatDoorK46
import Derived.Test.YtiiigiggcbbgjaaGreatDoorK47
import Derived.Test.YtiiigiggcbbgjaaGreatDoorK54
set_option maxRecDepth 100000
set_option maxHeartbeats 16000000
namespace Go.Proofs.YtiiigiggcbbgjaaGreatDoor
open Go.RowKit
theorem far6_walk (n0 n1 n2 n3 : Bool) (s0 d0 s1 d1 s2 d2 s3 d3 : ByteArray) (u0 u1 : Bool) (v0 e0 v1 e1 : ByteArray) (rN : Bool) (rS rD : ByteArray) (w : World)
  (HM : Hid (∀ w1, Below w.heap.size w w1 → Calls Tryz.prog 37 #[.agg #[.bool n2, .string s2, .string d2, .bool n3, .string s3, .string d3], .agg #[.bool n0, .string s0, .string d0, .bool n1, .string s1, .string d1]] w1 (Re w1 (.agg #[.bool u0, .string v0, .string e0, .bool u1, .string v1, .string e1]))))
  (HN : Hid (∀ w1, Below w.heap.size w w1 → Calls Tryz.prog 63 #[.agg #[.bool u0, .string v0, .string e0, .bool u1, .string v1, .string e1]] w1 (Re w1 (.agg #[.bool rN, .string rS, .string rD])))) :
  Calls Tryz.prog 25 #[.agg #[.bool n0, .string s0, .string d0, .bool n1, .string s1, .string d1], .agg #[.bool n2, .string s2, .string d2, .bool n3, .string s3, .string d3]] w (Re w (.agg #[.bool rN, .string rS, .string rD])) := by
 go_enter Tryz.func25, Tryz.ntmps25
 go_wp2_with fail
 obtain ⟨w0, hw, ka, kb, kr, bb⟩ := mk3 w [.bool n0, .string s0, .string d0, .bool n1, .string s1, .string d1] [.bool n2, .string s2, .string d2, .bool n3, .string s3, .string d3] [.bool false, .string { data := #[] }, .string { data := #[] }] 28 28 26
 rw [← hw]
 clear hw
 go_fit (HM.out _ bb)
 rintro e w1 ⟨rfl, b1⟩
 replace kr := kr.below b1
 replace bb := Below.after bb b1
 clear b1
 go_wp2_with fail
 go_fit (HN.out _ bb)
 rintro e w2 ⟨rfl, b1⟩
 replace kr := kr.below b1
 replace bb := Below.after bb b1
 clear b1 ka kb
 have e0 := cel3_0 kr
 have f0 := Cel.frozen kr 0
 have e1 := cel3_1 kr
 have f1 := Cel.frozen kr 1
 have e2 := cel3_2 kr
 have f2 := Cel.frozen kr 2
 go_wp2
 exact post_q (p := 4) (by kernel_rfl) rfl rfl (((kr.set 0 _).set 1 _).set 2 _) ⟨rfl, bset (bset (bset bb (by omega) 0 _) (by omega) 1 _) (by omega) 2 _⟩
abbrev pq (x y : Rat) : Value := .agg #[.bool (nfZ x.num), .string (sfZ x.num), .string (strOf x.den), .bool (nfZ y.num), .string (sfZ y.num), .string (strOf y.den)]
abbrev rq (x : Rat) : Value := .agg #[.bool (nfZ x.num), .string (sfZ x.num), .string (strOf x.den)]
abbrev Ra (w : World) (v : Value) : Ending → World → Prop := fun e w' => e = .returned v ∧ Below w.heap.size w w'
theorem ofI (x0 y0 x1 y1 : Rat) {K : Nat} (hK : K ≤ 100) (b0 : Bq x0 K) (b1 : Bq y0 K) (b2 : Bq x1 K) (b3 : Bq y1 K) : Hid (∀ w1, Calls Tryz.prog 70 #[pq x0 y0, pq x1 y1] w1 fun e w' => ∃ m0 a0 l0 c0 m1 a1 l1 c1 a2 l2 c2 X Y U, e = .returned (.agg #[.bool m0, .slice a0 l0 c0, .bool m1, .slice a1 l1 c1, .bool false, .slice a2 l2 c2]) ∧ SpV w' m0 a0 l0 c0 m1 a1 l1 c1 a2 l2 c2 X Y U (x1 - x0) (y1 - y0) ∧ Below w1.heap.size w1 w') := fun w1 => by
 have := sof_any (nfZ x0.num) (nfZ y0.num) (nfZ x1.num) (nfZ y1.num) (sfZ x0.num) (strOf x0.den) (sfZ y0.num) (strOf y0.den) (sfZ x1.num) (strOf x1.den) (sfZ y1.num) (strOf y1.den) w1 (okQ_qI x0) (okQ_qI y0) (okQ_qI x1) (okQ_qI y1) (bq_sz hK b0) (bq_sz hK b1) (bq_sz hK b2) (bq_sz hK b3)
 simp only [qOf_one] at this
 refine this.mono ?_
 rintro e w' ⟨m0, a0, l0, c0, m1, a1, l1, c1, a2, l2, c2, X, Y, U, h1, h2, h3, h4, h5, h6⟩
 exact ⟨m0, a0, l0, c0, m1, a1, l1, c1, a2, l2, c2, X, Y, U, h1, ⟨h2, h3, h4, h5⟩, h6⟩
theorem chkI (x0 y0 x1 y1 x2 y2 : Rat) {K : Nat} (hK : K ≤ 100) (b0 : Bq x0 K) (b1 : Bq y0 K) (b2 : Bq x1 K) (b3 : Bq y1 K) (b4 : Bq x2 K) (b5 : Bq y2 K) (w : World) (hT : Tab w) : Hid (∀ (w1 : World) (B : Nat), Below w.heap.size w w1 → Cel w1 B [.bool (nfZ x0.num), .string (sfZ x0.num), .string (strOf x0.den), .bool (nfZ y0.num), .string (sfZ y0.num), .string (strOf y0.den), .bool (nfZ x1.num), .string (sfZ x1.num), .string (strOf x1.den), .bool (nfZ y1.num), .string (sfZ y1.num), .string (strOf y1.den), .bool (nfZ x2.num), .string (sfZ x2.num), .string (strOf x2.den), .bool (nfZ y2.num), .string (sfZ y2.num), .string (strOf y2.den)] 28 → Calls Tryz.prog 45 #[.slice (some ⟨B, 0, none⟩) 3 3] w1 (Re w1 (.int .i64 0))) := fun w1 B b h => by
 have := scheck3 B (nfZ x0.num) (nfZ y0.num) (nfZ x1.num) (nfZ y1.num) (nfZ x2.num) (nfZ y2.num) (sfZ x0.num) (strOf x0.den) (sfZ y0.num) (strOf y0.den) (sfZ x1.num) (strOf x1.den) (sfZ y1.num) (strOf y1.den) (sfZ x2.num) (strOf x2.den) (sfZ y2.num) (strOf y2.den) w1 (hT.below b) h (bq_sz hK b0) (bq_sz hK b1) (bq_sz hK b2) (bq_sz hK b3) (bq_sz hK b4) (bq_sz hK b5)
 rwa [two_zero.2 ⟨two_zero.2 ⟨twoq_zero.2 ⟨chk_can8 x0 (by omega) b0, chk_can8 y0 (by omega) b1⟩, twoq_zero.2 ⟨chk_can8 x1 (by omega) b2, chk_can8 y1 (by omega) b3⟩⟩, twoq_zero.2 ⟨chk_can8 x2 (by omega) b4, chk_can8 y2 (by omega) b5⟩⟩] at this
theorem can_eq {x y : Rat} (h1 : nfZ x.num = nfZ y.num) (h2 : sfZ x.num = sfZ y.num) (h3 : strOf x.den = strOf y.den) : x = y := by
 rw [← qOf_one x, ← qOf_one y, h1, h2, h3]
theorem neI (x0 y0 x1 y1 : Rat) (h : ¬ (x0 = x1 ∧ y0 = y1)) : ∀ w1, (binOp .eql 28 (pq x0 y0) (pq x1 y1)).run Tryz.prog w1 = .ok (.bool false) w1 := fun w1 =>
 run_peq _ _ _ _ _ _ _ _ _ _ _ _ w1 (fun ⟨a, b, c, d, e, f⟩ => h ⟨can_eq a b c, can_eq d e f⟩)
theorem bq_mono {x : Rat} {K M' : Nat} (h : Bq x K) (hK : K ≤ M') : Bq x M' := ⟨h.1.mono hK, h.2.mono hK⟩
theorem sg_zero {x : Rat} (h : Gm.sg x = 0) : x = 0 := by
 exact Rat.num_eq_zero.1 (Int.sign_eq_zero_iff_zero.1 h)
theorem areaI (x0 y0 x1 y1 x2 y2 : Rat) {K : Nat} (hK : K ≤ 100) (b0 : Bq x0 K) (b1 : Bq y0 K) (b2 : Bq x1 K) (b3 : Bq y1 K) (b4 : Bq x2 K) (b5 : Bq y2 K) (w : World) (hT : Tab w) : Calls Tryz.prog 29 #[pq x0 y0, pq x1 y1, pq x2 y2] w (Ra w (.tuple #[rq ((x1 - x0) * (y2 - y0) - (y1 - y0) * (x2 - x0)), .int .i64 0])) :=
 cArea_ok (nfZ x0.num) (nfZ y0.num) (nfZ x1.num) (nfZ y1.num) (nfZ x2.num) (nfZ y2.num) (sfZ x0.num) (strOf x0.den) (sfZ y0.num) (strOf y0.den) (sfZ x1.num) (strOf x1.den) (sfZ y1.num) (strOf y1.den) (sfZ x2.num) (strOf x2.den) (sfZ y2.num) (strOf y2.den) (x1 - x0) (y1 - y0) (x2 - x0) (y2 - y0) w hT (chkI x0 y0 x1 y1 x2 y2 hK b0 b1 b2 b3 b4 b5 w hT) (ofI x0 y0 x1 y1 hK b0 b1 b2 b3) (ofI x0 y0 x2 y2 hK b0 b1 b4 b5)
def shp (ux uy vx vy : Rat) : Bool := decide (0 < Gm.sg (ux * vx + uy * vy)) && decide (0 < Gm.sg (4 * ((ux * vx + uy * vy) * (ux * vx + uy * vy)) - (ux * ux + uy * uy) * (vx * vx + vy * vy)))
theorem sharpI (x0 y0 x1 y1 x2 y2 : Rat) {K : Nat} (hK : K ≤ 100) (b0 : Bq x0 K) (b1 : Bq y0 K) (b2 : Bq x1 K) (b3 : Bq y1 K) (b4 : Bq x2 K) (b5 : Bq y2 K) (w : World) (hT : Tab w) (h1 : ¬ (x1 = x0 ∧ y1 = y0)) (h2 : ¬ (x1 = x2 ∧ y1 = y2)) : Calls Tryz.prog 28 #[pq x0 y0, pq x1 y1, pq x2 y2] w (Ra w (.tuple #[.bool (shp (x0 - x1) (y0 - y1) (x2 - x1) (y2 - y1)), .int .i64 0])) := by
 unfold shp
 by_cases hd : Gm.sg ((x0 - x1) * (x2 - x1) + (y0 - y1) * (y2 - y1)) ≤ 0
 ·rw [decide_eq_false (by omega), Bool.false_and]
  exact cSharp_no (nfZ x0.num) (nfZ y0.num) (nfZ x1.num) (nfZ y1.num) (nfZ x2.num) (nfZ y2.num) (sfZ x0.num) (strOf x0.den) (sfZ y0.num) (strOf y0.den) (sfZ x1.num) (strOf x1.den) (sfZ y1.num) (strOf y1.den) (sfZ x2.num) (strOf x2.den) (sfZ y2.num) (strOf y2.den) (x0 - x1) (y0 - y1) (x2 - x1) (y2 - y1) w (chkI x0 y0 x1 y1 x2 y2 hK b0 b1 b2 b3 b4 b5 w hT) (neI _ _ _ _ h1) (neI _ _ _ _ h2) (ofI x1 y1 x0 y0 hK b2 b3 b0 b1) (ofI x1 y1 x2 y2 hK b2 b3 b4 b5) hd
 ·rw [decide_eq_true (by omega), Bool.true_and]
  exact cSharp_ok (nfZ x0.num) (nfZ y0.num) (nfZ x1.num) (nfZ y1.num) (nfZ x2.num) (nfZ y2.num) (sfZ x0.num) (strOf x0.den) (sfZ y0.num) (strOf y0.den) (sfZ x1.num) (strOf x1.den) (sfZ y1.num) (strOf y1.den) (sfZ x2.num) (strOf x2.den) (sfZ y2.num) (strOf y2.den) (x0 - x1) (y0 - y1) (x2 - x1) (y2 - y1) w (chkI x0 y0 x1 y1 x2 y2 hK b0 b1 b2 b3 b4 b5 w hT) (neI _ _ _ _ h1) (neI _ _ _ _ h2) (ofI x1 y1 x0 y0 hK b2 b3 b0 b1) (ofI x1 y1 x2 y2 hK b2 b3 b4 b5) hd
theorem cenI_flat (x0 y0 x1 y1 x2 y2 : Rat) {K : Nat} (hK : K ≤ 100) (b0 : Bq x0 K) (b1 : Bq y0 K) (b2 : Bq x1 K) (b3 : Bq y1 K) (b4 : Bq x2 K) (b5 : Bq y2 K) (w : World) (hT : Tab w) (h : (x1 - x0) * (y2 - y0) - (y1 - y0) * (x2 - x0) = 0) : Calls Tryz.prog 22 #[pq x0 y0, pq x1 y1, pq x2 y2] w (Ra w (.tuple #[.agg #[.bool false, .string { data := #[] }, .string { data := #[] }, .bool false, .string { data := #[] }, .string { data := #[] }], .int .i64 6])) :=
 cCen_flat (nfZ x0.num) (nfZ y0.num) (nfZ x1.num) (nfZ y1.num) (nfZ x2.num) (nfZ y2.num) (sfZ x0.num) (strOf x0.den) (sfZ y0.num) (strOf y0.den) (sfZ x1.num) (strOf x1.den) (sfZ y1.num) (strOf y1.den) (sfZ x2.num) (strOf x2.den) (sfZ y2.num) (strOf y2.den) w (chkI x0 y0 x1 y1 x2 y2 hK b0 b1 b2 b3 b4 b5 w hT) (fun w1 => toC_flat (nfZ x0.num) (nfZ y0.num) (nfZ x1.num) (nfZ y1.num) (nfZ x2.num) (nfZ y2.num) (sfZ x0.num) (strOf x0.den) (sfZ y0.num) (strOf y0.den) (sfZ x1.num) (strOf x1.den) (sfZ y1.num) (strOf y1.den) (sfZ x2.num) (strOf x2.den) (sfZ y2.num) (strOf y2.den) (x1 - x0) (y1 - y0) (x2 - x0) (y2 - y0) w1 (by rw [h]; rfl) (ofI x0 y0 x1 y1 hK b0 b1 b2 b3) (ofI x0 y0 x2 y2 hK b0 b1 b4 b5))
def cenX (ux uy vx vy : Rat) : Rat := ((ux * ux + uy * uy) * vy - (vx * vx + vy * vy) * uy) / ((ux * vy - uy * vx) + (ux * vy - uy * vx))
def cenY (ux uy vx vy : Rat) : Rat := (ux * (vx * vx + vy * vy) - vx * (ux * ux + uy * uy)) / ((ux * vy - uy * vx) + (ux * vy - uy * vx))
theorem cenI (x0 y0 x1 y1 x2 y2 : Rat) {K : Nat} (hK : K ≤ 100) (b0 : Bq x0 K) (b1 : Bq y0 K) (b2 : Bq x1 K) (b3 : Bq y1 K) (b4 : Bq x2 K) (b5 : Bq y2 K) (w : World) (hT : Tab w) (h : (x1 - x0) * (y2 - y0) - (y1 - y0) * (x2 - x0) ≠ 0) {cx cy : Rat} (ex : cenX (x1 - x0) (y1 - y0) (x2 - x0) (y2 - y0) = cx) (ey : cenY (x1 - x0) (y1 - y0) (x2 - x0) (y2 - y0) = cy) {M' : Nat} (hM : M' ≤ 4000) (hKM : K ≤ M') (bx : Bq cx M') (bY : Bq cy M') :
  Calls Tryz.prog 22 #[pq x0 y0, pq x1 y1, pq x2 y2] w (Ra w (.tuple #[pq (x0 + cx) (y0 + cy), .int .i64 0])) := by
 subst ex ey
 refine cCen_ok (nfZ x0.num) (nfZ y0.num) (nfZ x1.num) (nfZ y1.num) (nfZ x2.num) (nfZ y2.num) (sfZ x0.num) (strOf x0.den) (sfZ y0.num) (strOf y0.den) (sfZ x1.num) (strOf x1.den) (sfZ y1.num) (strOf y1.den) (sfZ x2.num) (strOf x2.den) (sfZ y2.num) (strOf y2.den) (cenX (x1 - x0) (y1 - y0) (x2 - x0) (y2 - y0)) (cenY (x1 - x0) (y1 - y0) (x2 - x0) (y2 - y0)) _ _ _ _ _ _ w hT (chkI x0 y0 x1 y1 x2 y2 hK b0 b1 b2 b3 b4 b5 w hT) (fun w1 => toC_ok (nfZ x0.num) (nfZ y0.num) (nfZ x1.num) (nfZ y1.num) (nfZ x2.num) (nfZ y2.num) (sfZ x0.num) (strOf x0.den) (sfZ y0.num) (strOf y0.den) (sfZ x1.num) (strOf x1.den) (sfZ y1.num) (strOf y1.den) (sfZ x2.num) (strOf x2.den) (sfZ y2.num) (strOf y2.den) (x1 - x0) (y1 - y0) (x2 - x0) (y2 - y0) w1 ?_ (ofI x0 y0 x1 y1 hK b0 b1 b2 b3) (ofI x0 y0 x2 y2 hK b0 b1 b4 b5)) (fun w1 b => vplusI x0 y0 _ _ hM (bq_mono b0 hKM) (bq_mono b1 hKM) bx bY w1 (hT.below b))
 rw [beq_eq_false_iff_ne]
 intro e
 exact h (sg_zero e)
theorem far6I (x0 y0 x1 y1 : Rat) {K : Nat} (hK : K ≤ 100) (b0 : Bq x0 K) (b1 : Bq y0 K) (b2 : Bq x1 K) (b3 : Bq y1 K) (w : World) : Calls Tryz.prog 25 #[pq x0 y0, pq x1 y1] w (Re w (rq ((x1 - x0) * (x1 - x0) + (y1 - y0) * (y1 - y0)))) :=
 far6_walk _ _ _ _ _ _ _ _ _ _ _ _ _ _ _ _ _ _ _ _ _ w (fun w1 _ => rminusP x1 y1 x0 y0 (K := K) (by omega) b2 b3 b0 b1 w1) (fun w1 _ => rnormP (x1 - x0) (y1 - y0) (K := K + K + 1) (by omega) (vq_sub b2 b0) (vq_sub b3 b1) w1)
theorem eqI (x y : Rat) {b : Bool} (h : decide (x = y) = b) : ∀ w1, (binOp .eql 26 (rq x) (rq y)).run Tryz.prog w1 = .ok (.bool b) w1 := fun w1 => by
 subst h
 by_cases e : x = y
 ·subst e
  rw [decide_eq_true rfl]
  go_simp
 ·rw [decide_eq_false e]
  go_simp
  intro a b c
  exact e (can_eq a (bytes_eq b) (bytes_eq c))
theorem vqm_add {a b : Rat} {k j : Nat} (ha : Bq a k) (hb : Bq b j) : Bq (a + b) (k + j + 1) := by
 rw [Rat.add_def']
 exact vq_mk (Nat.mul_pos a.den_pos b.den_pos) ((ha.1.mul hb.2).add ((hb.1.mul ha.2).mono (by omega))) ((vd_cast _ _ ha.2 hb.2).mono (by omega))
theorem vqm_sub {a b : Rat} {k j : Nat} (ha : Bq a k) (hb : Bq b j) : Bq (a - b) (k + j + 1) := by
 rw [Rat.sub_eq_add_neg]
 exact vqm_add ha (vq_neg hb)
theorem vqm_mul {a b : Rat} {k j : Nat} (ha : Bq a k) (hb : Bq b j) : Bq (a * b) (k + j) := by
 rw [Rat.mul_def']
 exact vq_mk (Nat.mul_pos a.den_pos b.den_pos) (ha.1.mul hb.1) (vd_cast _ _ ha.2 hb.2)
theorem rorderI (x y : Rat) {K : Nat} (hK : K ≤ 4000) (b0 : Bq x K) (b1 : Bq y K) (w : World) : Calls Tryz.prog 39 #[rq x, rq y] w (Re w (.int .i64 (Q.cmp x y))) := by
 have := rorderq_any (nfZ x.num) (nfZ y.num) (sfZ x.num) (strOf x.den) (sfZ y.num) (strOf y.den) w (okQ_qI x) (okQ_qI y) hK (bq_sz (Nat.le_refl _) b0).1 (bq_sz (Nat.le_refl _) b0).2 (bq_sz (Nat.le_refl _) b1).1 (bq_sz (Nat.le_refl _) b1).2
 rwa [qOf_one, qOf_one] at this
def lm2 (x y : Rat) : Rat := if y < x then y else x
theorem leastI (x y : Rat) {K : Nat} (hK : K ≤ 4000) (b0 : Bq x K) (b1 : Bq y K) (w : World) : Calls Tryz.prog 117 #[rq x, rq y] w (Re w (rq (lm2 x y))) := by
 refine least_walk _ _ _ _ _ _ (Q.cmp x y) _ _ _ w (fun w1 _ => rorderI x y hK b0 b1 w1) ?_
 unfold lm2 Q.cmp
 by_cases h : y < x
 ·rw [if_pos h, if_neg (by grind), if_pos h]
  exact Or.inr ⟨by omega, rfl, rfl, rfl⟩
 ·rw [if_neg h, if_neg h]
  exact Or.inl ⟨by split <;> omega, rfl, rfl, rfl⟩
theorem cmp_no {a b : Rat} (h : ¬ b < a) : decide (0 < Q.cmp a b) = false := by
 unfold Q.cmp
 simp only [if_neg h]
 split <;> decide
theorem cmp_yes {a b : Rat} (h : b < a) : 0 < Q.cmp a b := by
 unfold Q.cmp
 rw [if_neg (by grind), if_pos h]
 decide
theorem sg_ne {x : Rat} (h : ¬ x = 0) : (Gm.sg x == 0) = false := beq_eq_false_iff_ne.2 (fun e => h (Gm.sg_eq_zero.1 e))
theorem eqP (x y : Rat) : ∀ w1, (binOp .eql 28 (pq x y) (pq x y)).run Tryz.prog w1 = .ok (.bool true) w1 := fun w1 => by go_simp
theorem eqPI (x y x' y' : Rat) {b : Bool} (h : decide (x = x' ∧ y = y') = b) : ∀ w1, (binOp .eql 28 (pq x y) (pq x' y')).run Tryz.prog w1 = .ok (.bool b) w1 := by
 by_cases e : x = x' ∧ y = y'
 ·obtain ⟨rfl, rfl⟩ := e
  rw [decide_eq_true ⟨rfl, rfl⟩] at h
  subst h
  exact eqP x y
 ·rw [decide_eq_false e] at h
  subst h
  exact neI x y x' y' e
theorem far6L (x0 y0 x1 y1 : Rat) {K M' : Nat} (hK : K ≤ M') (hM : M' + M' + 4 + (K + K) ≤ 4000) (b0 : Bq x0 M') (b1 : Bq y0 M') (b2 : Bq x1 K) (b3 : Bq y1 K) (w : World) : Calls Tryz.prog 25 #[pq x0 y0, pq x1 y1] w (Re w (rq ((x1 - x0) * (x1 - x0) + (y1 - y0) * (y1 - y0)))) :=
 far6_walk _ _ _ _ _ _ _ _ _ _ _ _ _ _ _ _ _ _ _ _ _ w (fun w1 _ => rminusP x1 y1 x0 y0 (K := M') (by omega) (bq_mono b2 hK) (bq_mono b3 hK) b0 b1 w1) (fun w1 _ => rnormP (x1 - x0) (y1 - y0) (K := K + M' + 1) (by omega) (vqm_sub b2 b0) (vqm_sub b3 b1) w1)
theorem asked6_walk (n0 n1 n2 n3 n4 n5 : Bool) (s0 d0 s1 d1 s2 d2 s3 d3 s4 d4 s5 d5 : ByteArray) (E : Int) (w : World)
  (HA : Hid (∀ (w1 : World) (B : Nat), Below w.heap.size w w1 → Cel w1 B [.bool n0, .string s0, .string d0, .bool n1, .string s1, .string d1, .bool n2, .string s2, .string d2, .bool n3, .string s3, .string d3, .bool n4, .string s4, .string d4, .bool n5, .string s5, .string d5] 28 → Calls Tryz.prog 9 #[.slice (some ⟨B, 0, none⟩) 3 3] w1 (Re w1 (.int .i64 E)))) :
  Calls Tryz.prog 23 #[.agg #[.bool n0, .string s0, .string d0, .bool n1, .string s1, .string d1], .agg #[.bool n2, .string s2, .string d2, .bool n3, .string s3, .string d3], .agg #[.bool n4, .string s4, .string d4, .bool n5, .string s5, .string d5]] w (Re w (.int .i64 E)) := by
 go_enter Tryz.func23, Tryz.ntmps23
 go_wp2_with fail
 obtain ⟨w0, hw, ka, kb, kc, kl, bb⟩ := mk4 w [.bool n0, .string s0, .string d0, .bool n1, .string s1, .string d1] [.bool n2, .string s2, .string d2, .bool n3, .string s3, .string d3] [.bool n4, .string s4, .string d4, .bool n5, .string s5, .string d5] [.bool n0, .string s0, .string d0, .bool n1, .string s1, .string d1, .bool n2, .string s2, .string d2, .bool n3, .string s3, .string d3, .bool n4, .string s4, .string d4, .bool n5, .string s5, .string d5] 28 28 28 28
 rw [← hw]
 clear hw
 go_fit (HA.out _ _ bb kl)
 rintro e w1 ⟨rfl, b1⟩
 replace bb := Below.after bb b1
 clear b1 ka kb kc kl
 go_wp2
 go_ret
 exact ⟨rfl, bb⟩
theorem asked6_any (n0 n1 n2 n3 n4 n5 : Bool) (s0 d0 s1 d1 s2 d2 s3 d3 s4 d4 s5 d5 : ByteArray) (w : World) (z0 : s0.size ≤ 100 ∧ d0.size ≤ 100) (z1 : s1.size ≤ 100 ∧ d1.size ≤ 100) (z2 : s2.size ≤ 100 ∧ d2.size ≤ 100) (z3 : s3.size ≤ 100 ∧ d3.size ≤ 100) (z4 : s4.size ≤ 100 ∧ d4.size ≤ 100) (z5 : s5.size ≤ 100 ∧ d5.size ≤ 100) :
  Calls Tryz.prog 23 #[.agg #[.bool n0, .string s0, .string d0, .bool n1, .string s1, .string d1], .agg #[.bool n2, .string s2, .string d2, .bool n3, .string s3, .string d3], .agg #[.bool n4, .string s4, .string d4, .bool n5, .string s5, .string d5]] w (Re w (.int .i64 (twoc (twoc (twoq n0 s0 d0 n1 s1 d1) (twoq n2 s2 d2 n3 s3 d3)) (twoq n4 s4 d4 n5 s5 d5) : Nat))) :=
 asked6_walk n0 n1 n2 n3 n4 n5 s0 d0 s1 d1 s2 d2 s3 d3 s4 d4 s5 d5 _ w (fun w1 B _ h => asked3 B n0 n1 n2 n3 n4 n5 s0 d0 s1 d1 s2 d2 s3 d3 s4 d4 s5 d5 w1 h z0 z1 z2 z3 z4 z5)
theorem canon {n : Bool} {s d : ByteArray} {K : Nat} (h : chkq n s d = 0) (z : s.size ≤ K ∧ d.size ≤ K) : ∃ x : Rat, Bq x K ∧ n = nfZ x.num ∧ s = sfZ x.num ∧ d = strOf x.den := by
 have o := (chkq_zero h).1
 obtain ⟨e1, e2, e3⟩ := o.parts
 refine ⟨qOf n s d, ⟨?_, ?_⟩, e1.symm, e2.symm, e3.symm⟩
 ·rw [o.low.1]; exact bd_zOf z.1
 ·rw [o.low.2]
  have := bd_zOf (n := false) z.2
  simpa [zOf] using this
theorem Gm.way_x {X Y U : Int} {x y : Rat} (h : Gm.Way X Y U x y) : Rat.divInt X U = x := by
 have hp := Gm.upos h.1
 rw [Rat.divInt_eq_div, h.2.1, Rat.div_def]
 have := Rat.mul_inv_cancel (U : Rat) (by grind)
 grind
theorem Gm.way_y {X Y U : Int} {x y : Rat} (h : Gm.Way X Y U x y) : Rat.divInt Y U = y := by
 have hp := Gm.upos h.1
 rw [Rat.divInt_eq_div, h.2.2, Rat.div_def]
 have := Rat.mul_inv_cancel (U : Rat) (by grind)
 grind
theorem bq_divI {X U : Int} {k : Nat} (hU : 0 < U) (hX : Bd X k) (hu : Bd U k) : Bq (Rat.divInt X U) k := by
 obtain ⟨m, rfl⟩ := Int.eq_ofNat_of_zero_le (Int.le_of_lt hU)
 show Bq (mkRat X m) k
 exact vq_mk (by omega) hX hu
theorem bq_wayx {X Y U : Int} {x y : Rat} {k : Nat} (h : Gm.Way X Y U x y) (hX : Bd X k) (hu : Bd U k) : Bq x k := by
 rw [← Gm.way_x h]; exact bq_divI h.1 hX hu
theorem bq_wayy {X Y U : Int} {x y : Rat} {k : Nat} (h : Gm.Way X Y U x y) (hY : Bd Y k) (hu : Bd U k) : Bq y k := by
 rw [← Gm.way_y h]; exact bq_divI h.1 hY hu
theorem num_den (x : Rat) : (x.num : Rat) = ((x.den : Int) : Rat) * x := by
 have h := Rat.mkRat_self x
 rw [Rat.mkRat_eq_div] at h
 have hd : ((x.den : Nat) : Rat) ≠ 0 := by
  have := x.den_pos
  intro e
  have e' : ((x.den : Nat) : Rat) = ((0 : Nat) : Rat) := e
  rw [Rat.natCast_inj] at e'
  omega
 rw [Rat.div_def] at h
 have k := Rat.mul_inv_cancel _ hd
 rw [Rat.intCast_natCast]
 generalize ((x.den : Nat) : Rat)⁻¹ = i at *
 grind
theorem way_less {x0 y0 x1 y1 : Rat} {K : Nat} (b0 : Bq x0 K) (b1 : Bq y0 K) (b2 : Bq x1 K) (b3 : Bq y1 K) :
  ∃ X Y U : Int, Gm.Way X Y U (x1 - x0) (y1 - y0) ∧ Bd X (K + K + 1 + (K + K)) ∧ Bd Y (K + K + 1 + (K + K)) ∧ Bd U (K + K + (K + K)) := by
 refine ⟨(x1.num * x0.den - x0.num * x1.den) * (y0.den * y1.den), (y1.num * y0.den - y0.num * y1.den) * (x0.den * x1.den), (x0.den * x1.den) * (y0.den * y1.den), ⟨?_, ?_, ?_⟩, ?_, ?_, ?_⟩
 ·have a := x0.den_pos; have b := x1.den_pos; have c := y0.den_pos; have d := y1.den_pos
  exact Int.mul_pos (Int.mul_pos (by omega) (by omega)) (Int.mul_pos (by omega) (by omega))
 ·have e0 := num_den x0; have e1 := num_den x1
  push_cast
  rw [e0, e1]
  push_cast
  grind
 ·have e0 := num_den y0; have e1 := num_den y1
  push_cast
  rw [e0, e1]
  push_cast
  grind
 ·exact ((b2.1.mul b0.2).sub (b0.1.mul b2.2)).mul (b1.2.mul b3.2)
 ·exact ((b3.1.mul b1.2).sub (b1.1.mul b3.2)).mul (b0.2.mul b2.2)
 ·exact (b0.2.mul b2.2).mul (b1.2.mul b3.2)
theorem bd_abs {z : Int} {k : Nat} (h : Bd z k) : Bd (z.natAbs : Int) k := by
 unfold Bd at *
 simpa using h
theorem cen_bq {x0 y0 x1 y1 x2 y2 : Rat} {K : Nat} (b0 : Bq x0 K) (b1 : Bq y0 K) (b2 : Bq x1 K) (b3 : Bq y1 K) (b4 : Bq x2 K) (b5 : Bq y2 K) (h : (x1 - x0) * (y2 - y0) - (y1 - y0) * (x2 - x0) ≠ 0) :
  Bq (cenX (x1 - x0) (y1 - y0) (x2 - x0) (y2 - y0)) (16 * K + 5) ∧ Bq (cenY (x1 - x0) (y1 - y0) (x2 - x0) (y2 - y0)) (16 * K + 5) := by
 obtain ⟨X1, Y1, U1, w1, p1, p2, p3⟩ := way_less b0 b1 b2 b3
 obtain ⟨X4, Y4, U4, w4, q1, q2, q3⟩ := way_less b0 b1 b4 b5
 have bn := (p1.mul p1).add (p2.mul p2)
 have bm := (q1.mul q1).add (q2.mul q2)
 have bX := ((bn.mul q3).mul q2).sub ((bm.mul p3).mul p2)
 have bY := (p1.mul (bm.mul p3)).sub ((q1.mul (bn.mul q3)).mono (j := _) (Nat.le_of_eq rfl))
 have ba := (p1.mul q2).sub (p2.mul q1)
 have bU := ((bd_abs (ba.add ba)).mul p3).mul q3
 rcases Int.le_total 0 (X1 * Y4 - Y1 * X4) with hs | hs
 ·have W := Gm.centre_way w1 w4 h (.inl ⟨rfl, rfl, hs⟩)
  exact ⟨bq_wayx W (bX.mono (by omega)) (bU.mono (by omega)), bq_wayy W (bY.mono (by omega)) (bU.mono (by omega))⟩
 ·have W := Gm.centre_way w1 w4 h (.inr ⟨rfl, rfl, hs⟩)
  exact ⟨bq_wayx W (bX.neg.mono (by omega)) (bU.mono (by omega)), bq_wayy W (bY.neg.mono (by omega)) (bU.mono (by omega))⟩
theorem rcenI (x0 y0 x1 y1 x2 y2 : Rat) {K : Nat} (hK : K ≤ 100) (b0 : Bq x0 K) (b1 : Bq y0 K) (b2 : Bq x1 K) (b3 : Bq y1 K) (b4 : Bq x2 K) (b5 : Bq y2 K) (w : World) (hA : ((x1 - x0) * (y2 - y0) - (y1 - y0) * (x2 - x0)) ≠ 0) : Calls Tryz.prog 27 #[pq x0 y0, pq x1 y1, pq x2 y2] w (Ra w (pq (x0 + (cenX (x1 - x0) (y1 - y0) (x2 - x0) (y2 - y0))) (y0 + (cenY (x1 - x0) (y1 - y0) (x2 - x0) (y2 - y0))))) := by
 have bux := vqm_sub b2 b0
 have buy := vqm_sub b3 b1
 have bvx := vqm_sub b4 b0
 have bvy := vqm_sub b5 b1
 have bn := vqm_sub (vqm_mul bux bvy) (vqm_mul buy bvx)
 have bm := vqm_add bn bn
 have bp := vqm_add (vqm_mul bux bux) (vqm_mul buy buy)
 have bq := vqm_add (vqm_mul bvx bvx) (vqm_mul bvy bvy)
 have bg := vqm_mul bp bvy
 have bh := vqm_mul bq buy
 have bi := vqm_sub bg bh
 have bj := vqm_mul bq bux
 have bk := vqm_mul bp bvx
 have bl := vqm_sub bj bk
 obtain ⟨M, hM⟩ : ∃ M : Nat, M = 4000 := ⟨_, rfl⟩
 obtain ⟨bcx, bcy⟩ := cen_bq b0 b1 b2 b3 b4 b5 hA
 have hA2 : ¬ ((x1 - x0) * (y2 - y0) - (y1 - y0) * (x2 - x0)) + ((x1 - x0) * (y2 - y0) - (y1 - y0) * (x2 - x0)) = 0 := fun e => hA (by grind)
 have ex : (((x1 - x0) * (x1 - x0) + (y1 - y0) * (y1 - y0)) * (y2 - y0) - ((x2 - x0) * (x2 - x0) + (y2 - y0) * (y2 - y0)) * (y1 - y0)) / (((x1 - x0) * (y2 - y0) - (y1 - y0) * (x2 - x0)) + ((x1 - x0) * (y2 - y0) - (y1 - y0) * (x2 - x0))) = (cenX (x1 - x0) (y1 - y0) (x2 - x0) (y2 - y0)) := rfl
 have ey : (((x2 - x0) * (x2 - x0) + (y2 - y0) * (y2 - y0)) * (x1 - x0) - ((x1 - x0) * (x1 - x0) + (y1 - y0) * (y1 - y0)) * (x2 - x0)) / (((x1 - x0) * (y2 - y0) - (y1 - y0) * (x2 - x0)) + ((x1 - x0) * (y2 - y0) - (y1 - y0) * (x2 - x0))) = (cenY (x1 - x0) (y1 - y0) (x2 - x0) (y2 - y0)) := by
  unfold cenY
  rw [show ((x2 - x0) * (x2 - x0) + (y2 - y0) * (y2 - y0)) * (x1 - x0) - ((x1 - x0) * (x1 - x0) + (y1 - y0) * (y1 - y0)) * (x2 - x0) = (x1 - x0) * ((x2 - x0) * (x2 - x0) + (y2 - y0) * (y2 - y0)) - (x2 - x0) * ((x1 - x0) * (x1 - x0) + (y1 - y0) * (y1 - y0)) by grind]
 exact rcen_walk _ _ _ _ _ _ _ _ _ _ _ _ _ _ _ _ _ _ _ _ _ _ _ _ _ _ _ _ _ _ _ _ _ _ _ _ _ _ _ _ _ _ _ _ _ _ _ _ _ _ _ _ _ _ _ _ _ _ _ _ _ _ _ _ _ _ _ _ _ _ _ _ w
  (fun w1 _ => rminusP x1 y1 x0 y0 (K := K) (by omega) b2 b3 b0 b1 w1) (fun w1 _ => rminusP x2 y2 x0 y0 (K := K) (by omega) b4 b5 b0 b1 w1) (fun w1 _ => rcrossP _ _ _ _ (K := (K + K + 1)) (by omega) bux buy bvx bvy w1)
  (fun w1 _ => rsumI _ _ (by omega) bn bn w1) (fun w1 _ => rnormP _ _ (K := (K + K + 1)) (by omega) bux buy w1) (fun w1 _ => rnormP _ _ (K := (K + K + 1)) (by omega) bvx bvy w1)
  (fun w1 _ => rtimesI _ _ (K := M) (by omega) (bq_mono bp (by omega)) (bq_mono bvy (by omega)) w1) (fun w1 _ => rtimesI _ _ (K := M) (by omega) (bq_mono bq (by omega)) (bq_mono buy (by omega)) w1) (fun w1 _ => rlessI _ _ (K := M) (by omega) (bq_mono bg (by omega)) (bq_mono bh (by omega)) w1) (fun w1 _ => by have := roverI (((x1 - x0) * (x1 - x0) + (y1 - y0) * (y1 - y0)) * (y2 - y0) - ((x2 - x0) * (x2 - x0) + (y2 - y0) * (y2 - y0)) * (y1 - y0)) (((x1 - x0) * (y2 - y0) - (y1 - y0) * (x2 - x0)) + ((x1 - x0) * (y2 - y0) - (y1 - y0) * (x2 - x0))) (K := M) (by omega) (bq_mono bi (by omega)) (bq_mono bm (by omega)) hA2 w1; rwa [ex] at this)
  (fun w1 _ => rtimesI _ _ (K := M) (by omega) (bq_mono bq (by omega)) (bq_mono bux (by omega)) w1) (fun w1 _ => rtimesI _ _ (K := M) (by omega) (bq_mono bp (by omega)) (bq_mono bvx (by omega)) w1) (fun w1 _ => rlessI _ _ (K := M) (by omega) (bq_mono bj (by omega)) (bq_mono bk (by omega)) w1) (fun w1 _ => by have := roverI (((x2 - x0) * (x2 - x0) + (y2 - y0) * (y2 - y0)) * (x1 - x0) - ((x1 - x0) * (x1 - x0) + (y1 - y0) * (y1 - y0)) * (x2 - x0)) (((x1 - x0) * (y2 - y0) - (y1 - y0) * (x2 - x0)) + ((x1 - x0) * (y2 - y0) - (y1 - y0) * (x2 - x0))) (K := M) (by omega) (bq_mono bl (by omega)) (bq_mono bm (by omega)) hA2 w1; rwa [ey] at this)
  (fun w1 _ => rplusP x0 y0 _ _ (K := 16 * K + 5) (by omega) (bq_mono b0 (by omega)) (bq_mono b1 (by omega)) bcx bcy w1)
theorem cArea_bad (n0 n1 n2 n3 n4 n5 : Bool) (s0 d0 s1 d1 s2 d2 s3 d3 s4 d4 s5 d5 : ByteArray) (E : Int) (w : World) (hE : ¬ E = 0)
  (HC : Hid (∀ (w1 : World) (B : Nat), Below w.heap.size w w1 → Cel w1 B [.bool n0, .string s0, .string d0, .bool n1, .string s1, .string d1, .bool n2, .string s2, .string d2, .bool n3, .string s3, .string d3, .bool n4, .string s4, .string d4, .bool n5, .string s5, .string d5] 28 → Calls Tryz.prog 45 #[.slice (some ⟨B, 0, none⟩) 3 3] w1 (Re w1 (.int .i64 E)))) :
  Calls Tryz.prog 29 #[.agg #[.bool n0, .string s0, .string d0, .bool n1, .string s1, .string d1], .agg #[.bool n2, .string s2, .string d2, .bool n3, .string s3, .string d3], .agg #[.bool n4, .string s4, .string d4, .bool n5, .string s5, .string d5]] w (Re w (.tuple #[.agg #[.bool false, .string { data := #[] }, .string { data := #[] }], .int .i64 E])) := by
 go_enter Tryz.func29, Tryz.ntmps29
 go_wp2_with fail
 obtain ⟨w0, hw, ka, kb, kc, kr, kl, bb⟩ := mk5 w [.bool n0, .string s0, .string d0, .bool n1, .string s1, .string d1] [.bool n2, .string s2, .string d2, .bool n3, .string s3, .string d3] [.bool n4, .string s4, .string d4, .bool n5, .string s5, .string d5] [.bool false, .string { data := #[] }, .string { data := #[] }] [.bool n0, .string s0, .string d0, .bool n1, .string s1, .string d1, .bool n2, .string s2, .string d2, .bool n3, .string s3, .string d3, .bool n4, .string s4, .string d4, .bool n5, .string s5, .string d5] 28 28 28 26 28
 rw [← hw]
 clear hw
 go_fit (HC.out _ _ bb kl)
 rintro e w1 ⟨rfl, b1⟩
 replace ka := ka.below b1
 replace kb := kb.below b1
 replace kc := kc.below b1
 replace kr := kr.below b1
 replace bb := Below.after bb b1
 clear b1 kl
 have e0 := cel3_0 kr
 have f0 := Cel.frozen kr 0
 have e1 := cel3_1 kr
 have f1 := Cel.frozen kr 1
 have e2 := cel3_2 kr
 have f2 := Cel.frozen kr 2
 go_wp2
 exact post_q1 (p := 6) (u := 7) (v := .int .i64 E) (by kernel_rfl) rfl rfl rfl (((kr.set 0 _).set 1 _).set 2 _) ⟨rfl, bset (bset (bset bb (by omega) 0 _) (by omega) 1 _) (by omega) 2 _⟩
theorem farI (x0 y0 x1 y1 : Rat) {K : Nat} (hK : K ≤ 100) (b0 : Bq x0 K) (b1 : Bq y0 K) (b2 : Bq x1 K) (b3 : Bq y1 K) (w : World) (hT : Tab w) : Calls Tryz.prog 59 #[pq x0 y0, pq x1 y1] w (Ra w (rq ((x1 - x0) * (x1 - x0) + (y1 - y0) * (y1 - y0)))) :=
 far2_walk (nfZ x0.num) (nfZ y0.num) (nfZ x1.num) (nfZ y1.num) (sfZ x0.num) (strOf x0.den) (sfZ y0.num) (strOf y0.den) (sfZ x1.num) (strOf x1.den) (sfZ y1.num) (strOf y1.den) (x1 - x0) (y1 - y0) w hT (ofI x0 y0 x1 y1 hK b0 b1 b2 b3)
theorem nearI_b (x0 y0 x1 y1 x2 y2 : Rat) {K : Nat} (hK : K ≤ 100) (b0 : Bq x0 K) (b1 : Bq y0 K) (b2 : Bq x1 K) (b3 : Bq y1 K) (b4 : Bq x2 K) (b5 : Bq y2 K) (w : World) (hT : Tab w) (h1 : ¬ (x0 = x1 ∧ y0 = y1)) (hd : ¬ Gm.sg ((x1 - x0) * (x2 - x0) + (y1 - y0) * (y2 - y0)) ≤ 0) (hb : 0 ≤ Gm.sg ((x1 - x0) * (x2 - x1) + (y1 - y0) * (y2 - y1))) : Calls Tryz.prog 34 #[pq x0 y0, pq x1 y1, pq x2 y2] w (Ra w (.tuple #[rq ((x2 - x1) * (x2 - x1) + (y2 - y1) * (y2 - y1)), .int .i64 0])) :=
 cNear_b (nfZ x0.num) (nfZ y0.num) (nfZ x1.num) (nfZ y1.num) (nfZ x2.num) (nfZ y2.num) (sfZ x0.num) (strOf x0.den) (sfZ y0.num) (strOf y0.den) (sfZ x1.num) (strOf x1.den) (sfZ y1.num) (strOf y1.den) (sfZ x2.num) (strOf x2.den) (sfZ y2.num) (strOf y2.den) (nfZ (((x2 - x1) * (x2 - x1) + (y2 - y1) * (y2 - y1))).num) (sfZ (((x2 - x1) * (x2 - x1) + (y2 - y1) * (y2 - y1))).num) (strOf (((x2 - x1) * (x2 - x1) + (y2 - y1) * (y2 - y1))).den) (x1 - x0) (y1 - y0) (x2 - x0) (y2 - y0) (x2 - x1) (y2 - y1) w (chkI x0 y0 x1 y1 x2 y2 hK b0 b1 b2 b3 b4 b5 w hT) (neI _ _ _ _ h1) (ofI x0 y0 x1 y1 hK b0 b1 b2 b3) (ofI x0 y0 x2 y2 hK b0 b1 b4 b5) hd hb (fun w1 => (ofI x1 y1 x2 y2 hK b2 b3 b4 b5 w1).mono (fun e w' h => by obtain ⟨m0, a0, l0, c0, m1, a1, l1, c1, a2, l2, c2, X, Y, U, h1, h2, h3⟩ := h; exact ⟨m0, a0, l0, c0, m1, a1, l1, c1, a2, l2, c2, X, Y, U, h1, h2.1, h2.2.1, h2.2.2.1, h2.2.2.2, h3⟩)) (fun w1 b => farI x1 y1 x2 y2 hK b2 b3 b4 b5 w1 (hT.below b))
theorem live6_walk (n10 n11 n12 n13 n14 n15 n16 n17 n18 n19 n20 n21 n22 n23 : Bool) (s10 d10 s11 d11 s12 d12 s13 d13 s14 d14 s15 d15 s16 d16 s17 d17 s18 d18 s19 d19 s20 d20 s21 d21 s22 d22 s23 d23 : ByteArray) (fN : Bool) (fS fD : ByteArray) (w : World)
  (A00 : Hid (∀ w1, Calls Tryz.prog 57 #[.int .i64 0, .int .i64 0] w1 (Re w1 (.agg #[.bool n10, .string s10, .string d10, .bool n11, .string s11, .string d11]))))
  (A20 : Hid (∀ w1, Calls Tryz.prog 57 #[.int .i64 2, .int .i64 0] w1 (Re w1 (.agg #[.bool n12, .string s12, .string d12, .bool n13, .string s13, .string d13]))))
  (A02 : Hid (∀ w1, Calls Tryz.prog 57 #[.int .i64 0, .int .i64 2] w1 (Re w1 (.agg #[.bool n14, .string s14, .string d14, .bool n15, .string s15, .string d15]))))
  (A40 : Hid (∀ w1, Calls Tryz.prog 57 #[.int .i64 4, .int .i64 0] w1 (Re w1 (.agg #[.bool n16, .string s16, .string d16, .bool n17, .string s17, .string d17]))))
  (A60 : Hid (∀ w1, Calls Tryz.prog 57 #[.int .i64 6, .int .i64 0] w1 (Re w1 (.agg #[.bool n18, .string s18, .string d18, .bool n19, .string s19, .string d19]))))
  (A10 : Hid (∀ w1, Calls Tryz.prog 57 #[.int .i64 1, .int .i64 0] w1 (Re w1 (.agg #[.bool n20, .string s20, .string d20, .bool n21, .string s21, .string d21]))))
  (A11 : Hid (∀ w1, Calls Tryz.prog 57 #[.int .i64 1, .int .i64 1] w1 (Re w1 (.agg #[.bool n22, .string s22, .string d22, .bool n23, .string s23, .string d23]))))
  (F4 : Hid (∀ w1, Calls Tryz.prog 58 #[.int .i64 4] w1 (Re w1 (.agg #[.bool fN, .string fS, .string fD]))))
  (C1 : Hid (∀ w1, Below w.heap.size w w1 → Calls Tryz.prog 22 #[.agg #[.bool n10, .string s10, .string d10, .bool n11, .string s11, .string d11], .agg #[.bool n12, .string s12, .string d12, .bool n13, .string s13, .string d13], .agg #[.bool n14, .string s14, .string d14, .bool n15, .string s15, .string d15]] w1 (Re w1 (.tuple #[.agg #[.bool n22, .string s22, .string d22, .bool n23, .string s23, .string d23], .int .i64 0]))))
  (C2 : Hid (∀ w1, Below w.heap.size w w1 → Calls Tryz.prog 34 #[.agg #[.bool n10, .string s10, .string d10, .bool n11, .string s11, .string d11], .agg #[.bool n16, .string s16, .string d16, .bool n17, .string s17, .string d17], .agg #[.bool n18, .string s18, .string d18, .bool n19, .string s19, .string d19]] w1 (Re w1 (.tuple #[.agg #[.bool fN, .string fS, .string fD], .int .i64 0]))))
  (C3 : Hid (∀ w1, Below w.heap.size w w1 → Calls Tryz.prog 28 #[.agg #[.bool n20, .string s20, .string d20, .bool n21, .string s21, .string d21], .agg #[.bool n10, .string s10, .string d10, .bool n11, .string s11, .string d11], .agg #[.bool n22, .string s22, .string d22, .bool n23, .string s23, .string d23]] w1 (Re w1 (.tuple #[.bool true, .int .i64 0]))))
  (C4 : Hid (∀ w1, Below w.heap.size w w1 → Calls Tryz.prog 22 #[.agg #[.bool n10, .string s10, .string d10, .bool n11, .string s11, .string d11], .agg #[.bool n20, .string s20, .string d20, .bool n21, .string s21, .string d21], .agg #[.bool n12, .string s12, .string d12, .bool n13, .string s13, .string d13]] w1 (Re w1 (.tuple #[.agg #[.bool false, .string { data := #[] }, .string { data := #[] }, .bool false, .string { data := #[] }, .string { data := #[] }], .int .i64 6])))) :
  Calls Tryz.prog 19 #[] w (Re w (.bool true)) := by
 go_enter Tryz.func19, Tryz.ntmps19
 have bb := Below.refl w.heap.size w
 go_wp2_with fail
 go_fit (A00.out _)
 rintro e w1 ⟨rfl, b1⟩
 replace bb := Below.after bb b1
 clear b1
 go_wp2_with fail
 go_fit (A20.out _)
 rintro e w2 ⟨rfl, b1⟩
 replace bb := Below.after bb b1
 clear b1
 go_wp2_with fail
 go_fit (A02.out _)
 rintro e w3 ⟨rfl, b1⟩
 replace bb := Below.after bb b1
 clear b1
 go_wp2_with fail
 go_fit (C1.out _ bb)
 rintro e w4 ⟨rfl, b1⟩
 replace bb := Below.after bb b1
 clear b1
 go_wp2_with fail
 obtain ⟨x4, hw, kc, b1⟩ := mk1 w4 [.bool n22, .string s22, .string d22, .bool n23, .string s23, .string d23] 28
 rw [← hw]
 clear hw
 replace bb := Below.after bb b1
 clear b1
 go_wp2_with fail
 go_fit (A00.out _)
 rintro e w5 ⟨rfl, b1⟩
 replace kc := kc.below b1
 replace bb := Below.after bb b1
 clear b1
 go_wp2_with fail
 go_fit (A40.out _)
 rintro e w6 ⟨rfl, b1⟩
 replace kc := kc.below b1
 replace bb := Below.after bb b1
 clear b1
 go_wp2_with fail
 go_fit (A60.out _)
 rintro e w7 ⟨rfl, b1⟩
 replace kc := kc.below b1
 replace bb := Below.after bb b1
 clear b1
 go_wp2_with fail
 go_fit (C2.out _ bb)
 rintro e w8 ⟨rfl, b1⟩
 replace kc := kc.below b1
 replace bb := Below.after bb b1
 clear b1
 go_wp2_with fail
 obtain ⟨x8, hw, kn, b1⟩ := mk1 w8 [.bool fN, .string fS, .string fD] 26
 rw [← hw]
 clear hw
 replace kc := kc.below b1
 replace bb := Below.after bb b1
 clear b1
 go_wp2_with fail
 go_fit (A10.out _)
 rintro e w9 ⟨rfl, b1⟩
 replace kc := kc.below b1
 replace kn := kn.below b1
 replace bb := Below.after bb b1
 clear b1
 go_wp2_with fail
 go_fit (A00.out _)
 rintro e w10 ⟨rfl, b1⟩
 replace kc := kc.below b1
 replace kn := kn.below b1
 replace bb := Below.after bb b1
 clear b1
 go_wp2_with fail
 go_fit (A11.out _)
 rintro e w11 ⟨rfl, b1⟩
 replace kc := kc.below b1
 replace kn := kn.below b1
 replace bb := Below.after bb b1
 clear b1
 go_wp2_with fail
 go_fit (C3.out _ bb)
 rintro e w12 ⟨rfl, b1⟩
 replace kc := kc.below b1
 replace kn := kn.below b1
 replace bb := Below.after bb b1
 clear b1
 go_wp2_with fail
 go_fit (A00.out _)
 rintro e w13 ⟨rfl, b1⟩
 replace kc := kc.below b1
 replace kn := kn.below b1
 replace bb := Below.after bb b1
 clear b1
 go_wp2_with fail
 go_fit (A10.out _)
 rintro e w14 ⟨rfl, b1⟩
 replace kc := kc.below b1
 replace kn := kn.below b1
 replace bb := Below.after bb b1
 clear b1
 go_wp2_with fail
 go_fit (A20.out _)
 rintro e w15 ⟨rfl, b1⟩
 replace kc := kc.below b1
 replace kn := kn.below b1
 replace bb := Below.after bb b1
 clear b1
 go_wp2_with fail
 go_fit (C4.out _ bb)
 rintro e w16 ⟨rfl, b1⟩
 replace kc := kc.below b1
 replace kn := kn.below b1
 replace bb := Below.after bb b1
 clear b1
 go_wp2_with fail
 obtain ⟨x16, hw, kz, b1⟩ := mk1 w16 [.bool false, .string { data := #[] }, .string { data := #[] }, .bool false, .string { data := #[] }, .string { data := #[] }] 28
 rw [← hw]
 clear hw
 replace kc := kc.below b1
 replace kn := kn.below b1
 replace bb := Below.after bb b1
 clear b1
 clear kz
 have bd := bdrew x16
 replace kc := kc.below bd
 replace kn := kn.below bd
 replace bb := Below.after bb bd
 clear bd
 refine wp_region_held_drew (S := fun w' => xc6 w' w4.heap.size (.bool n22) (.string s22) (.string d22) (.bool n23) (.string s23) (.string d23) ∧ xc3 w' w8.heap.size (.bool fN) (.string fS) (.string fD)) (by kernel_rfl) ⟨xk6 kc, xk3 kn⟩ (fun hS => ?_)
 refine WA.start (n := 28) (by kernel_rfl) ?_
 refine WA.tp 0 rfl ?_
 refine WA.cal 1 rfl (fun K hK => ?_)
 simp only [List.getElem_toArray, List.getElem_cons_succ, List.getElem_cons_zero]
 go_simp
 go_fit (A11.out _)
 rintro e wn ⟨rfl, bn⟩
 replace kc := kc.below bn
 replace kn := kn.below bn
 replace bb := Below.after bb bn
 try go_wp2_with fail
 clear hS
 refine hK.out _ _ ⟨xk6 kc, xk3 kn⟩ (fun hS => ?_)
 clear hK K bn
 refine WA.tp 2 rfl ?_
 refine WA.tp 3 rfl ?_
 refine WA.tp 4 rfl ?_
 refine WA.tp 5 rfl ?_
 refine WA.tp 6 rfl ?_
 refine WA.tp 7 rfl ?_
 refine WA.tp 8 rfl ?_
 refine WA.cal 9 rfl (fun K hK => ?_)
 simp only [List.getElem_toArray, List.getElem_cons_succ, List.getElem_cons_zero]
 go_simp
 go_fit (F4.out _)
 rintro e wn ⟨rfl, bn⟩
 replace kc := kc.below bn
 replace kn := kn.below bn
 replace bb := Below.after bb bn
 try go_wp2_with fail
 clear hS
 refine hK.out _ _ ⟨xk6 kc, xk3 kn⟩ (fun hS => ?_)
 clear hK K bn
 refine WA.tp 10 rfl ?_
 refine WA.tp 11 rfl ?_
 refine WA.tp 12 rfl ?_
 refine WA.tp 13 rfl ?_
 refine WA.tp 14 rfl ?_
 refine WA.tp 15 rfl ?_
 refine WA.tp 16 rfl ?_
 refine WA.tp 17 rfl ?_
 refine WA.tp 18 rfl ?_
 refine WA.tp 19 rfl ?_
 refine WA.tp 20 rfl ?_
 refine WA.tp 21 rfl ?_
 refine WA.tp 22 rfl ?_
 refine WA.tp 23 rfl ?_
 refine WA.tp 24 rfl ?_
 refine WA.tp 25 rfl ?_
 refine WA.tp 26 rfl ?_
 refine WA.tp 27 rfl ?_
 refine WA.done (by kernel_rfl) ?_
 clear hS
 go_wp2
 go_ret
 exact ⟨rfl, bb⟩
theorem pq_int (x y : Int) : pq (x : Rat) (y : Rat) = .agg #[.bool (nfZ x), .string (sfZ x), .string ⟨#[1]⟩, .bool (nfZ y), .string (sfZ y), .string ⟨#[1]⟩] := by
 have e : strOf 1 = ⟨#[1]⟩ := by decide +kernel
 simp only [pq, Rat.num_intCast, Rat.den_intCast, e]
theorem bq_int (x : Int) (h1 : -200 ≤ x) (h2 : x ≤ 200) : Bq (x : Rat) 1 := by
 constructor
 ·rw [Rat.num_intCast]; unfold Bd; omega
 ·rw [Rat.den_intCast]; unfold Bd; omega
theorem live6_any (w : World) (hT : Tab w) : Calls Tryz.prog 19 #[] w (Re w (.bool true)) := by
 refine live6_walk (nfZ 0) (nfZ 0) (nfZ 2) (nfZ 0) (nfZ 0) (nfZ 2) (nfZ 4) (nfZ 0) (nfZ 6) (nfZ 0) (nfZ 1) (nfZ 0) (nfZ 1) (nfZ 1) (sfZ 0) ⟨#[1]⟩ (sfZ 0) ⟨#[1]⟩ (sfZ 2) ⟨#[1]⟩ (sfZ 0) ⟨#[1]⟩ (sfZ 0) ⟨#[1]⟩ (sfZ 2) ⟨#[1]⟩ (sfZ 4) ⟨#[1]⟩ (sfZ 0) ⟨#[1]⟩ (sfZ 6) ⟨#[1]⟩ (sfZ 0) ⟨#[1]⟩ (sfZ 1) ⟨#[1]⟩ (sfZ 0) ⟨#[1]⟩ (sfZ 1) ⟨#[1]⟩ (sfZ 1) ⟨#[1]⟩ (nfZ 4) (sfZ 4) ⟨#[1]⟩ w ?_ ?_ ?_ ?_ ?_ ?_ ?_ ?_ ?_ ?_ ?_ ?_
 ·exact fun w1 => lat6_any 0 0 (by omega) (by omega) (by omega) (by omega) w1
 ·exact fun w1 => lat6_any 2 0 (by omega) (by omega) (by omega) (by omega) w1
 ·exact fun w1 => lat6_any 0 2 (by omega) (by omega) (by omega) (by omega) w1
 ·exact fun w1 => lat6_any 4 0 (by omega) (by omega) (by omega) (by omega) w1
 ·exact fun w1 => lat6_any 6 0 (by omega) (by omega) (by omega) (by omega) w1
 ·exact fun w1 => lat6_any 1 0 (by omega) (by omega) (by omega) (by omega) w1
 ·exact fun w1 => lat6_any 1 1 (by omega) (by omega) (by omega) (by omega) w1
 ·exact fun w1 => roq_any 4 (by omega) (by omega) w1
 ·intro w1 b
  have := cenI ((0 : Int) : Rat) ((0 : Int) : Rat) ((2 : Int) : Rat) ((0 : Int) : Rat) ((0 : Int) : Rat) ((2 : Int) : Rat) (by omega : 1 ≤ 100) (bq_int 0 (by omega) (by omega)) (bq_int 0 (by omega) (by omega)) (bq_int 2 (by omega) (by omega)) (bq_int 0 (by omega) (by omega)) (bq_int 0 (by omega) (by omega)) (bq_int 2 (by omega) (by omega)) w1 (hT.below b) (by decide +kernel) (cx := ((1 : Int) : Rat)) (cy := ((1 : Int) : Rat)) (by decide +kernel) (by decide +kernel) (M' := 1) (by omega) (by omega) (bq_int 1 (by omega) (by omega)) (bq_int 1 (by omega) (by omega))
  rw [show ((0 : Int) : Rat) + ((1 : Int) : Rat) = ((1 : Int) : Rat) by decide +kernel] at this
  simp only [pq_int] at this
  exact this
 ·intro w1 b
  have := nearI_b ((0 : Int) : Rat) ((0 : Int) : Rat) ((4 : Int) : Rat) ((0 : Int) : Rat) ((6 : Int) : Rat) ((0 : Int) : Rat) (by omega : 1 ≤ 100) (bq_int 0 (by omega) (by omega)) (bq_int 0 (by omega) (by omega)) (bq_int 4 (by omega) (by omega)) (bq_int 0 (by omega) (by omega)) (bq_int 6 (by omega) (by omega)) (bq_int 0 (by omega) (by omega)) w1 (hT.below b) (by decide +kernel) (by decide +kernel) (by decide +kernel)
  rw [show (((6 : Int) : Rat) - ((4 : Int) : Rat)) * (((6 : Int) : Rat) - ((4 : Int) : Rat)) + (((0 : Int) : Rat) - ((0 : Int) : Rat)) * (((0 : Int) : Rat) - ((0 : Int) : Rat)) = ((4 : Int) : Rat) by decide +kernel] at this
  simp only [pq_int] at this
  exact this
 ·intro w1 b
  have := sharpI ((1 : Int) : Rat) ((0 : Int) : Rat) ((0 : Int) : Rat) ((0 : Int) : Rat) ((1 : Int) : Rat) ((1 : Int) : Rat) (by omega : 1 ≤ 100) (bq_int 1 (by omega) (by omega)) (bq_int 0 (by omega) (by omega)) (bq_int 0 (by omega) (by omega)) (bq_int 0 (by omega) (by omega)) (bq_int 1 (by omega) (by omega)) (bq_int 1 (by omega) (by omega)) w1 (hT.below b) (by decide +kernel) (by decide +kernel)
  rw [show shp (((1 : Int) : Rat) - ((0 : Int) : Rat)) (((0 : Int) : Rat) - ((0 : Int) : Rat)) (((1 : Int) : Rat) - ((0 : Int) : Rat)) (((1 : Int) : Rat) - ((0 : Int) : Rat)) = true by decide +kernel] at this
  simp only [pq_int] at this
  exact this
 ·intro w1 b
  have := cenI_flat ((0 : Int) : Rat) ((0 : Int) : Rat) ((1 : Int) : Rat) ((0 : Int) : Rat) ((2 : Int) : Rat) ((0 : Int) : Rat) (by omega : 1 ≤ 100) (bq_int 0 (by omega) (by omega)) (bq_int 0 (by omega) (by omega)) (bq_int 1 (by omega) (by omega)) (bq_int 0 (by omega) (by omega)) (bq_int 2 (by omega) (by omega)) (bq_int 0 (by omega) (by omega)) w1 (hT.below b) (by decide +kernel)
  simp only [pq_int] at this
  exact this
end Go.Proofs.YtiiigiggcbbgjaaGreatDoor
