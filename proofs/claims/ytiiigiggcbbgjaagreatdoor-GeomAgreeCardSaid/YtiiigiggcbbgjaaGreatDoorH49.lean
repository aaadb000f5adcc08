/-
  gussetref05: Orient, Disc, Circle of rational numbers.
  Points and numbers in their one form: vec, rat.Div; gussetref04's Scale and Plus, gussetref03's Over.
  gussetlaw05: GeomMeets holds of any points.
  Package cons, in numbers' one form.
  gussetlaw06: ConsNear holds.
  gussetlaw05: GeomMeets, walked.
  How long the numbers of a way and of a centre are.
  gussetlaw05: GeomAgree, walked.
  gussetref05: On of longer numbers.
  How long the numbers of a crossing are; what signs tell.
  gussetlaw05: GeomAgree holds of any points.
-/
import Derived.Test.YtiiigiggcbbgjaaGreatDoorH48
set_option maxRecDepth 100000
set_option maxHeartbeats 16000000
namespace Go.Proofs.YtiiigiggcbbgjaaGreatDoor
open Go.RowKit
theorem sg_wneg (r : Rat) : IntKind.i64.wrap (-(Gm.sg r)) = -(Gm.sg r) := by
 rw [IntKind.wrap_i64]
 rcases sg_small r with h | h | h <;> rw [h] <;> rfl
theorem okq_form {n : Bool} {s d : ByteArray} (o : OkQ n s d) : ∃ x : Rat, n = nfZ x.num ∧ s = sfZ x.num ∧ d = strOf x.den := by
 have h : nfZ (qOf n s d).num = n ∧ sfZ (qOf n s d).num = s ∧ strOf (qOf n s d).den = d := o.parts
 exact ⟨qOf n s d, h.1.symm, h.2.1.symm, h.2.2.symm⟩
theorem qOf_one (x : Rat) : qOf (nfZ x.num) (sfZ x.num) (strOf x.den) = x := qOf_qI x
theorem vq_inv {a : Rat} {k : Nat} (ha : Bq a k) : Bq a⁻¹ k := by
 show Bq (Rat.inv a) k
 unfold Rat.inv
 split
 ·exact ⟨by show (-(a.den : Int)).natAbs < _; rw [Int.natAbs_neg]; exact ha.2, by show ((a.num.natAbs : Nat) : Int).natAbs < _; rw [Int.natAbs_natCast]; exact ha.1⟩
 ·split
  ·exact ⟨ha.2, by show ((a.num.natAbs : Nat) : Int).natAbs < _; rw [Int.natAbs_natCast]; exact ha.1⟩
  ·exact ha
theorem vq_div {a b : Rat} {k : Nat} (ha : Bq a k) (hb : Bq b k) : Bq (a / b) (k + k + 1) := by
 rw [Rat.div_def]
 exact vq_mul ha (vq_inv hb)
theorem bq_sz {x : Rat} {K M : Nat} (hK : K ≤ M) (b : Bq x K) : (sfZ x.num).size ≤ M ∧ (strOf x.den).size ≤ M := by
 have h1 : (sfZ x.num).size ≤ K := b.1.size
 have h2 := b.2.size
 simp at h2
 omega
theorem chk_can8 (x : Rat) {K : Nat} (hK : K ≤ 4000) (b : Bq x K) : chkq (nfZ x.num) (sfZ x.num) (strOf x.den) = 0 :=
 chkq_ok (okQ_qI x) (by have := (bq_sz (M := 4000) hK b).1; omega) (by have := (bq_sz (M := 4000) hK b).2; omega)
theorem nat_pos {x : Rat} (h : ¬ x = 0) : 0 < natOf (sfZ x.num) := by
 have e : natOf (sfZ x.num) = x.num.natAbs := natOf_strOf _
 have : ¬ x.num = 0 := fun q => h (Rat.num_eq_zero.1 q)
 omega
theorem vplusI (x y x' y' : Rat) {K : Nat} (hK : K ≤ 4000) (b0 : Bq x K) (b1 : Bq y K) (b2 : Bq x' K) (b3 : Bq y' K) (w : World) (hT : Tab w) : Calls Tryz.prog 53 #[.agg #[.bool (nfZ (x).num), .string (sfZ (x).num), .string (strOf (x).den), .bool (nfZ (y).num), .string (sfZ (y).num), .string (strOf (y).den)], .agg #[.bool (nfZ (x').num), .string (sfZ (x').num), .string (strOf (x').den), .bool (nfZ (y').num), .string (sfZ (y').num), .string (strOf (y').den)]] w (Re w (.tuple #[.agg #[.bool (nfZ (x + x').num), .string (sfZ (x + x').num), .string (strOf (x + x').den), .bool (nfZ (y + y').num), .string (sfZ (y + y').num), .string (strOf (y + y').den)], .int .i64 0])) := by
 have := vplus_ok (nfZ (x).num) (nfZ (y).num) (nfZ (x').num) (nfZ (y').num) (sfZ (x).num) (strOf (x).den) (sfZ (y).num) (strOf (y).den) (sfZ (x').num) (strOf (x').den) (sfZ (y').num) (strOf (y').den) w hT (two_zero.2 ⟨twoq_zero.2 ⟨chk_can8 x (by omega) b0, chk_can8 y (by omega) b1⟩, twoq_zero.2 ⟨chk_can8 x' (by omega) b2, chk_can8 y' (by omega) b3⟩⟩) (bq_sz hK b0) (bq_sz hK b1) (bq_sz hK b2) (bq_sz hK b3)
 simp only [qOf_one] at this
 exact this
theorem vminusI (x y x' y' : Rat) {K : Nat} (hK : K ≤ 4000) (b0 : Bq x K) (b1 : Bq y K) (b2 : Bq x' K) (b3 : Bq y' K) (w : World) (hT : Tab w) : Calls Tryz.prog 49 #[.agg #[.bool (nfZ (x).num), .string (sfZ (x).num), .string (strOf (x).den), .bool (nfZ (y).num), .string (sfZ (y).num), .string (strOf (y).den)], .agg #[.bool (nfZ (x').num), .string (sfZ (x').num), .string (strOf (x').den), .bool (nfZ (y').num), .string (sfZ (y').num), .string (strOf (y').den)]] w (Re w (.tuple #[.agg #[.bool (nfZ (x - x').num), .string (sfZ (x - x').num), .string (strOf (x - x').den), .bool (nfZ (y - y').num), .string (sfZ (y - y').num), .string (strOf (y - y').den)], .int .i64 0])) := by
 have := vminus_ok (nfZ (x).num) (nfZ (y).num) (nfZ (x').num) (nfZ (y').num) (sfZ (x).num) (strOf (x).den) (sfZ (y).num) (strOf (y).den) (sfZ (x').num) (strOf (x').den) (sfZ (y').num) (strOf (y').den) w hT (two_zero.2 ⟨twoq_zero.2 ⟨chk_can8 x (by omega) b0, chk_can8 y (by omega) b1⟩, twoq_zero.2 ⟨chk_can8 x' (by omega) b2, chk_can8 y' (by omega) b3⟩⟩) (bq_sz hK b0) (bq_sz hK b1) (bq_sz hK b2) (bq_sz hK b3)
 simp only [qOf_one] at this
 exact this
theorem vcrossI (x y x' y' : Rat) {K : Nat} (hK : K ≤ 170) (b0 : Bq x K) (b1 : Bq y K) (b2 : Bq x' K) (b3 : Bq y' K) (w : World) (hT : Tab w) : Calls Tryz.prog 50 #[.agg #[.bool (nfZ (x).num), .string (sfZ (x).num), .string (strOf (x).den), .bool (nfZ (y).num), .string (sfZ (y).num), .string (strOf (y).den)], .agg #[.bool (nfZ (x').num), .string (sfZ (x').num), .string (strOf (x').den), .bool (nfZ (y').num), .string (sfZ (y').num), .string (strOf (y').den)]] w (Re w (.tuple #[.agg #[.bool (nfZ (x * y' - y * x').num), .string (sfZ (x * y' - y * x').num), .string (strOf (x * y' - y * x').den)], .int .i64 0])) := by
 have := vCross_ok (nfZ (x).num) (nfZ (y).num) (nfZ (x').num) (nfZ (y').num) (sfZ (x).num) (strOf (x).den) (sfZ (y).num) (strOf (y).den) (sfZ (x').num) (strOf (x').den) (sfZ (y').num) (strOf (y').den) w hT (two_zero.2 ⟨twoq_zero.2 ⟨chk_can8 x (by omega) b0, chk_can8 y (by omega) b1⟩, twoq_zero.2 ⟨chk_can8 x' (by omega) b2, chk_can8 y' (by omega) b3⟩⟩) (bq_sz hK b0) (bq_sz hK b1) (bq_sz hK b2) (bq_sz hK b3)
 simp only [qOf_one] at this
 exact this
theorem vscaleI (x y k : Rat) {K : Nat} (hK : K ≤ 4000) (b0 : Bq x K) (b1 : Bq y K) (b2 : Bq k K) (w : World) (hT : Tab w) : Calls Tryz.prog 52 #[.agg #[.bool (nfZ (x).num), .string (sfZ (x).num), .string (strOf (x).den), .bool (nfZ (y).num), .string (sfZ (y).num), .string (strOf (y).den)], .agg #[.bool (nfZ (k).num), .string (sfZ (k).num), .string (strOf (k).den)]] w (Re w (.tuple #[.agg #[.bool (nfZ (x * k).num), .string (sfZ (x * k).num), .string (strOf (x * k).den), .bool (nfZ (y * k).num), .string (sfZ (y * k).num), .string (strOf (y * k).den)], .int .i64 0])) := by
 have := vscale_ok (nfZ (x).num) (nfZ (y).num) (nfZ (k).num) (sfZ (x).num) (strOf (x).den) (sfZ (y).num) (strOf (y).den) (sfZ (k).num) (strOf (k).den) w hT (two_zero.2 ⟨twoq_zero.2 ⟨chk_can8 x hK b0, chk_can8 y hK b1⟩, twoq_zero.2 ⟨chk_can8 k hK b2, chk_can8 k hK b2⟩⟩) (bq_sz hK b0) (bq_sz hK b1) (bq_sz hK b2)
 simp only [qOf_one] at this
 exact this
theorem qdivI (x y : Rat) {K : Nat} (hK : K ≤ 4000) (b0 : Bq x K) (b1 : Bq y K) (h : ¬ y = 0) (w : World) (hT : Tab w) : Calls Tryz.prog 51 #[.agg #[.bool (nfZ (x).num), .string (sfZ (x).num), .string (strOf (x).den)], .agg #[.bool (nfZ (y).num), .string (sfZ (y).num), .string (strOf (y).den)]] w (Re w (.tuple #[.agg #[.bool (nfZ (x / y).num), .string (sfZ (x / y).num), .string (strOf (x / y).den)], .int .i64 0])) := by
 have := qdiv_ok (nfZ (x).num) (nfZ (y).num) (sfZ (x).num) (strOf (x).den) (sfZ (y).num) (strOf (y).den) w hT (twoq_zero.2 ⟨chk_can8 x hK b0, chk_can8 y hK b1⟩) hK (bq_sz (Nat.le_refl _) b0).1 (bq_sz (Nat.le_refl _) b0).2 (bq_sz (Nat.le_refl _) b1).1 (bq_sz (Nat.le_refl _) b1).2 (nat_pos h)
 simp only [qOf_one] at this
 exact this
theorem gCrossI (r0 r1 r2 r3 r4 r5 r6 r7 : Rat) {K : Nat} (hK : K ≤ 60) (B0 : Bq r0 K) (B1 : Bq r1 K) (B2 : Bq r2 K) (B3 : Bq r3 K) (B4 : Bq r4 K) (B5 : Bq r5 K) (B6 : Bq r6 K) (B7 : Bq r7 K) (hN : ¬ ((r2 - r0) * (r7 - r5) - (r3 - r1) * (r6 - r4)) = 0) (w : World) (hT : Tab w) : Calls Tryz.prog 14 #[.agg #[.bool (nfZ (r0).num), .string (sfZ (r0).num), .string (strOf (r0).den), .bool (nfZ (r1).num), .string (sfZ (r1).num), .string (strOf (r1).den)], .agg #[.bool (nfZ (r2).num), .string (sfZ (r2).num), .string (strOf (r2).den), .bool (nfZ (r3).num), .string (sfZ (r3).num), .string (strOf (r3).den)], .agg #[.bool (nfZ (r4).num), .string (sfZ (r4).num), .string (strOf (r4).den), .bool (nfZ (r5).num), .string (sfZ (r5).num), .string (strOf (r5).den)], .agg #[.bool (nfZ (r6).num), .string (sfZ (r6).num), .string (strOf (r6).den), .bool (nfZ (r7).num), .string (sfZ (r7).num), .string (strOf (r7).den)]] w (Re w (.tuple #[.agg #[.bool (nfZ (r0 + (r2 - r0) * (((r4 - r0) * (r7 - r5) - (r5 - r1) * (r6 - r4)) / ((r2 - r0) * (r7 - r5) - (r3 - r1) * (r6 - r4)))).num), .string (sfZ (r0 + (r2 - r0) * (((r4 - r0) * (r7 - r5) - (r5 - r1) * (r6 - r4)) / ((r2 - r0) * (r7 - r5) - (r3 - r1) * (r6 - r4)))).num), .string (strOf (r0 + (r2 - r0) * (((r4 - r0) * (r7 - r5) - (r5 - r1) * (r6 - r4)) / ((r2 - r0) * (r7 - r5) - (r3 - r1) * (r6 - r4)))).den), .bool (nfZ (r1 + (r3 - r1) * (((r4 - r0) * (r7 - r5) - (r5 - r1) * (r6 - r4)) / ((r2 - r0) * (r7 - r5) - (r3 - r1) * (r6 - r4)))).num), .string (sfZ (r1 + (r3 - r1) * (((r4 - r0) * (r7 - r5) - (r5 - r1) * (r6 - r4)) / ((r2 - r0) * (r7 - r5) - (r3 - r1) * (r6 - r4)))).num), .string (strOf (r1 + (r3 - r1) * (((r4 - r0) * (r7 - r5) - (r5 - r1) * (r6 - r4)) / ((r2 - r0) * (r7 - r5) - (r3 - r1) * (r6 - r4)))).den)], .int .i64 0])) :=
 gCross_ok (nfZ (r0).num) (nfZ (r1).num) (nfZ (r2).num) (nfZ (r3).num) (nfZ (r4).num) (nfZ (r5).num) (nfZ (r6).num) (nfZ (r7).num) (sfZ (r0).num) (strOf (r0).den) (sfZ (r1).num) (strOf (r1).den) (sfZ (r2).num) (strOf (r2).den) (sfZ (r3).num) (strOf (r3).den) (sfZ (r4).num) (strOf (r4).den) (sfZ (r5).num) (strOf (r5).den) (sfZ (r6).num) (strOf (r6).den) (sfZ (r7).num) (strOf (r7).den) _ _ _ _ _ _ _ _ _ _ _ _ _ _ _ _ _ _ _ _ _ _ _ _ _ _ _ _ _ _ _ _ _ _ _ _ _ _ _ w (fun w1 B b h => by have := scheck4 B (nfZ (r0).num) (nfZ (r1).num) (nfZ (r2).num) (nfZ (r3).num) (nfZ (r4).num) (nfZ (r5).num) (nfZ (r6).num) (nfZ (r7).num) (sfZ (r0).num) (strOf (r0).den) (sfZ (r1).num) (strOf (r1).den) (sfZ (r2).num) (strOf (r2).den) (sfZ (r3).num) (strOf (r3).den) (sfZ (r4).num) (strOf (r4).den) (sfZ (r5).num) (strOf (r5).den) (sfZ (r6).num) (strOf (r6).den) (sfZ (r7).num) (strOf (r7).den) w1 (hT.below b) h (bq_sz (K := K) (by omega) B0) (bq_sz (K := K) (by omega) B1) (bq_sz (K := K) (by omega) B2) (bq_sz (K := K) (by omega) B3) (bq_sz (K := K) (by omega) B4) (bq_sz (K := K) (by omega) B5) (bq_sz (K := K) (by omega) B6) (bq_sz (K := K) (by omega) B7); rwa [(two_zero.2 ⟨two_zero.2 ⟨two_zero.2 ⟨twoq_zero.2 ⟨chk_can8 r0 (K := K) (by omega) B0, chk_can8 r1 (K := K) (by omega) B1⟩, twoq_zero.2 ⟨chk_can8 r2 (K := K) (by omega) B2, chk_can8 r3 (K := K) (by omega) B3⟩⟩, twoq_zero.2 ⟨chk_can8 r4 (K := K) (by omega) B4, chk_can8 r5 (K := K) (by omega) B5⟩⟩, twoq_zero.2 ⟨chk_can8 r6 (K := K) (by omega) B6, chk_can8 r7 (K := K) (by omega) B7⟩⟩)] at this) (fun w1 b => vminusI r2 r3 r0 r1 (K := K) (by omega) B2 B3 B0 B1 w1 (hT.below b)) (fun w1 b => vminusI r6 r7 r4 r5 (K := K) (by omega) B6 B7 B4 B5 w1 (hT.below b)) (fun w1 b => vminusI r4 r5 r0 r1 (K := K) (by omega) B4 B5 B0 B1 w1 (hT.below b)) (fun w1 b => vcrossI (r2 - r0) (r3 - r1) (r6 - r4) (r7 - r5) (K := (K + K + 1)) (by omega) (vq_sub B2 B0) (vq_sub B3 B1) (vq_sub B6 B4) (vq_sub B7 B5) w1 (hT.below b)) (fun w1 b => vcrossI (r4 - r0) (r5 - r1) (r6 - r4) (r7 - r5) (K := (K + K + 1)) (by omega) (vq_sub B4 B0) (vq_sub B5 B1) (vq_sub B6 B4) (vq_sub B7 B5) w1 (hT.below b)) (fun w1 b => qdivI ((r4 - r0) * (r7 - r5) - (r5 - r1) * (r6 - r4)) ((r2 - r0) * (r7 - r5) - (r3 - r1) * (r6 - r4)) (K := ((K + K + 1) + (K + K + 1) + 1 + ((K + K + 1) + (K + K + 1) + 1) + 1)) (by omega) (vq_sub (vq_mul (vq_sub B4 B0) (vq_sub B7 B5)) (vq_mul (vq_sub B5 B1) (vq_sub B6 B4))) (vq_sub (vq_mul (vq_sub B2 B0) (vq_sub B7 B5)) (vq_mul (vq_sub B3 B1) (vq_sub B6 B4))) hN w1 (hT.below b)) (fun w1 b => vscaleI (r2 - r0) (r3 - r1) (((r4 - r0) * (r7 - r5) - (r5 - r1) * (r6 - r4)) / ((r2 - r0) * (r7 - r5) - (r3 - r1) * (r6 - r4))) (K := (((K + K + 1) + (K + K + 1) + 1 + ((K + K + 1) + (K + K + 1) + 1) + 1) + ((K + K + 1) + (K + K + 1) + 1 + ((K + K + 1) + (K + K + 1) + 1) + 1) + 1)) (by omega) (Bq.mono (vq_sub B2 B0) (by omega)) (Bq.mono (vq_sub B3 B1) (by omega)) (vq_div (vq_sub (vq_mul (vq_sub B4 B0) (vq_sub B7 B5)) (vq_mul (vq_sub B5 B1) (vq_sub B6 B4))) (vq_sub (vq_mul (vq_sub B2 B0) (vq_sub B7 B5)) (vq_mul (vq_sub B3 B1) (vq_sub B6 B4)))) w1 (hT.below b)) (fun w1 b => vplusI r0 r1 ((r2 - r0) * (((r4 - r0) * (r7 - r5) - (r5 - r1) * (r6 - r4)) / ((r2 - r0) * (r7 - r5) - (r3 - r1) * (r6 - r4)))) ((r3 - r1) * (((r4 - r0) * (r7 - r5) - (r5 - r1) * (r6 - r4)) / ((r2 - r0) * (r7 - r5) - (r3 - r1) * (r6 - r4)))) (K := ((((K + K + 1) + (K + K + 1) + 1 + ((K + K + 1) + (K + K + 1) + 1) + 1) + ((K + K + 1) + (K + K + 1) + 1 + ((K + K + 1) + (K + K + 1) + 1) + 1) + 1) + (((K + K + 1) + (K + K + 1) + 1 + ((K + K + 1) + (K + K + 1) + 1) + 1) + ((K + K + 1) + (K + K + 1) + 1 + ((K + K + 1) + (K + K + 1) + 1) + 1) + 1) + 1)) (by omega) (Bq.mono B0 (by omega)) (Bq.mono B1 (by omega)) (vq_mul (Bq.mono (vq_sub B2 B0) (by omega)) (vq_div (vq_sub (vq_mul (vq_sub B4 B0) (vq_sub B7 B5)) (vq_mul (vq_sub B5 B1) (vq_sub B6 B4))) (vq_sub (vq_mul (vq_sub B2 B0) (vq_sub B7 B5)) (vq_mul (vq_sub B3 B1) (vq_sub B6 B4))))) (vq_mul (Bq.mono (vq_sub B3 B1) (by omega)) (vq_div (vq_sub (vq_mul (vq_sub B4 B0) (vq_sub B7 B5)) (vq_mul (vq_sub B5 B1) (vq_sub B6 B4))) (vq_sub (vq_mul (vq_sub B2 B0) (vq_sub B7 B5)) (vq_mul (vq_sub B3 B1) (vq_sub B6 B4))))) w1 (hT.below b))
abbrev pq (x y : Rat) : Value := .agg #[.bool (nfZ x.num), .string (sfZ x.num), .string (strOf x.den), .bool (nfZ y.num), .string (sfZ y.num), .string (strOf y.den)]
abbrev rq (x : Rat) : Value := .agg #[.bool (nfZ x.num), .string (sfZ x.num), .string (strOf x.den)]
abbrev Ra (w : World) (v : Value) : Ending → World → Prop := fun e w' => e = .returned v ∧ Below w.heap.size w w'
theorem can_eq {x y : Rat} (h1 : nfZ x.num = nfZ y.num) (h2 : sfZ x.num = sfZ y.num) (h3 : strOf x.den = strOf y.den) : x = y := by
 rw [← qOf_one x, ← qOf_one y, h1, h2, h3]
theorem neI (x0 y0 x1 y1 : Rat) (h : ¬ (x0 = x1 ∧ y0 = y1)) : ∀ w1, (binOp .eql 28 (pq x0 y0) (pq x1 y1)).run Tryz.prog w1 = .ok (.bool false) w1 := fun w1 =>
 run_peq _ _ _ _ _ _ _ _ _ _ _ _ w1 (fun ⟨a, b, c, d, e, f⟩ => h ⟨can_eq a b c, can_eq d e f⟩)
theorem bq_mono {x : Rat} {K M' : Nat} (h : Bq x K) (hK : K ≤ M') : Bq x M' := ⟨h.1.mono hK, h.2.mono hK⟩
theorem vqm_add {a b : Rat} {k j : Nat} (ha : Bq a k) (hb : Bq b j) : Bq (a + b) (k + j + 1) := by
 rw [Rat.add_def']
 exact vq_mk (Nat.mul_pos a.den_pos b.den_pos) ((ha.1.mul hb.2).add ((hb.1.mul ha.2).mono (by omega))) ((vd_cast _ _ ha.2 hb.2).mono (by omega))
theorem eqP (x y : Rat) : ∀ w1, (binOp .eql 28 (pq x y) (pq x y)).run Tryz.prog w1 = .ok (.bool true) w1 := fun w1 => by go_simp
theorem c6 {w : World} {g : Nat} {x y z x' y' z' : Value} {t : TypeId} (h : Cel w g [x, y, z, x', y', z'] t) : xc6 w g x y z x' y' z' := (xk6 h)
theorem Gm.way_x {X Y U : Int} {x y : Rat} (h : Gm.Way X Y U x y) : Rat.divInt X U = x := by
 have hp := Gm.upos h.1
 rw [Rat.divInt_eq_div, h.2.1, Rat.div_def]
 have := Rat.mul_inv_cancel (U : Rat) (by grind)
 grind
theorem bq_divI {X U : Int} {k : Nat} (hU : 0 < U) (hX : Bd X k) (hu : Bd U k) : Bq (Rat.divInt X U) k := by
 obtain ⟨m, rfl⟩ := Int.eq_ofNat_of_zero_le (Int.le_of_lt hU)
 show Bq (mkRat X m) k
 exact vq_mk (by omega) hX hu
theorem bq_wayx {X Y U : Int} {x y : Rat} {k : Nat} (h : Gm.Way X Y U x y) (hX : Bd X k) (hu : Bd U k) : Bq x k := by
 rw [← Gm.way_x h]; exact bq_divI h.1 hX hu
theorem num_den (x : Rat) : (x.num : Rat) = ((x.den : Int) : Rat) * x := by
 have h := Rat.mkRat_self x
 rw [Rat.mkRat_eq_div] at h
 have hd : ((x.den : Nat) : Rat) ≠ 0 := by
  have := x.den_pos
  intro e
  have e' : ((x.den : Nat) : Rat) = ((0 : Nat) : Rat) := e
  rw [Rat.natCast_inj] at e'
  omega
 rw [Rat.div_def] at h
 have k := Rat.mul_inv_cancel _ hd
 rw [Rat.intCast_natCast]
 generalize ((x.den : Nat) : Rat)⁻¹ = i at *
 grind
theorem way_less {x0 y0 x1 y1 : Rat} {K : Nat} (b0 : Bq x0 K) (b1 : Bq y0 K) (b2 : Bq x1 K) (b3 : Bq y1 K) :
  ∃ X Y U : Int, Gm.Way X Y U (x1 - x0) (y1 - y0) ∧ Bd X (K + K + 1 + (K + K)) ∧ Bd Y (K + K + 1 + (K + K)) ∧ Bd U (K + K + (K + K)) := by
 refine ⟨(x1.num * x0.den - x0.num * x1.den) * (y0.den * y1.den), (y1.num * y0.den - y0.num * y1.den) * (x0.den * x1.den), (x0.den * x1.den) * (y0.den * y1.den), ⟨?_, ?_, ?_⟩, ?_, ?_, ?_⟩
 ·have a := x0.den_pos; have b := x1.den_pos; have c := y0.den_pos; have d := y1.den_pos
  exact Int.mul_pos (Int.mul_pos (by omega) (by omega)) (Int.mul_pos (by omega) (by omega))
 ·have e0 := num_den x0; have e1 := num_den x1
  push_cast
  rw [e0, e1]
  push_cast
  grind
 ·have e0 := num_den y0; have e1 := num_den y1
  push_cast
  rw [e0, e1]
  push_cast
  grind
 ·exact ((b2.1.mul b0.2).sub (b0.1.mul b2.2)).mul (b1.2.mul b3.2)
 ·exact ((b3.1.mul b1.2).sub (b1.1.mul b3.2)).mul (b0.2.mul b2.2)
 ·exact (b0.2.mul b2.2).mul (b1.2.mul b3.2)
theorem agree5_l (n0 n1 n2 n3 n4 n5 n6 n7 : Bool) (s0 d0 s1 d1 s2 d2 s3 d3 s4 d4 s5 d5 s6 d6 s7 d7 : ByteArray) (w : World)
  (HS : Hid (∀ w1, Calls Tryz.prog 8 #[.agg #[.bool n0, .string s0, .string d0, .bool n1, .string s1, .string d1, .bool n2, .string s2, .string d2, .bool n3, .string s3, .string d3, .bool n4, .string s4, .string d4, .bool n5, .string s5, .string d5, .bool n6, .string s6, .string d6, .bool n7, .string s7, .string d7]] w1 (Re w1 (.bool false))))
  (HL : Hid (∀ w1, Below w.heap.size w w1 → Calls Tryz.prog 10 #[] w1 (Re w1 (.bool true)))) :
  Calls Tryz.prog 3 #[.agg #[.bool n0, .string s0, .string d0, .bool n1, .string s1, .string d1, .bool n2, .string s2, .string d2, .bool n3, .string s3, .string d3, .bool n4, .string s4, .string d4, .bool n5, .string s5, .string d5, .bool n6, .string s6, .string d6, .bool n7, .string s7, .string d7]] w (Re w (.bool true)) := by
 go_enter Tryz.func3, Tryz.ntmps3
 go_wp2_with (first | (refine wpList_load_row rfl 30 _ rfl w.heap.size rfl 30 _ (0, 0) _ (heap_alloc_new w _) Tryz.underlying30 rfl (by kernel_rfl) ?_) | fail)
 go_wp2_with fail
 go_fit (HS.out _)
 rintro e w1 ⟨rfl, b1⟩
 obtain ⟨k, bb⟩ := al1 b1
 clear b1
 go_wp2_with fail
 go_fit (HL.out _ bb)
 rintro e w2 ⟨rfl, b1⟩
 replace k := k.below b1
 replace bb := Below.after bb b1
 clear b1
 go_wp2
 go_ret
 exact ⟨rfl, bb⟩
theorem agree5_a (n0 n1 n2 n3 n4 n5 n6 n7 : Bool) (s0 d0 s1 d1 s2 d2 s3 d3 s4 d4 s5 d5 s6 d6 s7 d7 : ByteArray) (E : Int) (w : World) (hE : ¬ E = 0)
  (HS : Hid (∀ w1, Calls Tryz.prog 8 #[.agg #[.bool n0, .string s0, .string d0, .bool n1, .string s1, .string d1, .bool n2, .string s2, .string d2, .bool n3, .string s3, .string d3, .bool n4, .string s4, .string d4, .bool n5, .string s5, .string d5, .bool n6, .string s6, .string d6, .bool n7, .string s7, .string d7]] w1 (Re w1 (.bool true))))
  (HL : Hid (∀ w1, Below w.heap.size w w1 → Calls Tryz.prog 10 #[] w1 (Re w1 (.bool true))))
  (HA : Hid (∀ (w1 : World) (B : Nat), Below w.heap.size w w1 → Cel w1 B [.bool n0, .string s0, .string d0, .bool n1, .string s1, .string d1, .bool n2, .string s2, .string d2, .bool n3, .string s3, .string d3, .bool n4, .string s4, .string d4, .bool n5, .string s5, .string d5, .bool n6, .string s6, .string d6, .bool n7, .string s7, .string d7] 28 → Calls Tryz.prog 9 #[.slice (some ⟨B, 0, none⟩) 4 4] w1 (Re w1 (.int .i64 (E))))) :
  Calls Tryz.prog 3 #[.agg #[.bool n0, .string s0, .string d0, .bool n1, .string s1, .string d1, .bool n2, .string s2, .string d2, .bool n3, .string s3, .string d3, .bool n4, .string s4, .string d4, .bool n5, .string s5, .string d5, .bool n6, .string s6, .string d6, .bool n7, .string s7, .string d7]] w (Re w (.bool true)) := by
 go_enter Tryz.func3, Tryz.ntmps3
 go_wp2_with (first | (refine wpList_load_row rfl 30 _ rfl w.heap.size rfl 30 _ (0, 0) _ (heap_alloc_new w _) Tryz.underlying30 rfl (by kernel_rfl) ?_) | fail)
 go_wp2_with fail
 go_fit (HS.out _)
 rintro e w1 ⟨rfl, b1⟩
 obtain ⟨k, bb⟩ := al1 b1
 clear b1
 obtain ⟨c0, c1, c2, c3, c4, c5, c6, c7, c8, c9, c10, c11, c12, c13, c14, c15, c16, c17, c18, c19, c20, c21, c22, c23⟩ := c24 k
 go_wp2_with fail
 obtain ⟨w2, hw, kl, b1⟩ := mk1 w1 [.bool n0, .string s0, .string d0, .bool n1, .string s1, .string d1, .bool n2, .string s2, .string d2, .bool n3, .string s3, .string d3, .bool n4, .string s4, .string d4, .bool n5, .string s5, .string d5, .bool n6, .string s6, .string d6, .bool n7, .string s7, .string d7] 28
 rw [← hw]
 clear hw
 replace k := k.below b1
 replace bb := Below.after bb b1
 clear b1
 clear c0 c1 c2 c3 c4 c5 c6 c7 c8 c9 c10 c11 c12 c13 c14 c15 c16 c17 c18 c19 c20 c21 c22 c23
 go_fit (HA.out _ _ bb kl)
 rintro e w3 ⟨rfl, b1⟩
 replace k := k.below b1
 replace bb := Below.after bb b1
 clear b1 kl
 go_wp2_with fail
 go_fit (HL.out _ bb)
 rintro e w4 ⟨rfl, b1⟩
 replace k := k.below b1
 replace bb := Below.after bb b1
 clear b1
 go_wp2
 go_ret
 exact ⟨rfl, bb⟩
theorem agree5_ok (n0 n1 n2 n3 n4 n5 n6 n7 : Bool) (s0 d0 s1 d1 s2 d2 s3 d3 s4 d4 s5 d5 s6 d6 s7 d7 : ByteArray) (iN jN : Bool) (iS iD jS jD : ByteArray) (W E c m d : Int) (on u v : Bool) (w : World) (hE : E = 6 ∨ (E = 0 ∧ W = 1 ∧ c = 1) ∨ (E = 0 ∧ W = 0 ∧ decide (c < 0) = false) ∨ (E = 0 ∧ W = -1)) (hO : on = false ∨ (on = true ∧ d = 1) ∨ (on = true ∧ d = 0 ∧ (u = true ∨ v = true)))
  (HS : Hid (∀ w1, Calls Tryz.prog 8 #[.agg #[.bool n0, .string s0, .string d0, .bool n1, .string s1, .string d1, .bool n2, .string s2, .string d2, .bool n3, .string s3, .string d3, .bool n4, .string s4, .string d4, .bool n5, .string s5, .string d5, .bool n6, .string s6, .string d6, .bool n7, .string s7, .string d7]] w1 (Re w1 (.bool true))))
  (HL : Hid (∀ w1, Below w.heap.size w w1 → Calls Tryz.prog 10 #[] w1 (Re w1 (.bool true))))
  (HA : Hid (∀ (w1 : World) (B : Nat), Below w.heap.size w w1 → Cel w1 B [.bool n0, .string s0, .string d0, .bool n1, .string s1, .string d1, .bool n2, .string s2, .string d2, .bool n3, .string s3, .string d3, .bool n4, .string s4, .string d4, .bool n5, .string s5, .string d5, .bool n6, .string s6, .string d6, .bool n7, .string s7, .string d7] 28 → Calls Tryz.prog 9 #[.slice (some ⟨B, 0, none⟩) 4 4] w1 (Re w1 (.int .i64 (0)))))
  (W1 : Hid (∀ w1, Below w.heap.size w w1 → Calls Tryz.prog 11 #[.agg #[.bool n0, .string s0, .string d0, .bool n1, .string s1, .string d1], .agg #[.bool n2, .string s2, .string d2, .bool n3, .string s3, .string d3], .agg #[.bool n4, .string s4, .string d4, .bool n5, .string s5, .string d5], .agg #[.bool n6, .string s6, .string d6, .bool n7, .string s7, .string d7]] w1 (Re w1 (.tuple #[.int .i64 (W), .int .i64 (E)]))))
  (C1 : Hid (∀ w1, Below w.heap.size w w1 → Calls Tryz.prog 12 #[.agg #[.bool n0, .string s0, .string d0, .bool n1, .string s1, .string d1], .agg #[.bool n2, .string s2, .string d2, .bool n3, .string s3, .string d3], .agg #[.bool n4, .string s4, .string d4, .bool n5, .string s5, .string d5], .agg #[.bool n6, .string s6, .string d6, .bool n7, .string s7, .string d7]] w1 (Re w1 (.tuple #[.int .i64 (c), .int .i64 (E)]))))
  (MT : Hid (∀ w1, Below w.heap.size w w1 → Calls Tryz.prog 13 #[.agg #[.bool n0, .string s0, .string d0, .bool n1, .string s1, .string d1], .agg #[.bool n2, .string s2, .string d2, .bool n3, .string s3, .string d3], .agg #[.bool n4, .string s4, .string d4, .bool n5, .string s5, .string d5], .agg #[.bool n6, .string s6, .string d6, .bool n7, .string s7, .string d7]] w1 (Re w1 (.tuple #[.int .i64 (m), .int .i64 (0)]))))
  (CX : m = 1 → Hid (∀ w1, Below w.heap.size w w1 → Calls Tryz.prog 14 #[.agg #[.bool n0, .string s0, .string d0, .bool n1, .string s1, .string d1], .agg #[.bool n2, .string s2, .string d2, .bool n3, .string s3, .string d3], .agg #[.bool n4, .string s4, .string d4, .bool n5, .string s5, .string d5], .agg #[.bool n6, .string s6, .string d6, .bool n7, .string s7, .string d7]] w1 (Re w1 (.tuple #[.agg #[.bool iN, .string iS, .string iD, .bool jN, .string jS, .string jD], .int .i64 (0)]))))
  (O1 : m = 1 → Hid (∀ w1, Below w.heap.size w w1 → Calls Tryz.prog 15 #[.agg #[.bool n0, .string s0, .string d0, .bool n1, .string s1, .string d1], .agg #[.bool n2, .string s2, .string d2, .bool n3, .string s3, .string d3], .agg #[.bool iN, .string iS, .string iD, .bool jN, .string jS, .string jD]] w1 (Re w1 (.bool true))))
  (O2 : m = 1 → Hid (∀ w1, Below w.heap.size w w1 → Calls Tryz.prog 15 #[.agg #[.bool n4, .string s4, .string d4, .bool n5, .string s5, .string d5], .agg #[.bool n6, .string s6, .string d6, .bool n7, .string s7, .string d7], .agg #[.bool iN, .string iS, .string iD, .bool jN, .string jS, .string jD]] w1 (Re w1 (.bool true))))
  (N1 : Hid (∀ w1, Below w.heap.size w w1 → Calls Tryz.prog 16 #[.agg #[.bool n0, .string s0, .string d0, .bool n1, .string s1, .string d1], .agg #[.bool n2, .string s2, .string d2, .bool n3, .string s3, .string d3], .agg #[.bool n6, .string s6, .string d6, .bool n7, .string s7, .string d7]] w1 (Re w1 (.tuple #[.bool on, .int .i64 0]))))
  (D1 : Hid (∀ w1, Below w.heap.size w w1 → Calls Tryz.prog 17 #[.agg #[.bool n0, .string s0, .string d0, .bool n1, .string s1, .string d1], .agg #[.bool n2, .string s2, .string d2, .bool n3, .string s3, .string d3], .agg #[.bool n6, .string s6, .string d6, .bool n7, .string s7, .string d7]] w1 (Re w1 (.tuple #[.int .i64 (d), .int .i64 (0)]))))
  (Q1 : ∀ w1, (binOp .eql 28 (.agg #[.bool n6, .string s6, .string d6, .bool n7, .string s7, .string d7]) (.agg #[.bool n0, .string s0, .string d0, .bool n1, .string s1, .string d1])).run Tryz.prog w1 = .ok (.bool u) w1)
  (Q2 : ∀ w1, (binOp .eql 28 (.agg #[.bool n6, .string s6, .string d6, .bool n7, .string s7, .string d7]) (.agg #[.bool n2, .string s2, .string d2, .bool n3, .string s3, .string d3])).run Tryz.prog w1 = .ok (.bool v) w1) :
  Calls Tryz.prog 3 #[.agg #[.bool n0, .string s0, .string d0, .bool n1, .string s1, .string d1, .bool n2, .string s2, .string d2, .bool n3, .string s3, .string d3, .bool n4, .string s4, .string d4, .bool n5, .string s5, .string d5, .bool n6, .string s6, .string d6, .bool n7, .string s7, .string d7]] w (Re w (.bool true)) := by
 go_enter Tryz.func3, Tryz.ntmps3
 go_wp2_with (first | (refine wpList_load_row rfl 30 _ rfl w.heap.size rfl 30 _ (0, 0) _ (heap_alloc_new w _) Tryz.underlying30 rfl (by kernel_rfl) ?_) | fail)
 go_wp2_with fail
 go_fit (HS.out _)
 rintro e w1 ⟨rfl, b1⟩
 obtain ⟨k, bb⟩ := al1 b1
 clear b1
 obtain ⟨c0, c1, c2, c3, c4, c5, c6, c7, c8, c9, c10, c11, c12, c13, c14, c15, c16, c17, c18, c19, c20, c21, c22, c23⟩ := c24 k
 go_wp2_with fail
 obtain ⟨w2, hw, kl, b1⟩ := mk1 w1 [.bool n0, .string s0, .string d0, .bool n1, .string s1, .string d1, .bool n2, .string s2, .string d2, .bool n3, .string s3, .string d3, .bool n4, .string s4, .string d4, .bool n5, .string s5, .string d5, .bool n6, .string s6, .string d6, .bool n7, .string s7, .string d7] 28
 rw [← hw]
 clear hw
 replace k := k.below b1
 replace bb := Below.after bb b1
 clear b1
 clear c0 c1 c2 c3 c4 c5 c6 c7 c8 c9 c10 c11 c12 c13 c14 c15 c16 c17 c18 c19 c20 c21 c22 c23
 go_fit (HA.out _ _ bb kl)
 rintro e w3 ⟨rfl, b1⟩
 replace k := k.below b1
 replace bb := Below.after bb b1
 clear b1 kl
 obtain ⟨c0, c1, c2, c3, c4, c5, c6, c7, c8, c9, c10, c11, c12, c13, c14, c15, c16, c17, c18, c19, c20, c21, c22, c23⟩ := c24 k
 go_wp2_with fail
 go_fit (W1.out _ bb)
 rintro e w4 ⟨rfl, b1⟩
 replace k := k.below b1
 replace bb := Below.after bb b1
 clear b1
 clear c0 c1 c2 c3 c4 c5 c6 c7 c8 c9 c10 c11 c12 c13 c14 c15 c16 c17 c18 c19 c20 c21 c22 c23
 obtain ⟨c0, c1, c2, c3, c4, c5, c6, c7, c8, c9, c10, c11, c12, c13, c14, c15, c16, c17, c18, c19, c20, c21, c22, c23⟩ := c24 k
 go_wp2_with fail
 go_fit (C1.out _ bb)
 rintro e w5 ⟨rfl, b1⟩
 replace k := k.below b1
 replace bb := Below.after bb b1
 clear b1
 clear c0 c1 c2 c3 c4 c5 c6 c7 c8 c9 c10 c11 c12 c13 c14 c15 c16 c17 c18 c19 c20 c21 c22 c23
 clear HS HA W1 C1
 go_upto_region 5 with fail
 go_cut [79] from 57 to 78 (fun v wx => v = .bool false ∧ Cel wx w.heap.size [.bool n0, .string s0, .string d0, .bool n1, .string s1, .string d1, .bool n2, .string s2, .string d2, .bool n3, .string s3, .string d3, .bool n4, .string s4, .string d4, .bool n5, .string s5, .string d5, .bool n6, .string s6, .string d6, .bool n7, .string s7, .string d7] 30 ∧ Below w.heap.size w wx)
 case first =>
  clear HL MT CX O1 O2 N1 D1 Q1 Q2 hO
  rcases hE with rfl | ⟨rfl, rfl, rfl⟩ | ⟨rfl, rfl, h⟩ | ⟨rfl, rfl⟩
  all_goals
   go_wp2_with fail
   go_meet
   exact ⟨rfl, k, bb⟩
 case rest =>
 obtain ⟨rfl, k, bb⟩ := hcut
 clear hE
 obtain ⟨c0, c1, c2, c3, c4, c5, c6, c7, c8, c9, c10, c11, c12, c13, c14, c15, c16, c17, c18, c19, c20, c21, c22, c23⟩ := c24 k
 go_wp2_with fail
 go_fit (MT.out _ bb)
 rintro e w6 ⟨rfl, b1⟩
 replace k := k.below b1
 replace bb := Below.after bb b1
 clear b1
 clear c0 c1 c2 c3 c4 c5 c6 c7 c8 c9 c10 c11 c12 c13 c14 c15 c16 c17 c18 c19 c20 c21 c22 c23
 go_upto_if 95 with fail
 go_cut [9, 10] from 94 to 127 (fun v u wx => Cel wx w.heap.size [.bool n0, .string s0, .string d0, .bool n1, .string s1, .string d1, .bool n2, .string s2, .string d2, .bool n3, .string s3, .string d3, .bool n4, .string s4, .string d4, .bool n5, .string s5, .string d5, .bool n6, .string s6, .string d6, .bool n7, .string s7, .string d7] 30 ∧ Below w.heap.size w wx)
 case first =>
  clear HL MT N1 D1 Q1 Q2 hO
  by_cases hm : m = 1
  ·subst hm
   replace CX := CX rfl
   replace O1 := O1 rfl
   replace O2 := O2 rfl
   obtain ⟨c0, c1, c2, c3, c4, c5, c6, c7, c8, c9, c10, c11, c12, c13, c14, c15, c16, c17, c18, c19, c20, c21, c22, c23⟩ := c24 k
   go_wp2_with fail
   clear c0 c1 c2 c3 c4 c5 c6 c7 c8 c9 c10 c11 c12 c13 c14 c15 c16 c17 c18 c19 c20 c21 c22 c23
   go_fit (CX.out _ bb)
   rintro e w7 ⟨rfl, b1⟩
   replace k := k.below b1
   replace bb := Below.after bb b1
   clear b1
   obtain ⟨c0, c1, c2, c3, c4, c5, c6, c7, c8, c9, c10, c11, c12, c13, c14, c15, c16, c17, c18, c19, c20, c21, c22, c23⟩ := c24 (k.alloc (.cells #[.bool iN, .string iS, .string iD, .bool jN, .string jS, .string jD] 28))
   obtain ⟨p0, p1, p2, p3, p4, p5⟩ := xk6 (Cel.new w7 [.bool iN, .string iS, .string iD, .bool jN, .string jS, .string jD] 28)
   go_wp2_with fail
   clear c0 c1 c2 c3 c4 c5 c6 c7 c8 c9 c10 c11 c12 c13 c14 c15 c16 c17 c18 c19 c20 c21 c22 c23
   clear p0 p1 p2 p3 p4 p5
   go_fit (O1.out _ (ba bb _))
   rintro e w8 ⟨rfl, b1⟩
   obtain ⟨kp, b1⟩ := al1 b1
   replace k := k.below b1
   replace bb := Below.after bb b1
   clear b1
   obtain ⟨c0, c1, c2, c3, c4, c5, c6, c7, c8, c9, c10, c11, c12, c13, c14, c15, c16, c17, c18, c19, c20, c21, c22, c23⟩ := c24 k
   obtain ⟨p0, p1, p2, p3, p4, p5⟩ := xk6 kp
   go_wp2_with fail
   clear c0 c1 c2 c3 c4 c5 c6 c7 c8 c9 c10 c11 c12 c13 c14 c15 c16 c17 c18 c19 c20 c21 c22 c23
   clear p0 p1 p2 p3 p4 p5
   go_fit (O2.out _ bb)
   rintro e w9 ⟨rfl, b1⟩
   replace k := k.below b1
   replace kp := kp.below b1
   replace bb := Below.after bb b1
   clear b1
   go_wp2_with fail
   go_meet
   exact ⟨k, bb⟩
  ·have hm2 : (m == 1) = false := beq_eq_false_iff_ne.2 hm
   clear hm
   go_wp2_with fail
   go_meet
   exact ⟨k, bb⟩
 case rest =>
 obtain ⟨k, bb⟩ := hcut
 clear MT CX O1 O2
 obtain ⟨c0, c1, c2, c3, c4, c5, c6, c7, c8, c9, c10, c11, c12, c13, c14, c15, c16, c17, c18, c19, c20, c21, c22, c23⟩ := c24 k
 go_wp2_with fail
 go_fit (N1.out _ bb)
 rintro e w10 ⟨rfl, b1⟩
 replace k := k.below b1
 replace bb := Below.after bb b1
 clear b1
 clear c0 c1 c2 c3 c4 c5 c6 c7 c8 c9 c10 c11 c12 c13 c14 c15 c16 c17 c18 c19 c20 c21 c22 c23
 obtain ⟨c0, c1, c2, c3, c4, c5, c6, c7, c8, c9, c10, c11, c12, c13, c14, c15, c16, c17, c18, c19, c20, c21, c22, c23⟩ := c24 k
 go_wp2_with fail
 go_fit (D1.out _ bb)
 rintro e w11 ⟨rfl, b1⟩
 replace k := k.below b1
 replace bb := Below.after bb b1
 clear b1
 clear c0 c1 c2 c3 c4 c5 c6 c7 c8 c9 c10 c11 c12 c13 c14 c15 c16 c17 c18 c19 c20 c21 c22 c23
 clear N1 D1
 go_upto_region 16 with fail
 go_cut [15] from 148 to 159 (fun x wx => x = .bool (u || v) ∧ Cel wx w.heap.size [.bool n0, .string s0, .string d0, .bool n1, .string s1, .string d1, .bool n2, .string s2, .string d2, .bool n3, .string s3, .string d3, .bool n4, .string s4, .string d4, .bool n5, .string s5, .string d5, .bool n6, .string s6, .string d6, .bool n7, .string s7, .string d7] 30 ∧ Below w.heap.size w wx)
 case first =>
  clear HL hO
  obtain ⟨c0, c1, c2, c3, c4, c5, c6, c7, c8, c9, c10, c11, c12, c13, c14, c15, c16, c17, c18, c19, c20, c21, c22, c23⟩ := c24 k
  cases u
  all_goals
   go_wp2_with fail
   go_meet
   exact ⟨rfl, k, bb⟩
 case rest =>
 obtain ⟨rfl, k, bb⟩ := hcut
 clear Q1 Q2
 obtain ⟨z, hz⟩ : ∃ z, z = (u || v) := ⟨_, rfl⟩
 rw [← hz]
 replace hO : on = false ∨ (on = true ∧ d = 1) ∨ (on = true ∧ d = 0 ∧ z = true) := by
  rcases hO with h | h | ⟨h, h', h''⟩
  ·exact .inl h
  ·exact .inr (.inl h)
  ·refine .inr (.inr ⟨h, h', ?_⟩)
   rw [hz]
   rcases h'' with h | h <;> simp [h]
 clear hz
 rcases hO with rfl | ⟨rfl, rfl⟩ | ⟨rfl, rfl, rfl⟩
 all_goals
  go_wp2_with fail
  go_fit (HL.out _ bb)
  rintro e wz ⟨rfl, b1⟩
  replace bb := Below.after bb b1
  go_wp2
  go_ret
  exact ⟨rfl, bb⟩
theorem rorientJ (x0 y0 x1 y1 x2 y2 : Rat) {K : Nat} (hK : K ≤ 900) (b0 : Bq x0 K) (e0 : Bq y0 K) (b1 : Bq x1 K) (e1 : Bq y1 K) (b2 : Bq x2 K) (e2 : Bq y2 K) (w : World) : Calls Tryz.prog 26 #[.agg #[.bool (nfZ (x0).num), .string (sfZ (x0).num), .string (strOf (x0).den), .bool (nfZ (y0).num), .string (sfZ (y0).num), .string (strOf (y0).den)], .agg #[.bool (nfZ (x1).num), .string (sfZ (x1).num), .string (strOf (x1).den), .bool (nfZ (y1).num), .string (sfZ (y1).num), .string (strOf (y1).den)], .agg #[.bool (nfZ (x2).num), .string (sfZ (x2).num), .string (strOf (x2).den), .bool (nfZ (y2).num), .string (sfZ (y2).num), .string (strOf (y2).den)]] w (Re w (.int .i64 (Gm.sg (Gm.cr x0 y0 x1 y1 x2 y2)))) :=
 rorient_walk _ _ _ _ _ _ _ _ _ _ _ _ _ _ _ _ _ _ _ _ _ _ _ _ _ _ _ _ _ _ _ _ _ _ w (fun w1 => rminusP x1 y1 x0 y0 (K := K) (by omega) b1 e1 b0 e0 w1) (fun w1 => rminusP x2 y2 x0 y0 (K := K) (by omega) b2 e2 b0 e0 w1) (fun w1 => rcrossP (x1 - x0) (y1 - y0) (x2 - x0) (y2 - y0) (K := (K + K + 1)) (by omega) (vq_sub b1 b0) (vq_sub e1 e0) (vq_sub b2 b0) (vq_sub e2 e0) w1) (fun w1 => rsignI _ w1)
theorem rdiscJ (x0 y0 x1 y1 x2 y2 : Rat) {K : Nat} (hK : K ≤ 900) (b0 : Bq x0 K) (e0 : Bq y0 K) (b1 : Bq x1 K) (e1 : Bq y1 K) (b2 : Bq x2 K) (e2 : Bq y2 K) (w : World) : Calls Tryz.prog 54 #[.agg #[.bool (nfZ (x0).num), .string (sfZ (x0).num), .string (strOf (x0).den), .bool (nfZ (y0).num), .string (sfZ (y0).num), .string (strOf (y0).den)], .agg #[.bool (nfZ (x1).num), .string (sfZ (x1).num), .string (strOf (x1).den), .bool (nfZ (y1).num), .string (sfZ (y1).num), .string (strOf (y1).den)], .agg #[.bool (nfZ (x2).num), .string (sfZ (x2).num), .string (strOf (x2).den), .bool (nfZ (y2).num), .string (sfZ (y2).num), .string (strOf (y2).den)]] w (Re w (.int .i64 (-(Gm.sg (Gm.dt x0 y0 x1 y1 x2 y2))))) :=
 rdisc_walk _ _ _ _ _ _ _ _ _ _ _ _ _ _ _ _ _ _ _ _ _ _ _ _ _ _ _ _ _ _ _ _ _ _ w (sg_wneg _) (fun w1 => rminusP x0 y0 x2 y2 (K := K) (by omega) b0 e0 b2 e2 w1) (fun w1 => rminusP x1 y1 x2 y2 (K := K) (by omega) b1 e1 b2 e2 w1) (fun w1 => rdotP (x0 - x2) (y0 - y2) (x1 - x2) (y1 - y2) (K := (K + K + 1)) (by omega) (vq_sub b0 b2) (vq_sub e0 e2) (vq_sub b1 b2) (vq_sub e1 e2) w1) (fun w1 => rsignI _ w1)
theorem ronJ (x0 y0 x1 y1 x2 y2 : Rat) {K : Nat} (hK : K ≤ 900) (b0 : Bq x0 K) (e0 : Bq y0 K) (b1 : Bq x1 K) (e1 : Bq y1 K) (b2 : Bq x2 K) (e2 : Bq y2 K) (w : World) : Calls Tryz.prog 15 #[.agg #[.bool (nfZ (x0).num), .string (sfZ (x0).num), .string (strOf (x0).den), .bool (nfZ (y0).num), .string (sfZ (y0).num), .string (strOf (y0).den)], .agg #[.bool (nfZ (x1).num), .string (sfZ (x1).num), .string (strOf (x1).den), .bool (nfZ (y1).num), .string (sfZ (y1).num), .string (strOf (y1).den)], .agg #[.bool (nfZ (x2).num), .string (sfZ (x2).num), .string (strOf (x2).den), .bool (nfZ (y2).num), .string (sfZ (y2).num), .string (strOf (y2).den)]] w (Re w (.bool (onB (Gm.cr x0 y0 x1 y1 x2 y2) (Gm.dt x0 y0 x1 y1 x2 y2)))) := by
 unfold onB
 by_cases h0 : Gm.sg (Gm.cr x0 y0 x1 y1 x2 y2) = 0
 ·rw [decide_eq_true h0, Bool.true_and]
  exact ron_in _ _ _ _ _ _ _ _ _ _ _ _ _ _ _ _ _ _ _ _ w h0 (fun w1 => rorientJ x0 y0 x1 y1 x2 y2 hK b0 e0 b1 e1 b2 e2 w1) (fun w1 => rdiscJ x0 y0 x1 y1 x2 y2 hK b0 e0 b1 e1 b2 e2 w1)
 ·rw [decide_eq_false h0, Bool.false_and]
  exact ron_off _ _ _ _ _ _ _ _ _ _ _ _ _ _ _ _ _ _ _ w h0 (fun w1 => rorientJ x0 y0 x1 y1 x2 y2 hK b0 e0 b1 e1 b2 e2 w1)
theorem bq_ratio {X U : Int} {x : Rat} {k : Nat} (hU : U ≠ 0) (h : (X : Rat) = (U : Rat) * x) (bX : Bd X k) (bU : Bd U k) : Bq x k := by
 rcases Int.lt_or_gt_of_ne hU with q | q
 ·have W : Gm.Way (-X) 0 (-U) x 0 := ⟨by omega, by push_cast; rw [h]; grind, by grind⟩
  exact bq_wayx W bX.neg bU.neg
 ·have W : Gm.Way X 0 U x 0 := ⟨q, h, by grind⟩
  exact bq_wayx W bX bU
theorem cross_bq {x0 y0 x1 y1 x2 y2 x3 y3 : Rat} {K : Nat} (b0 : Bq x0 K) (b1 : Bq y0 K) (b2 : Bq x1 K) (b3 : Bq y1 K) (b4 : Bq x2 K) (b5 : Bq y2 K) (b6 : Bq x3 K) (b7 : Bq y3 K) (h : ¬ (x1 - x0) * (y3 - y2) - (y1 - y0) * (x3 - x2) = 0) :
  Bq ((x1 - x0) * (((x2 - x0) * (y3 - y2) - (y2 - y0) * (x3 - x2)) / ((x1 - x0) * (y3 - y2) - (y1 - y0) * (x3 - x2)))) (12 * K + 4) ∧ Bq ((y1 - y0) * (((x2 - x0) * (y3 - y2) - (y2 - y0) * (x3 - x2)) / ((x1 - x0) * (y3 - y2) - (y1 - y0) * (x3 - x2)))) (12 * K + 4) := by
 obtain ⟨A, B, W, w1, p1, p2, p3⟩ := way_less b0 b1 b2 b3
 obtain ⟨C, D, V, w2, q1, q2, q3⟩ := way_less b4 b5 b6 b7
 obtain ⟨E, F, Z, w3, r1, r2, r3⟩ := way_less b0 b1 b4 b5
 have hp1 := Gm.upos w1.1
 have hp2 := Gm.upos w2.1
 have hp3 := Gm.upos w3.1
 obtain ⟨-, eA, eB⟩ := w1
 obtain ⟨-, eC, eD⟩ := w2
 obtain ⟨zZ, eE, eF⟩ := w3
 have hr := Rat.mul_inv_cancel _ h
 rw [Rat.div_def]
 have bM := (r1.mul q2).sub (r2.mul q1)
 have bN := r3.mul ((p1.mul q2).sub (p2.mul q1))
 have hU : Z * (A * D - B * C) ≠ 0 := by
  intro e
  have e2 : ((Z * (A * D - B * C) : Int) : Rat) = 0 := by rw [e]; rfl
  push_cast at e2
  rw [eA, eB, eC, eD] at e2
  have e3 : (Z : Rat) * ((W : Rat) * (V : Rat)) * ((x1 - x0) * (y3 - y2) - (y1 - y0) * (x3 - x2)) = 0 := by grind
  rcases Rat.mul_eq_zero.1 e3 with g | g
  ·have := Rat.mul_pos hp3 (Rat.mul_pos hp1 hp2)
   rw [g] at this
   exact absurd this (by decide)
  ·exact h g
 generalize ((x1 - x0) * (y3 - y2) - (y1 - y0) * (x3 - x2))⁻¹ = i at *
 constructor
 ·refine bq_ratio (X := (E * D - F * C) * A) hU ?_ ((bM.mul p1).mono (by omega)) (bN.mono (by omega))
  push_cast
  rw [eA, eB, eC, eD, eE, eF]
  grind
 ·refine bq_ratio (X := (E * D - F * C) * B) hU ?_ ((bM.mul p2).mono (by omega)) (bN.mono (by omega))
  push_cast
  rw [eA, eB, eC, eD, eE, eF]
  grind
theorem mn3_cases {x y z : Int} : mn3 x y z ≤ x ∧ mn3 x y z ≤ y ∧ mn3 x y z ≤ z ∧ (mn3 x y z = x ∨ mn3 x y z = y ∨ mn3 x y z = z) := by
 unfold mn3
 split <;> split <;> omega
theorem sg2 (a b : Rat) : Gm.sg a * Gm.sg b = 0 ∨ Gm.sg a * Gm.sg b = 1 ∨ Gm.sg a * Gm.sg b = -1 := by
 rcases sg_small a with h | h | h <;> rcases sg_small b with h' | h' | h' <;> rw [h, h'] <;> simp
theorem on_part {ux uy t : Rat} (h : 0 ≤ t * (1 - t)) {a b : Rat} : onB (Gm.cr a b (a + ux) (b + uy) (a + ux * t) (b + uy * t)) (Gm.dt a b (a + ux) (b + uy) (a + ux * t) (b + uy * t)) = true := by
 have e1 : Gm.cr a b (a + ux) (b + uy) (a + ux * t) (b + uy * t) = 0 := by unfold Gm.cr; grind
 have e2 : Gm.dt a b (a + ux) (b + uy) (a + ux * t) (b + uy * t) = -((t * (1 - t)) * (ux * ux + uy * uy)) := by unfold Gm.dt; grind
 have e3 := Rat.mul_nonneg h (Gm.norm_nonneg ux uy)
 unfold onB
 rw [e1, e2, Gm.sg_minus, Int.neg_neg]
 have := Gm.sg_nn.2 e3
 simp [Gm.sg_zero, this]
theorem eqPI (x y x' y' : Rat) {b : Bool} (h : decide (x = x' ∧ y = y') = b) : ∀ w1, (binOp .eql 28 (pq x y) (pq x' y')).run Tryz.prog w1 = .ok (.bool b) w1 := by
 by_cases e : x = x' ∧ y = y'
 ·obtain ⟨rfl, rfl⟩ := e
  rw [decide_eq_true ⟨rfl, rfl⟩] at h
  subst h
  exact eqP x y
 ·rw [decide_eq_false e] at h
  subst h
  exact neI x y x' y' e
theorem agree_in (r0 r1 r2 r3 r4 r5 r6 r7 : Rat) (h0 : ¬ Gm.sg (Gm.cr r0 r1 r2 r3 r4 r5) = 0) : ((mn3 (Gm.sg (Gm.cr r0 r1 r2 r3 r4 r5) * Gm.sg (Gm.cr r0 r1 r2 r3 r6 r7)) (Gm.sg (Gm.cr r0 r1 r2 r3 r4 r5) * Gm.sg (Gm.cr r2 r3 r4 r5 r6 r7)) (Gm.sg (Gm.cr r0 r1 r2 r3 r4 r5) * Gm.sg (Gm.cr r4 r5 r0 r1 r6 r7))) = 1 ∧ (Gm.sg (Gm.cr r0 r1 r2 r3 r4 r5) * Gm.sg (Gm.ci r0 r1 r2 r3 r4 r5 r6 r7)) = 1) ∨ ((mn3 (Gm.sg (Gm.cr r0 r1 r2 r3 r4 r5) * Gm.sg (Gm.cr r0 r1 r2 r3 r6 r7)) (Gm.sg (Gm.cr r0 r1 r2 r3 r4 r5) * Gm.sg (Gm.cr r2 r3 r4 r5 r6 r7)) (Gm.sg (Gm.cr r0 r1 r2 r3 r4 r5) * Gm.sg (Gm.cr r4 r5 r0 r1 r6 r7))) = 0 ∧ 0 ≤ (Gm.sg (Gm.cr r0 r1 r2 r3 r4 r5) * Gm.sg (Gm.ci r0 r1 r2 r3 r4 r5 r6 r7))) ∨ (mn3 (Gm.sg (Gm.cr r0 r1 r2 r3 r4 r5) * Gm.sg (Gm.cr r0 r1 r2 r3 r6 r7)) (Gm.sg (Gm.cr r0 r1 r2 r3 r4 r5) * Gm.sg (Gm.cr r2 r3 r4 r5 r6 r7)) (Gm.sg (Gm.cr r0 r1 r2 r3 r4 r5) * Gm.sg (Gm.cr r4 r5 r0 r1 r6 r7))) = -1 := by
 obtain ⟨a1, a2, a3, a4⟩ := mn3_cases (x := Gm.sg (Gm.cr r0 r1 r2 r3 r4 r5) * Gm.sg (Gm.cr r0 r1 r2 r3 r6 r7)) (y := Gm.sg (Gm.cr r0 r1 r2 r3 r4 r5) * Gm.sg (Gm.cr r2 r3 r4 r5 r6 r7)) (z := Gm.sg (Gm.cr r0 r1 r2 r3 r4 r5) * Gm.sg (Gm.cr r4 r5 r0 r1 r6 r7))
 have s1 := sg2 (Gm.cr r0 r1 r2 r3 r4 r5) (Gm.cr r0 r1 r2 r3 r6 r7)
 have s2 := sg2 (Gm.cr r0 r1 r2 r3 r4 r5) (Gm.cr r2 r3 r4 r5 r6 r7)
 have s3 := sg2 (Gm.cr r0 r1 r2 r3 r4 r5) (Gm.cr r4 r5 r0 r1 r6 r7)
 have hv : (mn3 (Gm.sg (Gm.cr r0 r1 r2 r3 r4 r5) * Gm.sg (Gm.cr r0 r1 r2 r3 r6 r7)) (Gm.sg (Gm.cr r0 r1 r2 r3 r4 r5) * Gm.sg (Gm.cr r2 r3 r4 r5 r6 r7)) (Gm.sg (Gm.cr r0 r1 r2 r3 r4 r5) * Gm.sg (Gm.cr r4 r5 r0 r1 r6 r7))) = 1 ∨ (mn3 (Gm.sg (Gm.cr r0 r1 r2 r3 r4 r5) * Gm.sg (Gm.cr r0 r1 r2 r3 r6 r7)) (Gm.sg (Gm.cr r0 r1 r2 r3 r4 r5) * Gm.sg (Gm.cr r2 r3 r4 r5 r6 r7)) (Gm.sg (Gm.cr r0 r1 r2 r3 r4 r5) * Gm.sg (Gm.cr r4 r5 r0 r1 r6 r7))) = 0 ∨ (mn3 (Gm.sg (Gm.cr r0 r1 r2 r3 r4 r5) * Gm.sg (Gm.cr r0 r1 r2 r3 r6 r7)) (Gm.sg (Gm.cr r0 r1 r2 r3 r4 r5) * Gm.sg (Gm.cr r2 r3 r4 r5 r6 r7)) (Gm.sg (Gm.cr r0 r1 r2 r3 r4 r5) * Gm.sg (Gm.cr r4 r5 r0 r1 r6 r7))) = -1 := by omega
 rcases hv with hv | hv | hv
 ·exact .inl ⟨hv, Gm.inside_circle h0 (by omega) (by omega) (by omega)⟩
 ·exact .inr (.inl ⟨hv, Gm.within_circle h0 (by omega) (by omega) (by omega)⟩)
 ·exact .inr (.inr hv)
theorem agree_cross (r0 r1 r2 r3 r4 r5 r6 r7 : Rat) (h : mt (Gm.sg (Gm.cr r0 r1 r2 r3 r4 r5)) (Gm.sg (Gm.cr r0 r1 r2 r3 r6 r7)) (Gm.sg (Gm.cr r4 r5 r6 r7 r0 r1)) (Gm.sg (Gm.cr r4 r5 r6 r7 r2 r3)) (-(Gm.sg (Gm.dt r0 r1 r2 r3 r4 r5))) (-(Gm.sg (Gm.dt r0 r1 r2 r3 r6 r7))) (-(Gm.sg (Gm.dt r4 r5 r6 r7 r0 r1))) (-(Gm.sg (Gm.dt r4 r5 r6 r7 r2 r3))) = 1) : ¬ ((r2 - r0) * (r7 - r5) - (r3 - r1) * (r6 - r4)) = 0 ∧ onB (Gm.cr r0 r1 r2 r3 (r0 + (r2 - r0) * (((r4 - r0) * (r7 - r5) - (r5 - r1) * (r6 - r4)) / ((r2 - r0) * (r7 - r5) - (r3 - r1) * (r6 - r4)))) (r1 + (r3 - r1) * (((r4 - r0) * (r7 - r5) - (r5 - r1) * (r6 - r4)) / ((r2 - r0) * (r7 - r5) - (r3 - r1) * (r6 - r4))))) (Gm.dt r0 r1 r2 r3 (r0 + (r2 - r0) * (((r4 - r0) * (r7 - r5) - (r5 - r1) * (r6 - r4)) / ((r2 - r0) * (r7 - r5) - (r3 - r1) * (r6 - r4)))) (r1 + (r3 - r1) * (((r4 - r0) * (r7 - r5) - (r5 - r1) * (r6 - r4)) / ((r2 - r0) * (r7 - r5) - (r3 - r1) * (r6 - r4))))) = true ∧ onB (Gm.cr r4 r5 r6 r7 (r0 + (r2 - r0) * (((r4 - r0) * (r7 - r5) - (r5 - r1) * (r6 - r4)) / ((r2 - r0) * (r7 - r5) - (r3 - r1) * (r6 - r4)))) (r1 + (r3 - r1) * (((r4 - r0) * (r7 - r5) - (r5 - r1) * (r6 - r4)) / ((r2 - r0) * (r7 - r5) - (r3 - r1) * (r6 - r4))))) (Gm.dt r4 r5 r6 r7 (r0 + (r2 - r0) * (((r4 - r0) * (r7 - r5) - (r5 - r1) * (r6 - r4)) / ((r2 - r0) * (r7 - r5) - (r3 - r1) * (r6 - r4)))) (r1 + (r3 - r1) * (((r4 - r0) * (r7 - r5) - (r5 - r1) * (r6 - r4)) / ((r2 - r0) * (r7 - r5) - (r3 - r1) * (r6 - r4))))) = true := by
 have hh : Gm.sg (Gm.cr r0 r1 r2 r3 r4 r5) * Gm.sg (Gm.cr r0 r1 r2 r3 r6 r7) < 0 ∧ Gm.sg (Gm.cr r4 r5 r6 r7 r0 r1) * Gm.sg (Gm.cr r4 r5 r6 r7 r2 r3) < 0 := by
  unfold mt at h
  split at h
  ·omega
  ·split at h
   ·omega
   ·split at h
    ·assumption
    ·omega
 obtain ⟨h1, h2⟩ := hh
 rw [← Gm.sg_mul, Gm.sg_lt] at h1 h2
 have k2 : ((r4 - r0) * (r7 - r5) - (r5 - r1) * (r6 - r4)) * (((r4 - r0) * (r7 - r5) - (r5 - r1) * (r6 - r4)) - ((r2 - r0) * (r7 - r5) - (r3 - r1) * (r6 - r4))) < 0 := by
  have e : (Gm.cr r4 r5 r6 r7 r0 r1) * (Gm.cr r4 r5 r6 r7 r2 r3) = ((r4 - r0) * (r7 - r5) - (r5 - r1) * (r6 - r4)) * (((r4 - r0) * (r7 - r5) - (r5 - r1) * (r6 - r4)) - ((r2 - r0) * (r7 - r5) - (r3 - r1) * (r6 - r4))) := by unfold Gm.cr; grind
  rw [← e]; exact h2
 have k1 : ((r4 - r0) * (r3 - r1) - (r5 - r1) * (r2 - r0)) * (((r4 - r0) * (r3 - r1) - (r5 - r1) * (r2 - r0)) - ((r2 - r0) * (r7 - r5) - (r3 - r1) * (r6 - r4))) < 0 := by
  have e : (Gm.cr r0 r1 r2 r3 r4 r5) * (Gm.cr r0 r1 r2 r3 r6 r7) = ((r4 - r0) * (r3 - r1) - (r5 - r1) * (r2 - r0)) * (((r4 - r0) * (r3 - r1) - (r5 - r1) * (r2 - r0)) - ((r2 - r0) * (r7 - r5) - (r3 - r1) * (r6 - r4))) := by unfold Gm.cr; grind
  rw [← e]; exact h1
 obtain ⟨hN, ht⟩ := Gm.cross_part k2
 obtain ⟨-, hs⟩ := Gm.cross_part k1
 have et : (((r4 - r0) * (r7 - r5) - (r5 - r1) * (r6 - r4)) / ((r2 - r0) * (r7 - r5) - (r3 - r1) * (r6 - r4))) * ((r2 - r0) * (r7 - r5) - (r3 - r1) * (r6 - r4)) = ((r4 - r0) * (r7 - r5) - (r5 - r1) * (r6 - r4)) := Rat.div_mul_cancel hN
 have es : (((r4 - r0) * (r3 - r1) - (r5 - r1) * (r2 - r0)) / ((r2 - r0) * (r7 - r5) - (r3 - r1) * (r6 - r4))) * ((r2 - r0) * (r7 - r5) - (r3 - r1) * (r6 - r4)) = (r4 - r0) * (r3 - r1) - (r5 - r1) * (r2 - r0) := Rat.div_mul_cancel hN
 obtain ⟨c1, c2⟩ := Gm.cross_other hN et es
 refine ⟨hN, ?_, ?_⟩
 ·have := on_part (ux := (r2 - r0)) (uy := (r3 - r1)) ht (a := r0) (b := r1)
  rwa [show r0 + (r2 - r0) = r2 by grind, show r1 + (r3 - r1) = r3 by grind] at this
 ·have := on_part (ux := (r6 - r4)) (uy := (r7 - r5)) hs (a := r4) (b := r5)
  rw [← c1, ← c2] at this
  rwa [show r4 + (r6 - r4) = r6 by grind, show r5 + (r7 - r5) = r7 by grind, show r4 + ((r2 - r0) * (((r4 - r0) * (r7 - r5) - (r5 - r1) * (r6 - r4)) / ((r2 - r0) * (r7 - r5) - (r3 - r1) * (r6 - r4))) - (r4 - r0)) = r0 + (r2 - r0) * (((r4 - r0) * (r7 - r5) - (r5 - r1) * (r6 - r4)) / ((r2 - r0) * (r7 - r5) - (r3 - r1) * (r6 - r4))) by grind, show r5 + ((r3 - r1) * (((r4 - r0) * (r7 - r5) - (r5 - r1) * (r6 - r4)) / ((r2 - r0) * (r7 - r5) - (r3 - r1) * (r6 - r4))) - (r5 - r1)) = r1 + (r3 - r1) * (((r4 - r0) * (r7 - r5) - (r5 - r1) * (r6 - r4)) / ((r2 - r0) * (r7 - r5) - (r3 - r1) * (r6 - r4))) by grind] at this
theorem agree5_law (n0 n1 n2 n3 n4 n5 n6 n7 : Bool) (s0 d0 s1 d1 s2 d2 s3 d3 s4 d4 s5 d5 s6 d6 s7 d7 : ByteArray) (w : World) (hT : Tab w) :
  Calls Tryz.prog 3 #[.agg #[.bool n0, .string s0, .string d0, .bool n1, .string s1, .string d1, .bool n2, .string s2, .string d2, .bool n3, .string s3, .string d3, .bool n4, .string s4, .string d4, .bool n5, .string s5, .string d5, .bool n6, .string s6, .string d6, .bool n7, .string s7, .string d7]] w (Re w (.bool true)) := by
 have HL : Hid (∀ w1, Below w.heap.size w w1 → Calls Tryz.prog 10 #[] w1 (Re w1 (.bool true))) := fun w1 b => live5_any w1 (hT.below b)
 cases hb : (sh5 s0 d0 && (sh5 s1 d1 && (sh5 s2 d2 && (sh5 s3 d3 && (sh5 s4 d4 && (sh5 s5 d5 && (sh5 s6 d6 && sh5 s7 d7)))))))
 ·exact agree5_l n0 n1 n2 n3 n4 n5 n6 n7 s0 d0 s1 d1 s2 d2 s3 d3 s4 d4 s5 d5 s6 d6 s7 d7 w (fun w1 => by have := small5_any n0 n1 n2 n3 n4 n5 n6 n7 s0 d0 s1 d1 s2 d2 s3 d3 s4 d4 s5 d5 s6 d6 s7 d7 w1; rwa [hb] at this) HL
 have HS : Hid (∀ w1, Calls Tryz.prog 8 #[.agg #[.bool n0, .string s0, .string d0, .bool n1, .string s1, .string d1, .bool n2, .string s2, .string d2, .bool n3, .string s3, .string d3, .bool n4, .string s4, .string d4, .bool n5, .string s5, .string d5, .bool n6, .string s6, .string d6, .bool n7, .string s7, .string d7]] w1 (Re w1 (.bool true))) := fun w1 => by have := small5_any n0 n1 n2 n3 n4 n5 n6 n7 s0 d0 s1 d1 s2 d2 s3 d3 s4 d4 s5 d5 s6 d6 s7 d7 w1; rwa [hb] at this
 simp only [Bool.and_eq_true] at hb
 obtain ⟨h0, h1, h2, h3, h4, h5, h6, h7⟩ := hb
 have y0 : s0.size ≤ 60 ∧ d0.size ≤ 60 := of_decide_eq_true h0
 have z0 : s0.size ≤ 100 ∧ d0.size ≤ 100 := ⟨Nat.le_trans y0.1 (by omega), Nat.le_trans y0.2 (by omega)⟩
 have y1 : s1.size ≤ 60 ∧ d1.size ≤ 60 := of_decide_eq_true h1
 have z1 : s1.size ≤ 100 ∧ d1.size ≤ 100 := ⟨Nat.le_trans y1.1 (by omega), Nat.le_trans y1.2 (by omega)⟩
 have y2 : s2.size ≤ 60 ∧ d2.size ≤ 60 := of_decide_eq_true h2
 have z2 : s2.size ≤ 100 ∧ d2.size ≤ 100 := ⟨Nat.le_trans y2.1 (by omega), Nat.le_trans y2.2 (by omega)⟩
 have y3 : s3.size ≤ 60 ∧ d3.size ≤ 60 := of_decide_eq_true h3
 have z3 : s3.size ≤ 100 ∧ d3.size ≤ 100 := ⟨Nat.le_trans y3.1 (by omega), Nat.le_trans y3.2 (by omega)⟩
 have y4 : s4.size ≤ 60 ∧ d4.size ≤ 60 := of_decide_eq_true h4
 have z4 : s4.size ≤ 100 ∧ d4.size ≤ 100 := ⟨Nat.le_trans y4.1 (by omega), Nat.le_trans y4.2 (by omega)⟩
 have y5 : s5.size ≤ 60 ∧ d5.size ≤ 60 := of_decide_eq_true h5
 have z5 : s5.size ≤ 100 ∧ d5.size ≤ 100 := ⟨Nat.le_trans y5.1 (by omega), Nat.le_trans y5.2 (by omega)⟩
 have y6 : s6.size ≤ 60 ∧ d6.size ≤ 60 := of_decide_eq_true h6
 have z6 : s6.size ≤ 100 ∧ d6.size ≤ 100 := ⟨Nat.le_trans y6.1 (by omega), Nat.le_trans y6.2 (by omega)⟩
 have y7 : s7.size ≤ 60 ∧ d7.size ≤ 60 := of_decide_eq_true h7
 have z7 : s7.size ≤ 100 ∧ d7.size ≤ 100 := ⟨Nat.le_trans y7.1 (by omega), Nat.le_trans y7.2 (by omega)⟩
 clear h0 h1 h2 h3 h4 h5 h6 h7
 by_cases hE : twoc (twoc (twoc (twoq n0 s0 d0 n1 s1 d1) (twoq n2 s2 d2 n3 s3 d3)) (twoq n4 s4 d4 n5 s5 d5)) (twoq n6 s6 d6 n7 s7 d7) = 0
 case neg => exact agree5_a n0 n1 n2 n3 n4 n5 n6 n7 s0 d0 s1 d1 s2 d2 s3 d3 s4 d4 s5 d5 s6 d6 s7 d7 _ w (by omega) HS HL (fun w1 B b h => asked4 B n0 n1 n2 n3 n4 n5 n6 n7 s0 d0 s1 d1 s2 d2 s3 d3 s4 d4 s5 d5 s6 d6 s7 d7 w1 h (z0) (z1) (z2) (z3) (z4) (z5) (z6) (z7))
 have hE' := hE
 rw [two_zero, two_zero, two_zero] at hE
 obtain ⟨⟨⟨tA, tB⟩, tC⟩, tD⟩ := hE
 have wA := twoq_zero.1 tA
 have o0 := (chkq_zero wA.1).1
 have o1 := (chkq_zero wA.2).1
 clear wA
 have wB := twoq_zero.1 tB
 have o2 := (chkq_zero wB.1).1
 have o3 := (chkq_zero wB.2).1
 clear wB
 have wC := twoq_zero.1 tC
 have o4 := (chkq_zero wC.1).1
 have o5 := (chkq_zero wC.2).1
 clear wC
 have wD := twoq_zero.1 tD
 have o6 := (chkq_zero wD.1).1
 have o7 := (chkq_zero wD.2).1
 clear wD
 obtain ⟨r0, rfl, rfl, rfl⟩ := okq_form o0
 have B0 : Bq r0 60 := by have := (okQ_qI r0).bq y0.1 y0.2; rwa [qOf_qI] at this
 clear o0
 obtain ⟨r1, rfl, rfl, rfl⟩ := okq_form o1
 have B1 : Bq r1 60 := by have := (okQ_qI r1).bq y1.1 y1.2; rwa [qOf_qI] at this
 clear o1
 obtain ⟨r2, rfl, rfl, rfl⟩ := okq_form o2
 have B2 : Bq r2 60 := by have := (okQ_qI r2).bq y2.1 y2.2; rwa [qOf_qI] at this
 clear o2
 obtain ⟨r3, rfl, rfl, rfl⟩ := okq_form o3
 have B3 : Bq r3 60 := by have := (okQ_qI r3).bq y3.1 y3.2; rwa [qOf_qI] at this
 clear o3
 obtain ⟨r4, rfl, rfl, rfl⟩ := okq_form o4
 have B4 : Bq r4 60 := by have := (okQ_qI r4).bq y4.1 y4.2; rwa [qOf_qI] at this
 clear o4
 obtain ⟨r5, rfl, rfl, rfl⟩ := okq_form o5
 have B5 : Bq r5 60 := by have := (okQ_qI r5).bq y5.1 y5.2; rwa [qOf_qI] at this
 clear o5
 obtain ⟨r6, rfl, rfl, rfl⟩ := okq_form o6
 have B6 : Bq r6 60 := by have := (okQ_qI r6).bq y6.1 y6.2; rwa [qOf_qI] at this
 clear o6
 obtain ⟨r7, rfl, rfl, rfl⟩ := okq_form o7
 have B7 : Bq r7 60 := by have := (okQ_qI r7).bq y7.1 y7.2; rwa [qOf_qI] at this
 clear o7
 have hM : Hid (∀ w1, Below w.heap.size w w1 → Calls Tryz.prog 13 #[.agg #[.bool (nfZ (r0).num), .string (sfZ (r0).num), .string (strOf (r0).den), .bool (nfZ (r1).num), .string (sfZ (r1).num), .string (strOf (r1).den)], .agg #[.bool (nfZ (r2).num), .string (sfZ (r2).num), .string (strOf (r2).den), .bool (nfZ (r3).num), .string (sfZ (r3).num), .string (strOf (r3).den)], .agg #[.bool (nfZ (r4).num), .string (sfZ (r4).num), .string (strOf (r4).den), .bool (nfZ (r5).num), .string (sfZ (r5).num), .string (strOf (r5).den)], .agg #[.bool (nfZ (r6).num), .string (sfZ (r6).num), .string (strOf (r6).den), .bool (nfZ (r7).num), .string (sfZ (r7).num), .string (strOf (r7).den)]] w1 (Re w1 (.tuple #[.int .i64 (mt (Gm.sg (Gm.cr r0 r1 r2 r3 r4 r5)) (Gm.sg (Gm.cr r0 r1 r2 r3 r6 r7)) (Gm.sg (Gm.cr r4 r5 r6 r7 r0 r1)) (Gm.sg (Gm.cr r4 r5 r6 r7 r2 r3)) (-(Gm.sg (Gm.dt r0 r1 r2 r3 r4 r5))) (-(Gm.sg (Gm.dt r0 r1 r2 r3 r6 r7))) (-(Gm.sg (Gm.dt r4 r5 r6 r7 r0 r1))) (-(Gm.sg (Gm.dt r4 r5 r6 r7 r2 r3)))), .int .i64 (0)]))) := (fun w1 b => by have := gMeet_an (nfZ r0.num) (nfZ r1.num) (nfZ r2.num) (nfZ r3.num) (nfZ r4.num) (nfZ r5.num) (nfZ r6.num) (nfZ r7.num) (sfZ r0.num) (strOf r0.den) (sfZ r1.num) (strOf r1.den) (sfZ r2.num) (strOf r2.den) (sfZ r3.num) (strOf r3.den) (sfZ r4.num) (strOf r4.den) (sfZ r5.num) (strOf r5.den) (sfZ r6.num) (strOf r6.den) (sfZ r7.num) (strOf r7.den) w1 (hT.below b) (z0) (z1) (z2) (z3) (z4) (z5) (z6) (z7) (two_zero.2 ⟨(two_zero.2 ⟨(two_zero.2 ⟨tA, tB⟩), tC⟩), tD⟩); simp only [qOf_one] at this; exact this)
 have hN : Hid (∀ w1, Below w.heap.size w w1 → Calls Tryz.prog 16 #[.agg #[.bool (nfZ (r0).num), .string (sfZ (r0).num), .string (strOf (r0).den), .bool (nfZ (r1).num), .string (sfZ (r1).num), .string (strOf (r1).den)], .agg #[.bool (nfZ (r2).num), .string (sfZ (r2).num), .string (strOf (r2).den), .bool (nfZ (r3).num), .string (sfZ (r3).num), .string (strOf (r3).den)], .agg #[.bool (nfZ (r6).num), .string (sfZ (r6).num), .string (strOf (r6).den), .bool (nfZ (r7).num), .string (sfZ (r7).num), .string (strOf (r7).den)]] w1 (Re w1 (.tuple #[.bool (onB (Gm.cr r0 r1 r2 r3 r6 r7) (Gm.dt r0 r1 r2 r3 r6 r7)), .int .i64 0]))) := (fun w1 b => by have := gOn_an (nfZ r0.num) (nfZ r1.num) (nfZ r2.num) (nfZ r3.num) (nfZ r6.num) (nfZ r7.num) (sfZ r0.num) (strOf r0.den) (sfZ r1.num) (strOf r1.den) (sfZ r2.num) (strOf r2.den) (sfZ r3.num) (strOf r3.den) (sfZ r6.num) (strOf r6.den) (sfZ r7.num) (strOf r7.den) w1 (hT.below b) (z0) (z1) (z2) (z3) (z6) (z7) (two_zero.2 ⟨(two_zero.2 ⟨tA, tB⟩), tD⟩); simp only [qOf_one] at this; exact this)
 have hD : Hid (∀ w1, Below w.heap.size w w1 → Calls Tryz.prog 17 #[.agg #[.bool (nfZ (r0).num), .string (sfZ (r0).num), .string (strOf (r0).den), .bool (nfZ (r1).num), .string (sfZ (r1).num), .string (strOf (r1).den)], .agg #[.bool (nfZ (r2).num), .string (sfZ (r2).num), .string (strOf (r2).den), .bool (nfZ (r3).num), .string (sfZ (r3).num), .string (strOf (r3).den)], .agg #[.bool (nfZ (r6).num), .string (sfZ (r6).num), .string (strOf (r6).den), .bool (nfZ (r7).num), .string (sfZ (r7).num), .string (strOf (r7).den)]] w1 (Re w1 (.tuple #[.int .i64 ((-(Gm.sg (Gm.dt r0 r1 r2 r3 r6 r7)))), .int .i64 (0)]))) := (fun w1 b => by have := gDisc_an (nfZ r0.num) (nfZ r1.num) (nfZ r2.num) (nfZ r3.num) (nfZ r6.num) (nfZ r7.num) (sfZ r0.num) (strOf r0.den) (sfZ r1.num) (strOf r1.den) (sfZ r2.num) (strOf r2.den) (sfZ r3.num) (strOf r3.den) (sfZ r6.num) (strOf r6.den) (sfZ r7.num) (strOf r7.den) w1 (hT.below b) (z0) (z1) (z2) (z3) (z6) (z7) (two_zero.2 ⟨(two_zero.2 ⟨tA, tB⟩), tD⟩); simp only [qOf_one] at this; exact this)
 have hO : (onB (Gm.cr r0 r1 r2 r3 r6 r7) (Gm.dt r0 r1 r2 r3 r6 r7)) = false ∨ ((onB (Gm.cr r0 r1 r2 r3 r6 r7) (Gm.dt r0 r1 r2 r3 r6 r7)) = true ∧ (-(Gm.sg (Gm.dt r0 r1 r2 r3 r6 r7))) = 1) ∨ ((onB (Gm.cr r0 r1 r2 r3 r6 r7) (Gm.dt r0 r1 r2 r3 r6 r7)) = true ∧ (-(Gm.sg (Gm.dt r0 r1 r2 r3 r6 r7))) = 0 ∧ ((decide (r6 = r0 ∧ r7 = r1)) = true ∨ (decide (r6 = r2 ∧ r7 = r3)) = true)) := by
  by_cases e : (onB (Gm.cr r0 r1 r2 r3 r6 r7) (Gm.dt r0 r1 r2 r3 r6 r7)) = true
  ·have e' := e
   unfold onB at e
   simp only [Bool.and_eq_true, decide_eq_true_eq] at e
   obtain ⟨e1, e2⟩ := e
   rcases sg_small (Gm.dt r0 r1 r2 r3 r6 r7) with q | q | q
   ·refine .inr (.inr ⟨e', by omega, ?_⟩)
    rcases Gm.rim_end (Gm.sg_eq_zero.1 e1) (Gm.sg_eq_zero.1 q) with k | k
    ·exact .inl (decide_eq_true k)
    ·exact .inr (decide_eq_true k)
   ·omega
   ·exact .inr (.inl ⟨e', by omega⟩)
  ·exact .inl (by simpa using e)
 have hB : ¬ ((r2 - r0) * (r7 - r5) - (r3 - r1) * (r6 - r4)) = 0 → Bq (r0 + (r2 - r0) * (((r4 - r0) * (r7 - r5) - (r5 - r1) * (r6 - r4)) / ((r2 - r0) * (r7 - r5) - (r3 - r1) * (r6 - r4)))) 785 ∧ Bq (r1 + (r3 - r1) * (((r4 - r0) * (r7 - r5) - (r5 - r1) * (r6 - r4)) / ((r2 - r0) * (r7 - r5) - (r3 - r1) * (r6 - r4)))) 785 := fun h => by
  obtain ⟨a, b⟩ := cross_bq B0 B1 B2 B3 B4 B5 B6 B7 h
  exact ⟨bq_mono (vqm_add B0 a) (by omega), bq_mono (vqm_add B1 b) (by omega)⟩
 have hX : mt (Gm.sg (Gm.cr r0 r1 r2 r3 r4 r5)) (Gm.sg (Gm.cr r0 r1 r2 r3 r6 r7)) (Gm.sg (Gm.cr r4 r5 r6 r7 r0 r1)) (Gm.sg (Gm.cr r4 r5 r6 r7 r2 r3)) (-(Gm.sg (Gm.dt r0 r1 r2 r3 r4 r5))) (-(Gm.sg (Gm.dt r0 r1 r2 r3 r6 r7))) (-(Gm.sg (Gm.dt r4 r5 r6 r7 r0 r1))) (-(Gm.sg (Gm.dt r4 r5 r6 r7 r2 r3))) = 1 → Hid (∀ w1, Below w.heap.size w w1 → Calls Tryz.prog 14 #[.agg #[.bool (nfZ (r0).num), .string (sfZ (r0).num), .string (strOf (r0).den), .bool (nfZ (r1).num), .string (sfZ (r1).num), .string (strOf (r1).den)], .agg #[.bool (nfZ (r2).num), .string (sfZ (r2).num), .string (strOf (r2).den), .bool (nfZ (r3).num), .string (sfZ (r3).num), .string (strOf (r3).den)], .agg #[.bool (nfZ (r4).num), .string (sfZ (r4).num), .string (strOf (r4).den), .bool (nfZ (r5).num), .string (sfZ (r5).num), .string (strOf (r5).den)], .agg #[.bool (nfZ (r6).num), .string (sfZ (r6).num), .string (strOf (r6).den), .bool (nfZ (r7).num), .string (sfZ (r7).num), .string (strOf (r7).den)]] w1 (Re w1 (.tuple #[.agg #[.bool (nfZ (r0 + (r2 - r0) * (((r4 - r0) * (r7 - r5) - (r5 - r1) * (r6 - r4)) / ((r2 - r0) * (r7 - r5) - (r3 - r1) * (r6 - r4)))).num), .string (sfZ (r0 + (r2 - r0) * (((r4 - r0) * (r7 - r5) - (r5 - r1) * (r6 - r4)) / ((r2 - r0) * (r7 - r5) - (r3 - r1) * (r6 - r4)))).num), .string (strOf (r0 + (r2 - r0) * (((r4 - r0) * (r7 - r5) - (r5 - r1) * (r6 - r4)) / ((r2 - r0) * (r7 - r5) - (r3 - r1) * (r6 - r4)))).den), .bool (nfZ (r1 + (r3 - r1) * (((r4 - r0) * (r7 - r5) - (r5 - r1) * (r6 - r4)) / ((r2 - r0) * (r7 - r5) - (r3 - r1) * (r6 - r4)))).num), .string (sfZ (r1 + (r3 - r1) * (((r4 - r0) * (r7 - r5) - (r5 - r1) * (r6 - r4)) / ((r2 - r0) * (r7 - r5) - (r3 - r1) * (r6 - r4)))).num), .string (strOf (r1 + (r3 - r1) * (((r4 - r0) * (r7 - r5) - (r5 - r1) * (r6 - r4)) / ((r2 - r0) * (r7 - r5) - (r3 - r1) * (r6 - r4)))).den)], .int .i64 0]))) := fun h w1 b => gCrossI r0 r1 r2 r3 r4 r5 r6 r7 (K := 60) (by omega) B0 B1 B2 B3 B4 B5 B6 B7 (agree_cross r0 r1 r2 r3 r4 r5 r6 r7 h).1 w1 (hT.below b)
 have h1 : mt (Gm.sg (Gm.cr r0 r1 r2 r3 r4 r5)) (Gm.sg (Gm.cr r0 r1 r2 r3 r6 r7)) (Gm.sg (Gm.cr r4 r5 r6 r7 r0 r1)) (Gm.sg (Gm.cr r4 r5 r6 r7 r2 r3)) (-(Gm.sg (Gm.dt r0 r1 r2 r3 r4 r5))) (-(Gm.sg (Gm.dt r0 r1 r2 r3 r6 r7))) (-(Gm.sg (Gm.dt r4 r5 r6 r7 r0 r1))) (-(Gm.sg (Gm.dt r4 r5 r6 r7 r2 r3))) = 1 → Hid (∀ w1, Below w.heap.size w w1 → Calls Tryz.prog 15 #[.agg #[.bool (nfZ (r0).num), .string (sfZ (r0).num), .string (strOf (r0).den), .bool (nfZ (r1).num), .string (sfZ (r1).num), .string (strOf (r1).den)], .agg #[.bool (nfZ (r2).num), .string (sfZ (r2).num), .string (strOf (r2).den), .bool (nfZ (r3).num), .string (sfZ (r3).num), .string (strOf (r3).den)], .agg #[.bool (nfZ (r0 + (r2 - r0) * (((r4 - r0) * (r7 - r5) - (r5 - r1) * (r6 - r4)) / ((r2 - r0) * (r7 - r5) - (r3 - r1) * (r6 - r4)))).num), .string (sfZ (r0 + (r2 - r0) * (((r4 - r0) * (r7 - r5) - (r5 - r1) * (r6 - r4)) / ((r2 - r0) * (r7 - r5) - (r3 - r1) * (r6 - r4)))).num), .string (strOf (r0 + (r2 - r0) * (((r4 - r0) * (r7 - r5) - (r5 - r1) * (r6 - r4)) / ((r2 - r0) * (r7 - r5) - (r3 - r1) * (r6 - r4)))).den), .bool (nfZ (r1 + (r3 - r1) * (((r4 - r0) * (r7 - r5) - (r5 - r1) * (r6 - r4)) / ((r2 - r0) * (r7 - r5) - (r3 - r1) * (r6 - r4)))).num), .string (sfZ (r1 + (r3 - r1) * (((r4 - r0) * (r7 - r5) - (r5 - r1) * (r6 - r4)) / ((r2 - r0) * (r7 - r5) - (r3 - r1) * (r6 - r4)))).num), .string (strOf (r1 + (r3 - r1) * (((r4 - r0) * (r7 - r5) - (r5 - r1) * (r6 - r4)) / ((r2 - r0) * (r7 - r5) - (r3 - r1) * (r6 - r4)))).den)]] w1 (Re w1 (.bool true))) := fun h w1 b => by
  obtain ⟨a, c, d⟩ := agree_cross r0 r1 r2 r3 r4 r5 r6 r7 h
  obtain ⟨e, f⟩ := hB a
  have := ronJ r0 r1 r2 r3 (r0 + (r2 - r0) * (((r4 - r0) * (r7 - r5) - (r5 - r1) * (r6 - r4)) / ((r2 - r0) * (r7 - r5) - (r3 - r1) * (r6 - r4)))) (r1 + (r3 - r1) * (((r4 - r0) * (r7 - r5) - (r5 - r1) * (r6 - r4)) / ((r2 - r0) * (r7 - r5) - (r3 - r1) * (r6 - r4)))) (K := 785) (by omega) (bq_mono B0 (by omega)) (bq_mono B1 (by omega)) (bq_mono B2 (by omega)) (bq_mono B3 (by omega)) e f w1
  rwa [c] at this
 have h2 : mt (Gm.sg (Gm.cr r0 r1 r2 r3 r4 r5)) (Gm.sg (Gm.cr r0 r1 r2 r3 r6 r7)) (Gm.sg (Gm.cr r4 r5 r6 r7 r0 r1)) (Gm.sg (Gm.cr r4 r5 r6 r7 r2 r3)) (-(Gm.sg (Gm.dt r0 r1 r2 r3 r4 r5))) (-(Gm.sg (Gm.dt r0 r1 r2 r3 r6 r7))) (-(Gm.sg (Gm.dt r4 r5 r6 r7 r0 r1))) (-(Gm.sg (Gm.dt r4 r5 r6 r7 r2 r3))) = 1 → Hid (∀ w1, Below w.heap.size w w1 → Calls Tryz.prog 15 #[.agg #[.bool (nfZ (r4).num), .string (sfZ (r4).num), .string (strOf (r4).den), .bool (nfZ (r5).num), .string (sfZ (r5).num), .string (strOf (r5).den)], .agg #[.bool (nfZ (r6).num), .string (sfZ (r6).num), .string (strOf (r6).den), .bool (nfZ (r7).num), .string (sfZ (r7).num), .string (strOf (r7).den)], .agg #[.bool (nfZ (r0 + (r2 - r0) * (((r4 - r0) * (r7 - r5) - (r5 - r1) * (r6 - r4)) / ((r2 - r0) * (r7 - r5) - (r3 - r1) * (r6 - r4)))).num), .string (sfZ (r0 + (r2 - r0) * (((r4 - r0) * (r7 - r5) - (r5 - r1) * (r6 - r4)) / ((r2 - r0) * (r7 - r5) - (r3 - r1) * (r6 - r4)))).num), .string (strOf (r0 + (r2 - r0) * (((r4 - r0) * (r7 - r5) - (r5 - r1) * (r6 - r4)) / ((r2 - r0) * (r7 - r5) - (r3 - r1) * (r6 - r4)))).den), .bool (nfZ (r1 + (r3 - r1) * (((r4 - r0) * (r7 - r5) - (r5 - r1) * (r6 - r4)) / ((r2 - r0) * (r7 - r5) - (r3 - r1) * (r6 - r4)))).num), .string (sfZ (r1 + (r3 - r1) * (((r4 - r0) * (r7 - r5) - (r5 - r1) * (r6 - r4)) / ((r2 - r0) * (r7 - r5) - (r3 - r1) * (r6 - r4)))).num), .string (strOf (r1 + (r3 - r1) * (((r4 - r0) * (r7 - r5) - (r5 - r1) * (r6 - r4)) / ((r2 - r0) * (r7 - r5) - (r3 - r1) * (r6 - r4)))).den)]] w1 (Re w1 (.bool true))) := fun h w1 b => by
  obtain ⟨a, c, d⟩ := agree_cross r0 r1 r2 r3 r4 r5 r6 r7 h
  obtain ⟨e, f⟩ := hB a
  have := ronJ r4 r5 r6 r7 (r0 + (r2 - r0) * (((r4 - r0) * (r7 - r5) - (r5 - r1) * (r6 - r4)) / ((r2 - r0) * (r7 - r5) - (r3 - r1) * (r6 - r4)))) (r1 + (r3 - r1) * (((r4 - r0) * (r7 - r5) - (r5 - r1) * (r6 - r4)) / ((r2 - r0) * (r7 - r5) - (r3 - r1) * (r6 - r4)))) (K := 785) (by omega) (bq_mono B4 (by omega)) (bq_mono B5 (by omega)) (bq_mono B6 (by omega)) (bq_mono B7 (by omega)) e f w1
  rwa [d] at this
 by_cases h0 : Gm.sg (Gm.cr r0 r1 r2 r3 r4 r5) = 0
 ·exact agree5_ok (nfZ (r0).num) (nfZ (r1).num) (nfZ (r2).num) (nfZ (r3).num) (nfZ (r4).num) (nfZ (r5).num) (nfZ (r6).num) (nfZ (r7).num) (sfZ (r0).num) (strOf (r0).den) (sfZ (r1).num) (strOf (r1).den) (sfZ (r2).num) (strOf (r2).den) (sfZ (r3).num) (strOf (r3).den) (sfZ (r4).num) (strOf (r4).den) (sfZ (r5).num) (strOf (r5).den) (sfZ (r6).num) (strOf (r6).den) (sfZ (r7).num) (strOf (r7).den) (nfZ (r0 + (r2 - r0) * (((r4 - r0) * (r7 - r5) - (r5 - r1) * (r6 - r4)) / ((r2 - r0) * (r7 - r5) - (r3 - r1) * (r6 - r4)))).num) (nfZ (r1 + (r3 - r1) * (((r4 - r0) * (r7 - r5) - (r5 - r1) * (r6 - r4)) / ((r2 - r0) * (r7 - r5) - (r3 - r1) * (r6 - r4)))).num) (sfZ (r0 + (r2 - r0) * (((r4 - r0) * (r7 - r5) - (r5 - r1) * (r6 - r4)) / ((r2 - r0) * (r7 - r5) - (r3 - r1) * (r6 - r4)))).num) (strOf (r0 + (r2 - r0) * (((r4 - r0) * (r7 - r5) - (r5 - r1) * (r6 - r4)) / ((r2 - r0) * (r7 - r5) - (r3 - r1) * (r6 - r4)))).den) (sfZ (r1 + (r3 - r1) * (((r4 - r0) * (r7 - r5) - (r5 - r1) * (r6 - r4)) / ((r2 - r0) * (r7 - r5) - (r3 - r1) * (r6 - r4)))).num) (strOf (r1 + (r3 - r1) * (((r4 - r0) * (r7 - r5) - (r5 - r1) * (r6 - r4)) / ((r2 - r0) * (r7 - r5) - (r3 - r1) * (r6 - r4)))).den) 0 6 0 _ _ _ _ _ w (.inl rfl) hO HS HL (fun w1 B b h => by have := asked4 B (nfZ r0.num) (nfZ r1.num) (nfZ r2.num) (nfZ r3.num) (nfZ r4.num) (nfZ r5.num) (nfZ r6.num) (nfZ r7.num) (sfZ r0.num) (strOf r0.den) (sfZ r1.num) (strOf r1.den) (sfZ r2.num) (strOf r2.den) (sfZ r3.num) (strOf r3.den) (sfZ r4.num) (strOf r4.den) (sfZ r5.num) (strOf r5.den) (sfZ r6.num) (strOf r6.den) (sfZ r7.num) (strOf r7.den) w1 h (z0) (z1) (z2) (z3) (z4) (z5) (z6) (z7); rwa [hE'] at this) (fun w1 b => by have := gWithin_an (nfZ r0.num) (nfZ r1.num) (nfZ r2.num) (nfZ r3.num) (nfZ r4.num) (nfZ r5.num) (nfZ r6.num) (nfZ r7.num) (sfZ r0.num) (strOf r0.den) (sfZ r1.num) (strOf r1.den) (sfZ r2.num) (strOf r2.den) (sfZ r3.num) (strOf r3.den) (sfZ r4.num) (strOf r4.den) (sfZ r5.num) (strOf r5.den) (sfZ r6.num) (strOf r6.den) (sfZ r7.num) (strOf r7.den) w1 (hT.below b) (z0) (z1) (z2) (z3) (z4) (z5) (z6) (z7) (two_zero.2 ⟨(two_zero.2 ⟨(two_zero.2 ⟨tA, tB⟩), tC⟩), tD⟩); simp only [qOf_one] at this; rwa [if_pos h0] at this) (fun w1 b => by have := gCircle_an (nfZ r0.num) (nfZ r1.num) (nfZ r2.num) (nfZ r3.num) (nfZ r4.num) (nfZ r5.num) (nfZ r6.num) (nfZ r7.num) (sfZ r0.num) (strOf r0.den) (sfZ r1.num) (strOf r1.den) (sfZ r2.num) (strOf r2.den) (sfZ r3.num) (strOf r3.den) (sfZ r4.num) (strOf r4.den) (sfZ r5.num) (strOf r5.den) (sfZ r6.num) (strOf r6.den) (sfZ r7.num) (strOf r7.den) w1 (hT.below b) (z0) (z1) (z2) (z3) (z4) (z5) (z6) (z7) (two_zero.2 ⟨(two_zero.2 ⟨(two_zero.2 ⟨tA, tB⟩), tC⟩), tD⟩); simp only [qOf_one] at this; rwa [if_pos h0] at this) hM hX h1 h2 hN hD (eqPI r6 r7 r0 r1 rfl) (eqPI r6 r7 r2 r3 rfl)
 ·refine agree5_ok (nfZ (r0).num) (nfZ (r1).num) (nfZ (r2).num) (nfZ (r3).num) (nfZ (r4).num) (nfZ (r5).num) (nfZ (r6).num) (nfZ (r7).num) (sfZ (r0).num) (strOf (r0).den) (sfZ (r1).num) (strOf (r1).den) (sfZ (r2).num) (strOf (r2).den) (sfZ (r3).num) (strOf (r3).den) (sfZ (r4).num) (strOf (r4).den) (sfZ (r5).num) (strOf (r5).den) (sfZ (r6).num) (strOf (r6).den) (sfZ (r7).num) (strOf (r7).den) (nfZ (r0 + (r2 - r0) * (((r4 - r0) * (r7 - r5) - (r5 - r1) * (r6 - r4)) / ((r2 - r0) * (r7 - r5) - (r3 - r1) * (r6 - r4)))).num) (nfZ (r1 + (r3 - r1) * (((r4 - r0) * (r7 - r5) - (r5 - r1) * (r6 - r4)) / ((r2 - r0) * (r7 - r5) - (r3 - r1) * (r6 - r4)))).num) (sfZ (r0 + (r2 - r0) * (((r4 - r0) * (r7 - r5) - (r5 - r1) * (r6 - r4)) / ((r2 - r0) * (r7 - r5) - (r3 - r1) * (r6 - r4)))).num) (strOf (r0 + (r2 - r0) * (((r4 - r0) * (r7 - r5) - (r5 - r1) * (r6 - r4)) / ((r2 - r0) * (r7 - r5) - (r3 - r1) * (r6 - r4)))).den) (sfZ (r1 + (r3 - r1) * (((r4 - r0) * (r7 - r5) - (r5 - r1) * (r6 - r4)) / ((r2 - r0) * (r7 - r5) - (r3 - r1) * (r6 - r4)))).num) (strOf (r1 + (r3 - r1) * (((r4 - r0) * (r7 - r5) - (r5 - r1) * (r6 - r4)) / ((r2 - r0) * (r7 - r5) - (r3 - r1) * (r6 - r4)))).den) (mn3 (Gm.sg (Gm.cr r0 r1 r2 r3 r4 r5) * Gm.sg (Gm.cr r0 r1 r2 r3 r6 r7)) (Gm.sg (Gm.cr r0 r1 r2 r3 r4 r5) * Gm.sg (Gm.cr r2 r3 r4 r5 r6 r7)) (Gm.sg (Gm.cr r0 r1 r2 r3 r4 r5) * Gm.sg (Gm.cr r4 r5 r0 r1 r6 r7))) 0 (Gm.sg (Gm.cr r0 r1 r2 r3 r4 r5) * Gm.sg (Gm.ci r0 r1 r2 r3 r4 r5 r6 r7)) _ _ _ _ _ w ?_ hO HS HL (fun w1 B b h => by have := asked4 B (nfZ r0.num) (nfZ r1.num) (nfZ r2.num) (nfZ r3.num) (nfZ r4.num) (nfZ r5.num) (nfZ r6.num) (nfZ r7.num) (sfZ r0.num) (strOf r0.den) (sfZ r1.num) (strOf r1.den) (sfZ r2.num) (strOf r2.den) (sfZ r3.num) (strOf r3.den) (sfZ r4.num) (strOf r4.den) (sfZ r5.num) (strOf r5.den) (sfZ r6.num) (strOf r6.den) (sfZ r7.num) (strOf r7.den) w1 h (z0) (z1) (z2) (z3) (z4) (z5) (z6) (z7); rwa [hE'] at this) (fun w1 b => by have := gWithin_an (nfZ r0.num) (nfZ r1.num) (nfZ r2.num) (nfZ r3.num) (nfZ r4.num) (nfZ r5.num) (nfZ r6.num) (nfZ r7.num) (sfZ r0.num) (strOf r0.den) (sfZ r1.num) (strOf r1.den) (sfZ r2.num) (strOf r2.den) (sfZ r3.num) (strOf r3.den) (sfZ r4.num) (strOf r4.den) (sfZ r5.num) (strOf r5.den) (sfZ r6.num) (strOf r6.den) (sfZ r7.num) (strOf r7.den) w1 (hT.below b) (z0) (z1) (z2) (z3) (z4) (z5) (z6) (z7) (two_zero.2 ⟨(two_zero.2 ⟨(two_zero.2 ⟨tA, tB⟩), tC⟩), tD⟩); simp only [qOf_one] at this; rwa [if_neg h0] at this) (fun w1 b => by have := gCircle_an (nfZ r0.num) (nfZ r1.num) (nfZ r2.num) (nfZ r3.num) (nfZ r4.num) (nfZ r5.num) (nfZ r6.num) (nfZ r7.num) (sfZ r0.num) (strOf r0.den) (sfZ r1.num) (strOf r1.den) (sfZ r2.num) (strOf r2.den) (sfZ r3.num) (strOf r3.den) (sfZ r4.num) (strOf r4.den) (sfZ r5.num) (strOf r5.den) (sfZ r6.num) (strOf r6.den) (sfZ r7.num) (strOf r7.den) w1 (hT.below b) (z0) (z1) (z2) (z3) (z4) (z5) (z6) (z7) (two_zero.2 ⟨(two_zero.2 ⟨(two_zero.2 ⟨tA, tB⟩), tC⟩), tD⟩); simp only [qOf_one] at this; rwa [if_neg h0] at this) hM hX h1 h2 hN hD (eqPI r6 r7 r0 r1 rfl) (eqPI r6 r7 r2 r3 rfl)
  rcases agree_in r0 r1 r2 r3 r4 r5 r6 r7 h0 with ⟨a, b⟩ | ⟨a, b⟩ | a
  ·exact .inr (.inl ⟨rfl, a, b⟩)
  ·exact .inr (.inr (.inl ⟨rfl, a, decide_eq_false (by omega)⟩))
  ·exact .inr (.inr (.inr ⟨rfl, a⟩))
end Go.Proofs.YtiiigiggcbbgjaaGreatDoor
