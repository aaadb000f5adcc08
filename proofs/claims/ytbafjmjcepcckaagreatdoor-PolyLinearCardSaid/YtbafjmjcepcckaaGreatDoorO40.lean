/-
  Points and numbers in their one form: vec, rat.Div; gussetref04's Scale and Plus, gussetref03's Over.
  gussetref06: Asked; gussetref05: Asked of one point.
  Rational numbers in their one form: how long sums and products get; the reference's calls over them.
  Package poly: Check, clearedOf of any six numbers.
  gussetref05: Asked; signs and products of rational numbers in their one form.
  gussetlaw07: at, short, few; gussetref07: one, Check, Asked.
  gussetlaw07: small.
  gussetref05: Orient, Disc, Circle of rational numbers.
  gussetlaw05: brief, moved.
  Rows of whole numbers; slices.Grow and slices.Concat over them.
  Package cons: Area2, walked.
  Package cons, in numbers' one form.
  How long the numbers of a crossing are; what signs tell.
  gussetlaw06: live.
  Package poly: check, walked.
-/
import Derived.Test.YtbafjmjcepcckaaGreatDoorO35
import Derived.Test.YtbafjmjcepcckaaGreatDoorO36
import Derived.Test.YtbafjmjcepcckaaGreatDoorO39
set_option maxRecDepth 100000
set_option maxHeartbeats 16000000
namespace Go.Proofs.YtbafjmjcepcckaaGreatDoor
open Go.RowKit
theorem bq_sz {x : Rat} {K M : Nat} (hK : K ≤ M) (b : Bq x K) : (sfZ x.num).size ≤ M ∧ (strOf x.den).size ≤ M := by
 have h1 : (sfZ x.num).size ≤ K := b.1.size
 have h2 := b.2.size
 simp at h2
 omega
theorem chk_can8 (x : Rat) {K : Nat} (hK : K ≤ 4000) (b : Bq x K) : chkq (nfZ x.num) (sfZ x.num) (strOf x.den) = 0 :=
 chkq_ok (okQ_qI x) (by have := (bq_sz (M := 4000) hK b).1; omega) (by have := (bq_sz (M := 4000) hK b).2; omega)
open Go.RowKit
theorem canon {n : Bool} {s d : ByteArray} {K : Nat} (h : chkq n s d = 0) (z : s.size ≤ K ∧ d.size ≤ K) : ∃ x : Rat, Bq x K ∧ n = nfZ x.num ∧ s = sfZ x.num ∧ d = strOf x.den := by
 have o := (chkq_zero h).1
 obtain ⟨e1, e2, e3⟩ := o.parts
 refine ⟨qOf n s d, ⟨?_, ?_⟩, e1.symm, e2.symm, e3.symm⟩
 ·rw [o.low.1]; exact bd_zOf z.1
 ·rw [o.low.2]
  have := bd_zOf (n := false) z.2
  simpa [zOf] using this
end Go.Proofs.YtbafjmjcepcckaaGreatDoor
namespace Go.Proofs.YtbafjmjcepcckaaGreatDoor
open Go.RowKit Go.Shelf
theorem rtimesI (x y : Rat) {K : Nat} (hK : K ≤ 4000) (bx : Bq x K) (bY : Bq y K) (w : World) :
  Calls Tryz.prog 40 #[.agg #[.bool (nfZ (x).num), .string (sfZ (x).num), .string (strOf (x).den)], .agg #[.bool (nfZ (y).num), .string (sfZ (y).num), .string (strOf (y).den)]] w (Re w (.agg #[.bool (nfZ (x * y).num), .string (sfZ (x * y).num), .string (strOf (x * y).den)])) := by
 have zx := bx.2.size
 have zy := bY.2.size
 have := rtimesq_any (nfZ x.num) (nfZ y.num) (sfZ x.num) (strOf x.den) (sfZ y.num) (strOf y.den) w (okQ_qI x) (okQ_qI y) hK bx.1.size (by simpa using zx) bY.1.size (by simpa using zy)
 rw [show qOf (nfZ x.num) (sfZ x.num) (strOf x.den) = x from qOf_qI x, show qOf (nfZ y.num) (sfZ y.num) (strOf y.den) = y from qOf_qI y] at this
 exact this
theorem rsumI (x y : Rat) {K : Nat} (hK : K ≤ 4000) (bx : Bq x K) (bY : Bq y K) (w : World) :
  Calls Tryz.prog 24 #[.agg #[.bool (nfZ (x).num), .string (sfZ (x).num), .string (strOf (x).den)], .agg #[.bool (nfZ (y).num), .string (sfZ (y).num), .string (strOf (y).den)]] w (Re w (.agg #[.bool (nfZ (x + y).num), .string (sfZ (x + y).num), .string (strOf (x + y).den)])) := by
 have zx := bx.2.size
 have zy := bY.2.size
 have := rsumq_any (nfZ x.num) (nfZ y.num) (sfZ x.num) (strOf x.den) (sfZ y.num) (strOf y.den) w (okQ_qI x) (okQ_qI y) hK bx.1.size (by simpa using zx) bY.1.size (by simpa using zy)
 rw [show qOf (nfZ x.num) (sfZ x.num) (strOf x.den) = x from qOf_qI x, show qOf (nfZ y.num) (sfZ y.num) (strOf y.den) = y from qOf_qI y] at this
 exact this
theorem rlessI (x y : Rat) {K : Nat} (hK : K ≤ 4000) (bx : Bq x K) (bY : Bq y K) (w : World) :
  Calls Tryz.prog 53 #[.agg #[.bool (nfZ (x).num), .string (sfZ (x).num), .string (strOf (x).den)], .agg #[.bool (nfZ (y).num), .string (sfZ (y).num), .string (strOf (y).den)]] w (Re w (.agg #[.bool (nfZ (x - y).num), .string (sfZ (x - y).num), .string (strOf (x - y).den)])) := by
 have zx := bx.2.size
 have zy := bY.2.size
 have := rlessq_any (nfZ x.num) (nfZ y.num) (sfZ x.num) (strOf x.den) (sfZ y.num) (strOf y.den) w (okQ_qI x) (okQ_qI y) hK bx.1.size (by simpa using zx) bY.1.size (by simpa using zy)
 rw [show qOf (nfZ x.num) (sfZ x.num) (strOf x.den) = x from qOf_qI x, show qOf (nfZ y.num) (sfZ y.num) (strOf y.den) = y from qOf_qI y] at this
 exact this
open Go.RowKit
theorem rdq6 {w : World} {B : Nat} {t : TypeId} {N : Nat → Bool} {S D : Nat → ByteArray} (h : Cel w B [.bool (N 0), .string (S 0), .string (D 0), .bool (N 1), .string (S 1), .string (D 1), .bool (N 2), .string (S 2), .string (D 2), .bool (N 3), .string (S 3), .string (D 3), .bool (N 4), .string (S 4), .string (D 4), .bool (N 5), .string (S 5), .string (D 5)] t) : RdQ w (some ⟨B, 0, none⟩) 6 N S D := by
 intro j hj
 refine ⟨B, 0, rfl, ?_⟩
 match j, hj with
 | 0, _ => exact ⟨h.cell 0, h.cell 1, h.cell 2⟩
 | 1, _ => exact ⟨h.cell 3, h.cell 4, h.cell 5⟩
 | 2, _ => exact ⟨h.cell 6, h.cell 7, h.cell 8⟩
 | 3, _ => exact ⟨h.cell 9, h.cell 10, h.cell 11⟩
 | 4, _ => exact ⟨h.cell 12, h.cell 13, h.cell 14⟩
 | 5, _ => exact ⟨h.cell 15, h.cell 16, h.cell 17⟩
theorem pCheck_any (N : Nat → Bool) (S D : Nat → ByteArray) (w : World) (hT : Tab w) (hz : ∀ k, k < 6 → (S k).size ≤ 100 ∧ (D k).size ≤ 100) :
  Calls Tryz.prog 12 #[.agg #[.bool (N 0), .string (S 0), .string (D 0), .bool (N 1), .string (S 1), .string (D 1), .bool (N 2), .string (S 2), .string (D 2), .bool (N 3), .string (S 3), .string (D 3), .bool (N 4), .string (S 4), .string (D 4), .bool (N 5), .string (S 5), .string (D 5)]] w (Re w (.int .i64 (firstE (fun k => chkq (N k) (S k) (D k)) 6 : Nat))) := by
 refine pCheck_walk _ _ _ _ _ _ _ _ _ _ _ _ _ _ _ _ _ _ _ w ?_
 intro w1 B b k
 exact cnums_walk (some ⟨B, 0, none⟩) 6 6 N S D _ w1 (by omega) (rdq6 k) (fun k hk => hz k hk) (fun k w2 _ b2 => rchk_any (N k) (S k) (D k) w2 ((hT.below b).below b2))
theorem cleared_of (r : Nat → Rat) {K : Nat} (hK : K ≤ 100) (w : World) (hT : Tab w) (hb : ∀ k, k < 6 → Bq (r k) K) :
  Calls Tryz.prog 33 #[.agg #[.bool (nfZ (r 0).num), .string (sfZ (r 0).num), .string (strOf (r 0).den), .bool (nfZ (r 1).num), .string (sfZ (r 1).num), .string (strOf (r 1).den), .bool (nfZ (r 2).num), .string (sfZ (r 2).num), .string (strOf (r 2).den), .bool (nfZ (r 3).num), .string (sfZ (r 3).num), .string (strOf (r 3).den), .bool (nfZ (r 4).num), .string (sfZ (r 4).num), .string (strOf (r 4).den), .bool (nfZ (r 5).num), .string (sfZ (r 5).num), .string (strOf (r 5).den)]] w fun e w' => ∃ g m v a l c, e = .returned (.agg #[.slice (some ⟨g, 0, none⟩) 6 6, .bool false, .slice a l c]) ∧ Cells w' g 68 (6 * 2) (fnn m v 6) ∧ NVs w' m v (fun q => (r q).num * ((um r 6 / (r q).den : Nat) : Int)) (80 + 80) 6 ∧ NV w' false (.slice a l c) ((um r 6 : Nat) : Int) 80 ∧ Below w.heap.size w w' := by
 refine cleared_walk _ _ _ _ _ _ _ _ _ _ _ _ _ _ _ _ _ _ _ _ _ _ w ?_
 intro w1 B b k
 exact shared_any (some ⟨B, 0, none⟩) 6 6 r hK (by omega) w1 (hT.below b) (rdq6 (N := fun k => nfZ (r k).num) (S := fun k => sfZ (r k).num) (D := fun k => strOf (r k).den) k) hb
open Go.RowKit
theorem rsignI (x : Rat) (w : World) : Calls Tryz.prog 25 #[.agg #[.bool (nfZ (x).num), .string (sfZ (x).num), .string (strOf (x).den)]] w (Re w (.int .i64 (Gm.sg x))) := by
 rcases Gm.sg_cases x with ⟨h, e⟩ | ⟨h, e⟩ | ⟨h, e⟩
 ·rw [e, h]
  exact rsign_zero _ w
 ·rw [e]
  have hp := Gm.num_pos h
  have h1 : nfZ x.num = false := by unfold nfZ; exact decide_eq_false (by omega)
  have h2 : (sfZ x.num).toList.isEmpty = false := by
   unfold sfZ
   rw [strOf_empty]
   exact decide_eq_false (by omega)
  rw [h1]
  exact rsign_pos _ _ h2 w
 ·rw [e]
  have hp := Gm.num_pos (q := -x) (by grind)
  rw [Rat.neg_num] at hp
  have h1 : nfZ x.num = true := by unfold nfZ; exact decide_eq_true (by omega)
  rw [h1]
  exact rsign_neg _ _ w
theorem rminusP (x y x' y' : Rat) {K : Nat} (hK : K ≤ 4000) (b0 : Bq x K) (b1 : Bq y K) (b2 : Bq x' K) (b3 : Bq y' K) (w : World) : Calls Tryz.prog 71 #[.agg #[.bool (nfZ (x).num), .string (sfZ (x).num), .string (strOf (x).den), .bool (nfZ (y).num), .string (sfZ (y).num), .string (strOf (y).den)], .agg #[.bool (nfZ (x').num), .string (sfZ (x').num), .string (strOf (x').den), .bool (nfZ (y').num), .string (sfZ (y').num), .string (strOf (y').den)]] w (Re w (.agg #[.bool (nfZ (x - x').num), .string (sfZ (x - x').num), .string (strOf (x - x').den), .bool (nfZ (y - y').num), .string (sfZ (y - y').num), .string (strOf (y - y').den)])) :=
 rminus4_walk _ _ _ _ _ _ _ _ _ _ _ _ _ _ _ _ _ _ w (fun w1 => rlessI x x' hK b0 b2 w1) (fun w1 => rlessI y y' hK b1 b3 w1)
theorem rcrossP (x y x' y' : Rat) {K : Nat} (hK : K + K + 1 ≤ 4000) (b0 : Bq x K) (b1 : Bq y K) (b2 : Bq x' K) (b3 : Bq y' K) (w : World) : Calls Tryz.prog 70 #[.agg #[.bool (nfZ (x).num), .string (sfZ (x).num), .string (strOf (x).den), .bool (nfZ (y).num), .string (sfZ (y).num), .string (strOf (y).den)], .agg #[.bool (nfZ (x').num), .string (sfZ (x').num), .string (strOf (x').den), .bool (nfZ (y').num), .string (sfZ (y').num), .string (strOf (y').den)]] w (Re w (.agg #[.bool (nfZ (x * y' - y * x').num), .string (sfZ (x * y' - y * x').num), .string (strOf (x * y' - y * x').den)])) :=
 rcross4_walk _ _ _ _ _ _ _ _ _ _ _ _ _ _ _ _ _ _ _ _ _ w (fun w1 => rtimesI x y' (K := K) (by omega) b0 b3 w1) (fun w1 => rtimesI y x' (K := K) (by omega) b1 b2 w1) (fun w1 => rlessI (x * y') (y * x') hK (vq_mul b0 b3) (vq_mul b1 b2) w1)
open Go.RowKit
theorem lat7_any (x y : Int) (h1 : -1000 ≤ x) (h2 : x ≤ 1000) (h3 : -1000 ≤ y) (h4 : y ≤ 1000) (w : World) :
  Calls Tryz.prog 31 #[.int .i64 x, .int .i64 y] w (Re w (.agg #[.bool (nfZ x), .string (sfZ x), .string ⟨#[1]⟩, .bool (nfZ y), .string (sfZ y), .string ⟨#[1]⟩])) := by
 have H1 := shut (fun w => roq_any x h1 h2 w)
 have H2 := shut (fun w => roq_any y h3 h4 w)
 clear h1 h2 h3 h4
 go_enter Tryz.func31, Tryz.ntmps31
 go_wp2_with fail
 go_fit (H1.out _)
 rintro e w1 ⟨rfl, b1⟩
 obtain ⟨kr, bb⟩ := al1 b1
 clear b1
 go_wp2_with fail
 go_fit (H2.out _)
 rintro e w2 ⟨rfl, b1⟩
 replace kr := kr.below b1
 replace bb := Below.after bb b1
 clear b1
 have f0 := Cel.frozen kr 0
 have f1 := Cel.frozen kr 1
 have f2 := Cel.frozen kr 2
 have f3 := Cel.frozen kr 3
 have f4 := Cel.frozen kr 4
 have f5 := Cel.frozen kr 5
 obtain ⟨r0, r1, r2, r3, r4, r5⟩ := xk6 kr
 go_wp2
 exact post_p (p := 4) (by kernel_rfl) rfl rfl (kr.set6 _ _ _ _ _ _) ⟨rfl, bset6 bb (Nat.le_refl _) _ _ _ _ _ _⟩
def sh7 (s d : ByteArray) : Bool := decide (s.size ≤ 30 ∧ d.size ≤ 30)
theorem short7_any (n : Bool) (s d : ByteArray) (w : World) :
  Calls Tryz.prog 29 #[.agg #[.bool n, .string s, .string d]] w (Re w (.bool (sh7 s d))) := by
 by_cases hs : s.size ≤ 30
 ·by_cases hd : d.size ≤ 30
  ·have e : Hid (sh7 s d = true) := decide_eq_true ⟨hs, hd⟩
   have i1 : (s.size : Int) ≤ 30 := by omega
   have i2 : (d.size : Int) ≤ 30 := by omega
   go_enter Tryz.func29, Tryz.ntmps29
   go_wp2
   go_ret
   exact ⟨by rw [e.out]; rfl, bel_al _ _⟩
  ·have e : Hid (sh7 s d = false) := decide_eq_false fun h => hd h.2
   have i1 : (s.size : Int) ≤ 30 := by omega
   have i2 : ¬ (d.size : Int) ≤ 30 := by omega
   go_enter Tryz.func29, Tryz.ntmps29
   go_wp2
   go_ret
   exact ⟨by rw [e.out]; rfl, bel_al _ _⟩
 ·have e : Hid (sh7 s d = false) := decide_eq_false fun h => hs h.1
  have i1 : ¬ (s.size : Int) ≤ 30 := by omega
  go_enter Tryz.func29, Tryz.ntmps29
  go_wp2
  go_ret
  exact ⟨by rw [e.out]; rfl, bel_al _ _⟩
def allB (b : Nat → Bool) : Nat → Bool
 | 0 => true
 | n + 1 => allB b n && b n
theorem allB_stop {b : Nat → Bool} {k : Nat} (hc : b k = false) : ∀ n, k < n → allB b n = false
 | n + 1, h => by
  unfold allB
  rcases Nat.lt_or_ge k n with q | q
  ·rw [allB_stop hc n q]; rfl
  ·obtain rfl : k = n := by omega
   rw [hc]; simp
theorem allB_all {b : Nat → Bool} {n : Nat} (h : allB b n = true) : ∀ k, k < n → b k = true := fun k hk => by
 cases hb : b k with
 | true => rfl
 | false => rw [allB_stop hb n hk] at h; cases h
theorem rdq_f {w : World} {B : Nat} {t : TypeId} {N : Nat → Bool} {S D : Nat → ByteArray} (h : Cel w B [.bool (N 0), .string (S 0), .string (D 0), .bool (N 1), .string (S 1), .string (D 1), .bool (N 2), .string (S 2), .string (D 2), .bool (N 3), .string (S 3), .string (D 3), .bool (N 4), .string (S 4), .string (D 4), .bool (N 5), .string (S 5), .string (D 5)] t) : RdQ w (some ⟨B, 0, none⟩) 6 N S D := rdq6 h
theorem rdpt_f {w : World} {B : Nat} {t : TypeId} {P P' : Nat → Bool} {Q R Q' R' : Nat → ByteArray} (h : Cel w B [.bool (P 0), .string (Q 0), .string (R 0), .bool (P' 0), .string (Q' 0), .string (R' 0), .bool (P 1), .string (Q 1), .string (R 1), .bool (P' 1), .string (Q' 1), .string (R' 1), .bool (P 2), .string (Q 2), .string (R 2), .bool (P' 2), .string (Q' 2), .string (R' 2)] t) : RdPt w (some ⟨B, 0, none⟩) 3 P Q R P' Q' R' := fun j hj => by
 refine ⟨B, 0, rfl, ?_⟩
 match j, hj with
 | 0, _ => exact ⟨h.cell 0, h.cell 1, h.cell 2, h.cell 3, h.cell 4, h.cell 5⟩
 | 1, _ => exact ⟨h.cell 6, h.cell 7, h.cell 8, h.cell 9, h.cell 10, h.cell 11⟩
 | 2, _ => exact ⟨h.cell 12, h.cell 13, h.cell 14, h.cell 15, h.cell 16, h.cell 17⟩
theorem few7_walk (N P P' : Nat → Bool) (S D Q R Q' R' : Nat → ByteArray) (w : World)
  (HS : Hid (∀ (n : Bool) (s d : ByteArray) (w1 : World), Calls Tryz.prog 29 #[.agg #[.bool n, .string s, .string d]] w1 (Re w1 (.bool (sh7 s d))))) :
  Calls Tryz.prog 8 #[.agg #[.bool (N 0), .string (S 0), .string (D 0), .bool (N 1), .string (S 1), .string (D 1), .bool (N 2), .string (S 2), .string (D 2), .bool (N 3), .string (S 3), .string (D 3), .bool (N 4), .string (S 4), .string (D 4), .bool (N 5), .string (S 5), .string (D 5)], .agg #[.bool (P 0), .string (Q 0), .string (R 0), .bool (P' 0), .string (Q' 0), .string (R' 0), .bool (P 1), .string (Q 1), .string (R 1), .bool (P' 1), .string (Q' 1), .string (R' 1), .bool (P 2), .string (Q 2), .string (R 2), .bool (P' 2), .string (Q' 2), .string (R' 2)]] w (Re w (.bool (allB (fun k => sh7 (S k) (D k)) 6 && allB (fun k => sh7 (Q k) (R k) && sh7 (Q' k) (R' k)) 3))) := by
 generalize hA : allB (fun k => sh7 (Q k) (R k) && sh7 (Q' k) (R' k)) 3 = A3
 generalize hB : allB (fun k => sh7 (S k) (D k)) 6 = A6
 replace hA := shut hA
 replace hB := shut hB
 go_enter Tryz.func8, Tryz.ntmps8
 go_upto_region 1 with fail
 obtain ⟨w0, hq, kf, kt, bb⟩ := mk2 w [.bool (N 0), .string (S 0), .string (D 0), .bool (N 1), .string (S 1), .string (D 1), .bool (N 2), .string (S 2), .string (D 2), .bool (N 3), .string (S 3), .string (D 3), .bool (N 4), .string (S 4), .string (D 4), .bool (N 5), .string (S 5), .string (D 5)] [.bool (P 0), .string (Q 0), .string (R 0), .bool (P' 0), .string (Q' 0), .string (R' 0), .bool (P 1), .string (Q 1), .string (R 1), .bool (P' 1), .string (Q' 1), .string (R' 1), .bool (P 2), .string (Q 2), .string (R 2), .bool (P' 2), .string (Q' 2), .string (R' 2)] 28 32
 rw [← hq]
 clear hq
 have hf := shut (rdq_f kf)
 have hp := shut (rdpt_f kt)
 clear kf kt
 have b0 := bb
 go_wp2_with fail
 go_loopw [5] (fun i wr => Below w0.heap.size w0 wr ∧ ∃ k : Nat, k ≤ 6 ∧ i = .int .i64 k ∧ allB (fun k => sh7 (S k) (D k)) k = true) (fun i _ => 6 - (intOf i).toNat)
 case atStart => exact ⟨Below.refl _ _, 0, by omega, rfl, rfl⟩
 case round =>
  clear bb
  obtain ⟨bb, k, hk, rfl, hz⟩ := hrel
  replace hz := shut hz
  by_cases hkn : k < 6
  ·obtain ⟨b, off, e, h0, h1, h2⟩ := hf.out.below bb k hkn
   injection e with e
   injection e with e1 e2
   subst e1 e2
   rw [Nat.zero_add] at h0 h1 h2
   have i1 : (k : Int) < 6 := by omega
   have i2 : ¬ (k : Int) < 0 := by omega
   go_wp2_with fail
   clear h0 h1 h2
   go_fit (HS.out _ _ _ _)
   rintro e w3 ⟨rfl, b1⟩
   replace bb := Below.after bb b1
   clear b1
   cases hc : sh7 (S k) (D k) with
   | true =>
    have hs : Hid (allB (fun k => sh7 (S k) (D k)) (k + 1) = true) := by show allB _ (k + 1) = true; unfold allB; rw [hz.out, hc]; rfl
    clear hc
    go_wp2
    exact ⟨⟨bb, k + 1, by omega, by go_num, hs.out⟩, by simp [intOf]; omega⟩
   | false =>
    have hs := hB.out
    rw [allB_stop hc 6 hkn] at hs
    subst hs
    clear hc
    go_wp2
    go_ret
    exact ⟨rfl, Below.after b0 bb⟩
  ·obtain rfl : k = 6 := by omega
   have hs := hB.out
   rw [hz.out] at hs
   subst hs
   clear hz hB hf hkn
   have i3 : ¬ ((6 : Nat) : Int) < 6 := by omega
   have b0' := Below.after b0 bb
   have hp' := shut (hp.out.below bb)
   clear bb b0 hp
   go_wp2_with fail
   clear i3
   go_loopw [6] (fun i wq => Below wr.heap.size wr wq ∧ ∃ k : Nat, k ≤ 3 ∧ i = .int .i64 k ∧ allB (fun k => sh7 (Q k) (R k) && sh7 (Q' k) (R' k)) k = true) (fun i _ => 3 - (intOf i).toNat)
   case atStart => exact ⟨Below.refl _ _, 0, by omega, rfl, rfl⟩
   case round =>
    obtain ⟨bb, k, hk, rfl, hz⟩ := hrel
    replace hz := shut hz
    by_cases hkn : k < 3
    ·obtain ⟨b, off, e, h0, h1, h2, h3, h4, h5⟩ := hp'.out.below bb k hkn
     injection e with e
     injection e with e1 e2
     subst e1 e2
     rw [Nat.zero_add] at h0 h1 h2 h3 h4 h5
     have i1 : (k : Int) < 3 := by omega
     have i2 : ¬ (k : Int) < 0 := by omega
     go_wp2_with fail
     go_fit (HS.out _ _ _ _)
     rintro e w3 ⟨rfl, b1⟩
     replace bb := Below.after bb b1
     replace h3 := cell_below h3 b1
     replace h4 := cell_below h4 b1
     replace h5 := cell_below h5 b1
     clear b1 h0 h1 h2
     cases hc : sh7 (Q k) (R k) with
     | false =>
      have hs := hA.out
      rw [allB_stop (show (sh7 (Q k) (R k) && sh7 (Q' k) (R' k)) = false by rw [hc]; rfl) 3 hkn] at hs
      subst hs
      clear hc
      go_wp2
      go_ret
      exact ⟨rfl, Below.after b0' bb⟩
     | true =>
      replace hc := shut hc
      go_wp2_with fail
      clear h3 h4 h5
      go_fit (HS.out _ _ _ _)
      rintro e w4 ⟨rfl, b1⟩
      replace bb := Below.after bb b1
      clear b1
      cases hd : sh7 (Q' k) (R' k) with
      | false =>
       have hs := hA.out
       rw [allB_stop (show (sh7 (Q k) (R k) && sh7 (Q' k) (R' k)) = false by rw [hd]; simp) 3 hkn] at hs
       subst hs
       clear hd
       go_wp2
       go_ret
       exact ⟨rfl, Below.after b0' bb⟩
      | true =>
       have hs : Hid (allB (fun k => sh7 (Q k) (R k) && sh7 (Q' k) (R' k)) (k + 1) = true) := by show allB _ (k + 1) = true; unfold allB; rw [hz.out, hc.out, hd]; rfl
       clear hd
       go_wp2
       exact ⟨⟨bb, k + 1, by omega, by go_num, hs.out⟩, by simp [intOf]; omega⟩
    ·obtain rfl : k = 3 := by omega
     have hs := hA.out
     rw [hz.out] at hs
     subst hs
     clear hz hA
     have i3 : ¬ ((3 : Nat) : Int) < 3 := by omega
     go_wp2
     go_ret
     exact ⟨rfl, Below.after b0' bb⟩
theorem few7_any (N P P' : Nat → Bool) (S D Q R Q' R' : Nat → ByteArray) (w : World) :
  Calls Tryz.prog 8 #[.agg #[.bool (N 0), .string (S 0), .string (D 0), .bool (N 1), .string (S 1), .string (D 1), .bool (N 2), .string (S 2), .string (D 2), .bool (N 3), .string (S 3), .string (D 3), .bool (N 4), .string (S 4), .string (D 4), .bool (N 5), .string (S 5), .string (D 5)], .agg #[.bool (P 0), .string (Q 0), .string (R 0), .bool (P' 0), .string (Q' 0), .string (R' 0), .bool (P 1), .string (Q 1), .string (R 1), .bool (P' 1), .string (Q' 1), .string (R' 1), .bool (P 2), .string (Q 2), .string (R 2), .bool (P' 2), .string (Q' 2), .string (R' 2)]] w (Re w (.bool (allB (fun k => sh7 (S k) (D k)) 6 && allB (fun k => sh7 (Q k) (R k) && sh7 (Q' k) (R' k)) 3))) :=
 few7_walk N P P' S D Q R Q' R' w (fun n s d w1 => short7_any n s d w1)
theorem one7 (n : Bool) (s d : ByteArray) (w : World) (z : s.size ≤ 100 ∧ d.size ≤ 100) :
  Calls Tryz.prog 37 #[.agg #[.bool n, .string s, .string d]] w (Re w (.int .i64 (chkq n s d : Nat))) := by
 have i0 : ¬ (100 : Int) < s.size := by omega
 have i1 : ¬ (100 : Int) < d.size := by omega
 have HC : Hid (∀ w1, Calls Tryz.prog 63 #[.agg #[.bool n, .string s, .string d]] w1 (Re w1 (.int .i64 (chkq n s d : Nat)))) := fun w1 => refc_any n s d w1 (by omega) (by omega)
 clear z
 go_enter Tryz.func37, Tryz.ntmps37
 go_wp2_with fail
 go_fit (HC.out _)
 rintro e w1 ⟨rfl, b1⟩
 obtain ⟨-, bb⟩ := al1 b1
 clear b1
 go_wp2
 go_ret
 exact ⟨rfl, bb⟩
theorem rcheck7 (N : Nat → Bool) (S D : Nat → ByteArray) (w : World) (hz : ∀ k, k < 6 → (S k).size ≤ 100 ∧ (D k).size ≤ 100) :
  Calls Tryz.prog 11 #[.agg #[.bool (N 0), .string (S 0), .string (D 0), .bool (N 1), .string (S 1), .string (D 1), .bool (N 2), .string (S 2), .string (D 2), .bool (N 3), .string (S 3), .string (D 3), .bool (N 4), .string (S 4), .string (D 4), .bool (N 5), .string (S 5), .string (D 5)]] w (Re w (.int .i64 (firstE (fun k => chkq (N k) (S k) (D k)) 6 : Nat))) := by
 replace hz := shut hz
 generalize hc : (fun k => chkq (N k) (S k) (D k)) = c
 replace hc := shut hc
 go_enter Tryz.func11, Tryz.ntmps11
 go_upto_region 1 with fail
 obtain ⟨w0, hq, kf, bb⟩ := mk1 w [.bool (N 0), .string (S 0), .string (D 0), .bool (N 1), .string (S 1), .string (D 1), .bool (N 2), .string (S 2), .string (D 2), .bool (N 3), .string (S 3), .string (D 3), .bool (N 4), .string (S 4), .string (D 4), .bool (N 5), .string (S 5), .string (D 5)] 28
 rw [← hq]
 clear hq
 have hf := shut (rdq_f kf)
 clear kf
 have b0 := bb
 clear bb
 go_wp2_with fail
 go_loopw [3] (fun i wr => Below w0.heap.size w0 wr ∧ ∃ k : Nat, k ≤ 6 ∧ i = .int .i64 k ∧ firstE c k = 0) (fun i _ => 6 - (intOf i).toNat)
 case atStart => exact ⟨Below.refl _ _, 0, by omega, rfl, rfl⟩
 case round =>
  obtain ⟨bb, k, hk, rfl, hE⟩ := hrel
  by_cases hkn : k < 6
  ·obtain ⟨b, off, e, h0, h1, h2⟩ := hf.out.below bb k hkn
   injection e with e
   injection e with e1 e2
   subst e1 e2
   rw [Nat.zero_add] at h0 h1 h2
   have i1 : (k : Int) < 6 := by omega
   have i2 : ¬ (k : Int) < 0 := by omega
   replace hE := shut hE
   go_wp2_with fail
   clear h0 h1 h2
   go_fit (one7 _ _ _ _ (hz.out k hkn))
   rintro e w3 ⟨rfl, b1⟩
   replace bb := Below.after bb b1
   clear b1
   have ek : chkq (N k) (S k) (D k) = c k := by rw [← hc.out]
   rw [ek]
   clear ek
   by_cases hc0 : c k = 0
   ·have hs : Hid (firstE c (k + 1) = 0) := by show firstE c (k + 1) = 0; unfold firstE; rw [if_pos hE.out, hc0]
    rw [hc0]
    go_wp2
    exact ⟨⟨bb, k + 1, by omega, by go_num, hs.out⟩, by simp [intOf]; omega⟩
   ·have hs := shut (firstE_stop hE.out hc0 6 hkn)
    go_wp2
    go_ret
    exact ⟨by rw [hs.out]; rfl, Below.after b0 bb⟩
  ·obtain rfl : k = 6 := by omega
   replace hE := shut hE
   have i3 : ¬ ((6 : Nat) : Int) < 6 := by omega
   go_wp2
   go_ret
   exact ⟨by rw [hE.out]; rfl, Below.after b0 bb⟩
theorem asked7 (a : Option Addr) (n cap : Nat) (P P' : Nat → Bool) (Q R Q' R' : Nat → ByteArray) (w : World) (hn : n ≤ 1000) (hp : RdPt w a n P Q R P' Q' R') (hz : ∀ k, k < n → ((Q k).size ≤ 100 ∧ (R k).size ≤ 100) ∧ ((Q' k).size ≤ 100 ∧ (R' k).size ≤ 100)) :
  Calls Tryz.prog 13 #[.slice a n cap] w (Re w (.int .i64 (firstE (fun k => two (chkq (P k) (Q k) (R k)) (chkq (P' k) (Q' k) (R' k))) n : Nat))) := by
 replace hz := shut hz
 replace hp := shut hp
 generalize hc : (fun k => two (chkq (P k) (Q k) (R k)) (chkq (P' k) (Q' k) (R' k))) = c
 replace hc := shut hc
 go_enter Tryz.func13, Tryz.ntmps13
 go_wp2_with fail
 go_loopw [3] (fun i wr => Below w.heap.size w wr ∧ ∃ k : Nat, k ≤ n ∧ i = .int .i64 k ∧ firstE c k = 0) (fun i _ => n - (intOf i).toNat)
 case atStart => exact ⟨Below.refl _ _, 0, by omega, rfl, rfl⟩
 case round =>
  obtain ⟨bb, k, hk, rfl, hE⟩ := hrel
  by_cases hkn : k < n
  ·obtain ⟨b, off, rfl, h0, h1, h2, h3, h4, h5⟩ := hp.out.below bb k hkn
   have i1 : (k : Int) < (n : Int) := by omega
   have i2 : ¬ (k : Int) < 0 := by omega
   replace hE := shut hE
   go_wp2_with fail
   clear h0 h1 h2
   go_fit (one7 _ _ _ _ (hz.out k hkn).1)
   rintro e w3 ⟨rfl, b1⟩
   replace bb := Below.after bb b1
   replace h3 := cell_below h3 b1
   replace h4 := cell_below h4 b1
   replace h5 := cell_below h5 b1
   clear b1
   have ek : two (chkq (P k) (Q k) (R k)) (chkq (P' k) (Q' k) (R' k)) = c k := by rw [← hc.out]
   generalize ev : chkq (P k) (Q k) (R k) = v at *
   generalize ew : chkq (P' k) (Q' k) (R' k) = u at *
   by_cases hv : v = 0
   ·subst hv
    have ek' : u = c k := by rw [← ek]; rfl
    replace ew := shut ew
    clear ek ev
    go_wp2_with fail
    clear h3 h4 h5
    go_fit (one7 _ _ _ _ (hz.out k hkn).2)
    rintro e w4 ⟨rfl, b1⟩
    replace bb := Below.after bb b1
    clear b1
    rw [ew.out]
    clear ew
    subst ek'
    by_cases hc0 : c k = 0
    ·have hs : Hid (firstE c (k + 1) = 0) := by show firstE c (k + 1) = 0; unfold firstE; rw [if_pos hE.out, hc0]
     rw [hc0]
     go_wp2
     exact ⟨⟨bb, k + 1, by omega, by go_num, hs.out⟩, by simp [intOf]; omega⟩
    ·have hs := shut (firstE_stop hE.out hc0 n hkn)
     go_wp2
     go_ret
     exact ⟨by rw [hs.out]; rfl, bb⟩
   ·have ek' : v = c k := by rw [← ek]; unfold two; rw [if_neg hv]
    have hs := shut (firstE_stop hE.out (show c k ≠ 0 by omega) n hkn)
    clear ek ev ew h3 h4 h5
    subst ek'
    go_wp2
    go_ret
    exact ⟨by rw [hs.out]; rfl, bb⟩
  ·obtain rfl : k = n := by omega
   replace hE := shut hE
   have i3 : ¬ (k : Int) < (k : Int) := by omega
   go_wp2
   go_ret
   exact ⟨by rw [hE.out]; rfl, bb⟩
open Go.RowKit
theorem load_f18 {w : World} {g : Nat} {cs : List Value} (h : Cel w g cs 28) (hl : cs.length = 18) : (loadVar 28 ⟨g, 0, none⟩).run Tryz.prog w = .ok (.agg cs.toArray) w :=
 run_loadVar_row w g 28 28 cs.toArray (0, 0) _ h Tryz.underlying28 rfl (by rw [List.size_toArray, hl]; kernel_rfl)
theorem post_f18 {fn : Func} {p : Tmp} {R : Ending → World → Prop} {a : Act} {w : World} {g : Nat} {cs : List Value} (h : fn.results = #[.cell p 28]) (hp : a.tmps.getD p undef = .pointer (some ⟨g, 0, none⟩)) (hd : a.defers = [])
  (hc : Cel w g cs 28) (hl : cs.length = 18) (hR : R (.returned (.agg cs.toArray)) w) : bodyPost Tryz.prog fn R .ret a w := by
 refine ⟨hd, .agg cs.toArray, ?_, hR⟩
 have hp' : a.tmps[p]?.getD undef = .pointer (some ⟨g, 0, none⟩) := by simpa using hp
 simp only [results, h]
 simp [hp', asAddr, load_f18 hc hl]
theorem small7_walk (l : Nat → Int) (w : World)
  (HO : Hid (∀ k w1, k < 6 → Calls Tryz.prog 23 #[.int .i64 (l k)] w1 (Re w1 (.agg #[.bool (nfZ (l k)), .string (sfZ (l k)), .string ⟨#[1]⟩])))) :
  Calls Tryz.prog 30 #[.agg #[.int .i64 (l 0), .int .i64 (l 1), .int .i64 (l 2), .int .i64 (l 3), .int .i64 (l 4), .int .i64 (l 5)]] w (Re w (.agg #[.bool (nfZ (l 0)), .string (sfZ (l 0)), .string ⟨#[1]⟩, .bool (nfZ (l 1)), .string (sfZ (l 1)), .string ⟨#[1]⟩, .bool (nfZ (l 2)), .string (sfZ (l 2)), .string ⟨#[1]⟩, .bool (nfZ (l 3)), .string (sfZ (l 3)), .string ⟨#[1]⟩, .bool (nfZ (l 4)), .string (sfZ (l 4)), .string ⟨#[1]⟩, .bool (nfZ (l 5)), .string (sfZ (l 5)), .string ⟨#[1]⟩])) := by
 go_enter Tryz.func30, Tryz.ntmps30
 go_upto_region 2 with fail
 obtain ⟨w0, hq, kl, kr, ko, bb⟩ := mk3 w [.int .i64 (l 0), .int .i64 (l 1), .int .i64 (l 2), .int .i64 (l 3), .int .i64 (l 4), .int .i64 (l 5)] [.bool false, .string { data := #[] }, .string { data := #[] }, .bool false, .string { data := #[] }, .string { data := #[] }, .bool false, .string { data := #[] }, .string { data := #[] }, .bool false, .string { data := #[] }, .string { data := #[] }, .bool false, .string { data := #[] }, .string { data := #[] }, .bool false, .string { data := #[] }, .string { data := #[] }] [.bool false, .string { data := #[] }, .string { data := #[] }, .bool false, .string { data := #[] }, .string { data := #[] }, .bool false, .string { data := #[] }, .string { data := #[] }, .bool false, .string { data := #[] }, .string { data := #[] }, .bool false, .string { data := #[] }, .string { data := #[] }, .bool false, .string { data := #[] }, .string { data := #[] }] 62 28 28
 rw [← hq]
 clear hq
 go_wp2_with fail
 refine wp_loop_rounds 7 ?_
 rw [rounds_succ]
 obtain ⟨c0, c1, c2, c3, c4, c5⟩ := xk6 kl
 go_wp2_with fail
 clear c0 c1 c2 c3 c4 c5
 go_fit (HO.out 0 _ (by omega))
 rintro e w1 ⟨rfl, b1⟩
 replace kl := kl.below b1
 replace kr := kr.below b1
 replace ko := ko.below b1
 replace bb := Below.after bb b1
 clear b1
 have e0 := ko.cell 0
 have f0 := Cel.frozen ko 0
 have e1 := ko.cell 1
 have f1 := Cel.frozen ko 1
 have e2 := ko.cell 2
 have f2 := Cel.frozen ko 2
 simp only [List.getElem?_cons_zero, List.getElem?_cons_succ] at e0 e1 e2
 go_wp2_with fail
 clear e0 e1 e2 f0 f1 f2
 obtain ⟨x1, hw⟩ : ∃ x, x = ((w1.setCell ⟨w.heap.size + 1 + 1, 0, none⟩ (.bool (nfZ (l 0)))).setCell ⟨w.heap.size + 1 + 1, 1, none⟩ (.string (sfZ (l 0)))).setCell ⟨w.heap.size + 1 + 1, 2, none⟩ (.string ⟨#[1]⟩) := ⟨_, rfl⟩
 rw [← hw]
 replace kl := ((kl.other (show _ ≠ w.heap.size + 1 + 1 by omega) 0 (.bool (nfZ (l 0)))).other (show _ ≠ w.heap.size + 1 + 1 by omega) 1 (.string (sfZ (l 0)))).other (show _ ≠ w.heap.size + 1 + 1 by omega) 2 (.string ⟨#[1]⟩)
 replace kr := ((kr.other (show _ ≠ w.heap.size + 1 + 1 by omega) 0 (.bool (nfZ (l 0)))).other (show _ ≠ w.heap.size + 1 + 1 by omega) 1 (.string (sfZ (l 0)))).other (show _ ≠ w.heap.size + 1 + 1 by omega) 2 (.string ⟨#[1]⟩)
 replace ko : Cel _ (w.heap.size + 1 + 1) [.bool (nfZ (l 0)), .string (sfZ (l 0)), .string ⟨#[1]⟩, .bool false, .string { data := #[] }, .string { data := #[] }, .bool false, .string { data := #[] }, .string { data := #[] }, .bool false, .string { data := #[] }, .string { data := #[] }, .bool false, .string { data := #[] }, .string { data := #[] }, .bool false, .string { data := #[] }, .string { data := #[] }] 28 := ((ko.set 0 (.bool (nfZ (l 0)))).set 1 (.string (sfZ (l 0)))).set 2 (.string ⟨#[1]⟩)
 replace bb := bset (bset (bset bb (show w.heap.size ≤ w.heap.size + 1 + 1 by omega) 0 (.bool (nfZ (l 0)))) (show w.heap.size ≤ w.heap.size + 1 + 1 by omega) 1 (.string (sfZ (l 0)))) (show w.heap.size ≤ w.heap.size + 1 + 1 by omega) 2 (.string ⟨#[1]⟩)
 rw [← hw] at kl kr ko bb
 clear hw
 rw [rounds_succ]
 obtain ⟨c0, c1, c2, c3, c4, c5⟩ := xk6 kl
 go_wp2_with fail
 clear c0 c1 c2 c3 c4 c5
 go_fit (HO.out 1 _ (by omega))
 rintro e w2 ⟨rfl, b1⟩
 replace kl := kl.below b1
 replace kr := kr.below b1
 replace ko := ko.below b1
 replace bb := Below.after bb b1
 clear b1
 have e0 := ko.cell 3
 have f0 := Cel.frozen ko 3
 have e1 := ko.cell 4
 have f1 := Cel.frozen ko 4
 have e2 := ko.cell 5
 have f2 := Cel.frozen ko 5
 simp only [List.getElem?_cons_zero, List.getElem?_cons_succ] at e0 e1 e2
 go_wp2_with fail
 clear e0 e1 e2 f0 f1 f2
 obtain ⟨x2, hw⟩ : ∃ x, x = ((w2.setCell ⟨w.heap.size + 1 + 1, 3, none⟩ (.bool (nfZ (l 1)))).setCell ⟨w.heap.size + 1 + 1, 4, none⟩ (.string (sfZ (l 1)))).setCell ⟨w.heap.size + 1 + 1, 5, none⟩ (.string ⟨#[1]⟩) := ⟨_, rfl⟩
 rw [← hw]
 replace kl := ((kl.other (show _ ≠ w.heap.size + 1 + 1 by omega) 3 (.bool (nfZ (l 1)))).other (show _ ≠ w.heap.size + 1 + 1 by omega) 4 (.string (sfZ (l 1)))).other (show _ ≠ w.heap.size + 1 + 1 by omega) 5 (.string ⟨#[1]⟩)
 replace kr := ((kr.other (show _ ≠ w.heap.size + 1 + 1 by omega) 3 (.bool (nfZ (l 1)))).other (show _ ≠ w.heap.size + 1 + 1 by omega) 4 (.string (sfZ (l 1)))).other (show _ ≠ w.heap.size + 1 + 1 by omega) 5 (.string ⟨#[1]⟩)
 replace ko : Cel _ (w.heap.size + 1 + 1) [.bool (nfZ (l 0)), .string (sfZ (l 0)), .string ⟨#[1]⟩, .bool (nfZ (l 1)), .string (sfZ (l 1)), .string ⟨#[1]⟩, .bool false, .string { data := #[] }, .string { data := #[] }, .bool false, .string { data := #[] }, .string { data := #[] }, .bool false, .string { data := #[] }, .string { data := #[] }, .bool false, .string { data := #[] }, .string { data := #[] }] 28 := ((ko.set 3 (.bool (nfZ (l 1)))).set 4 (.string (sfZ (l 1)))).set 5 (.string ⟨#[1]⟩)
 replace bb := bset (bset (bset bb (show w.heap.size ≤ w.heap.size + 1 + 1 by omega) 3 (.bool (nfZ (l 1)))) (show w.heap.size ≤ w.heap.size + 1 + 1 by omega) 4 (.string (sfZ (l 1)))) (show w.heap.size ≤ w.heap.size + 1 + 1 by omega) 5 (.string ⟨#[1]⟩)
 rw [← hw] at kl kr ko bb
 clear hw
 rw [rounds_succ]
 obtain ⟨c0, c1, c2, c3, c4, c5⟩ := xk6 kl
 go_wp2_with fail
 clear c0 c1 c2 c3 c4 c5
 go_fit (HO.out 2 _ (by omega))
 rintro e w3 ⟨rfl, b1⟩
 replace kl := kl.below b1
 replace kr := kr.below b1
 replace ko := ko.below b1
 replace bb := Below.after bb b1
 clear b1
 have e0 := ko.cell 6
 have f0 := Cel.frozen ko 6
 have e1 := ko.cell 7
 have f1 := Cel.frozen ko 7
 have e2 := ko.cell 8
 have f2 := Cel.frozen ko 8
 simp only [List.getElem?_cons_zero, List.getElem?_cons_succ] at e0 e1 e2
 go_wp2_with fail
 clear e0 e1 e2 f0 f1 f2
 obtain ⟨x3, hw⟩ : ∃ x, x = ((w3.setCell ⟨w.heap.size + 1 + 1, 6, none⟩ (.bool (nfZ (l 2)))).setCell ⟨w.heap.size + 1 + 1, 7, none⟩ (.string (sfZ (l 2)))).setCell ⟨w.heap.size + 1 + 1, 8, none⟩ (.string ⟨#[1]⟩) := ⟨_, rfl⟩
 rw [← hw]
 replace kl := ((kl.other (show _ ≠ w.heap.size + 1 + 1 by omega) 6 (.bool (nfZ (l 2)))).other (show _ ≠ w.heap.size + 1 + 1 by omega) 7 (.string (sfZ (l 2)))).other (show _ ≠ w.heap.size + 1 + 1 by omega) 8 (.string ⟨#[1]⟩)
 replace kr := ((kr.other (show _ ≠ w.heap.size + 1 + 1 by omega) 6 (.bool (nfZ (l 2)))).other (show _ ≠ w.heap.size + 1 + 1 by omega) 7 (.string (sfZ (l 2)))).other (show _ ≠ w.heap.size + 1 + 1 by omega) 8 (.string ⟨#[1]⟩)
 replace ko : Cel _ (w.heap.size + 1 + 1) [.bool (nfZ (l 0)), .string (sfZ (l 0)), .string ⟨#[1]⟩, .bool (nfZ (l 1)), .string (sfZ (l 1)), .string ⟨#[1]⟩, .bool (nfZ (l 2)), .string (sfZ (l 2)), .string ⟨#[1]⟩, .bool false, .string { data := #[] }, .string { data := #[] }, .bool false, .string { data := #[] }, .string { data := #[] }, .bool false, .string { data := #[] }, .string { data := #[] }] 28 := ((ko.set 6 (.bool (nfZ (l 2)))).set 7 (.string (sfZ (l 2)))).set 8 (.string ⟨#[1]⟩)
 replace bb := bset (bset (bset bb (show w.heap.size ≤ w.heap.size + 1 + 1 by omega) 6 (.bool (nfZ (l 2)))) (show w.heap.size ≤ w.heap.size + 1 + 1 by omega) 7 (.string (sfZ (l 2)))) (show w.heap.size ≤ w.heap.size + 1 + 1 by omega) 8 (.string ⟨#[1]⟩)
 rw [← hw] at kl kr ko bb
 clear hw
 rw [rounds_succ]
 obtain ⟨c0, c1, c2, c3, c4, c5⟩ := xk6 kl
 go_wp2_with fail
 clear c0 c1 c2 c3 c4 c5
 go_fit (HO.out 3 _ (by omega))
 rintro e w4 ⟨rfl, b1⟩
 replace kl := kl.below b1
 replace kr := kr.below b1
 replace ko := ko.below b1
 replace bb := Below.after bb b1
 clear b1
 have e0 := ko.cell 9
 have f0 := Cel.frozen ko 9
 have e1 := ko.cell 10
 have f1 := Cel.frozen ko 10
 have e2 := ko.cell 11
 have f2 := Cel.frozen ko 11
 simp only [List.getElem?_cons_zero, List.getElem?_cons_succ] at e0 e1 e2
 go_wp2_with fail
 clear e0 e1 e2 f0 f1 f2
 obtain ⟨x4, hw⟩ : ∃ x, x = ((w4.setCell ⟨w.heap.size + 1 + 1, 9, none⟩ (.bool (nfZ (l 3)))).setCell ⟨w.heap.size + 1 + 1, 10, none⟩ (.string (sfZ (l 3)))).setCell ⟨w.heap.size + 1 + 1, 11, none⟩ (.string ⟨#[1]⟩) := ⟨_, rfl⟩
 rw [← hw]
 replace kl := ((kl.other (show _ ≠ w.heap.size + 1 + 1 by omega) 9 (.bool (nfZ (l 3)))).other (show _ ≠ w.heap.size + 1 + 1 by omega) 10 (.string (sfZ (l 3)))).other (show _ ≠ w.heap.size + 1 + 1 by omega) 11 (.string ⟨#[1]⟩)
 replace kr := ((kr.other (show _ ≠ w.heap.size + 1 + 1 by omega) 9 (.bool (nfZ (l 3)))).other (show _ ≠ w.heap.size + 1 + 1 by omega) 10 (.string (sfZ (l 3)))).other (show _ ≠ w.heap.size + 1 + 1 by omega) 11 (.string ⟨#[1]⟩)
 replace ko : Cel _ (w.heap.size + 1 + 1) [.bool (nfZ (l 0)), .string (sfZ (l 0)), .string ⟨#[1]⟩, .bool (nfZ (l 1)), .string (sfZ (l 1)), .string ⟨#[1]⟩, .bool (nfZ (l 2)), .string (sfZ (l 2)), .string ⟨#[1]⟩, .bool (nfZ (l 3)), .string (sfZ (l 3)), .string ⟨#[1]⟩, .bool false, .string { data := #[] }, .string { data := #[] }, .bool false, .string { data := #[] }, .string { data := #[] }] 28 := ((ko.set 9 (.bool (nfZ (l 3)))).set 10 (.string (sfZ (l 3)))).set 11 (.string ⟨#[1]⟩)
 replace bb := bset (bset (bset bb (show w.heap.size ≤ w.heap.size + 1 + 1 by omega) 9 (.bool (nfZ (l 3)))) (show w.heap.size ≤ w.heap.size + 1 + 1 by omega) 10 (.string (sfZ (l 3)))) (show w.heap.size ≤ w.heap.size + 1 + 1 by omega) 11 (.string ⟨#[1]⟩)
 rw [← hw] at kl kr ko bb
 clear hw
 rw [rounds_succ]
 obtain ⟨c0, c1, c2, c3, c4, c5⟩ := xk6 kl
 go_wp2_with fail
 clear c0 c1 c2 c3 c4 c5
 go_fit (HO.out 4 _ (by omega))
 rintro e w5 ⟨rfl, b1⟩
 replace kl := kl.below b1
 replace kr := kr.below b1
 replace ko := ko.below b1
 replace bb := Below.after bb b1
 clear b1
 have e0 := ko.cell 12
 have f0 := Cel.frozen ko 12
 have e1 := ko.cell 13
 have f1 := Cel.frozen ko 13
 have e2 := ko.cell 14
 have f2 := Cel.frozen ko 14
 simp only [List.getElem?_cons_zero, List.getElem?_cons_succ] at e0 e1 e2
 go_wp2_with fail
 clear e0 e1 e2 f0 f1 f2
 obtain ⟨x5, hw⟩ : ∃ x, x = ((w5.setCell ⟨w.heap.size + 1 + 1, 12, none⟩ (.bool (nfZ (l 4)))).setCell ⟨w.heap.size + 1 + 1, 13, none⟩ (.string (sfZ (l 4)))).setCell ⟨w.heap.size + 1 + 1, 14, none⟩ (.string ⟨#[1]⟩) := ⟨_, rfl⟩
 rw [← hw]
 replace kl := ((kl.other (show _ ≠ w.heap.size + 1 + 1 by omega) 12 (.bool (nfZ (l 4)))).other (show _ ≠ w.heap.size + 1 + 1 by omega) 13 (.string (sfZ (l 4)))).other (show _ ≠ w.heap.size + 1 + 1 by omega) 14 (.string ⟨#[1]⟩)
 replace kr := ((kr.other (show _ ≠ w.heap.size + 1 + 1 by omega) 12 (.bool (nfZ (l 4)))).other (show _ ≠ w.heap.size + 1 + 1 by omega) 13 (.string (sfZ (l 4)))).other (show _ ≠ w.heap.size + 1 + 1 by omega) 14 (.string ⟨#[1]⟩)
 replace ko : Cel _ (w.heap.size + 1 + 1) [.bool (nfZ (l 0)), .string (sfZ (l 0)), .string ⟨#[1]⟩, .bool (nfZ (l 1)), .string (sfZ (l 1)), .string ⟨#[1]⟩, .bool (nfZ (l 2)), .string (sfZ (l 2)), .string ⟨#[1]⟩, .bool (nfZ (l 3)), .string (sfZ (l 3)), .string ⟨#[1]⟩, .bool (nfZ (l 4)), .string (sfZ (l 4)), .string ⟨#[1]⟩, .bool false, .string { data := #[] }, .string { data := #[] }] 28 := ((ko.set 12 (.bool (nfZ (l 4)))).set 13 (.string (sfZ (l 4)))).set 14 (.string ⟨#[1]⟩)
 replace bb := bset (bset (bset bb (show w.heap.size ≤ w.heap.size + 1 + 1 by omega) 12 (.bool (nfZ (l 4)))) (show w.heap.size ≤ w.heap.size + 1 + 1 by omega) 13 (.string (sfZ (l 4)))) (show w.heap.size ≤ w.heap.size + 1 + 1 by omega) 14 (.string ⟨#[1]⟩)
 rw [← hw] at kl kr ko bb
 clear hw
 rw [rounds_succ]
 obtain ⟨c0, c1, c2, c3, c4, c5⟩ := xk6 kl
 go_wp2_with fail
 clear c0 c1 c2 c3 c4 c5
 go_fit (HO.out 5 _ (by omega))
 rintro e w6 ⟨rfl, b1⟩
 replace kl := kl.below b1
 replace kr := kr.below b1
 replace ko := ko.below b1
 replace bb := Below.after bb b1
 clear b1
 have e0 := ko.cell 15
 have f0 := Cel.frozen ko 15
 have e1 := ko.cell 16
 have f1 := Cel.frozen ko 16
 have e2 := ko.cell 17
 have f2 := Cel.frozen ko 17
 simp only [List.getElem?_cons_zero, List.getElem?_cons_succ] at e0 e1 e2
 go_wp2_with fail
 clear e0 e1 e2 f0 f1 f2
 obtain ⟨x6, hw⟩ : ∃ x, x = ((w6.setCell ⟨w.heap.size + 1 + 1, 15, none⟩ (.bool (nfZ (l 5)))).setCell ⟨w.heap.size + 1 + 1, 16, none⟩ (.string (sfZ (l 5)))).setCell ⟨w.heap.size + 1 + 1, 17, none⟩ (.string ⟨#[1]⟩) := ⟨_, rfl⟩
 rw [← hw]
 replace kl := ((kl.other (show _ ≠ w.heap.size + 1 + 1 by omega) 15 (.bool (nfZ (l 5)))).other (show _ ≠ w.heap.size + 1 + 1 by omega) 16 (.string (sfZ (l 5)))).other (show _ ≠ w.heap.size + 1 + 1 by omega) 17 (.string ⟨#[1]⟩)
 replace kr := ((kr.other (show _ ≠ w.heap.size + 1 + 1 by omega) 15 (.bool (nfZ (l 5)))).other (show _ ≠ w.heap.size + 1 + 1 by omega) 16 (.string (sfZ (l 5)))).other (show _ ≠ w.heap.size + 1 + 1 by omega) 17 (.string ⟨#[1]⟩)
 replace ko : Cel _ (w.heap.size + 1 + 1) [.bool (nfZ (l 0)), .string (sfZ (l 0)), .string ⟨#[1]⟩, .bool (nfZ (l 1)), .string (sfZ (l 1)), .string ⟨#[1]⟩, .bool (nfZ (l 2)), .string (sfZ (l 2)), .string ⟨#[1]⟩, .bool (nfZ (l 3)), .string (sfZ (l 3)), .string ⟨#[1]⟩, .bool (nfZ (l 4)), .string (sfZ (l 4)), .string ⟨#[1]⟩, .bool (nfZ (l 5)), .string (sfZ (l 5)), .string ⟨#[1]⟩] 28 := ((ko.set 15 (.bool (nfZ (l 5)))).set 16 (.string (sfZ (l 5)))).set 17 (.string ⟨#[1]⟩)
 replace bb := bset (bset (bset bb (show w.heap.size ≤ w.heap.size + 1 + 1 by omega) 15 (.bool (nfZ (l 5)))) (show w.heap.size ≤ w.heap.size + 1 + 1 by omega) 16 (.string (sfZ (l 5)))) (show w.heap.size ≤ w.heap.size + 1 + 1 by omega) 17 (.string ⟨#[1]⟩)
 rw [← hw] at kl kr ko bb
 clear hw
 rw [rounds_succ]
 have e0 := kr.cell 0
 have f0 := Cel.frozen kr 0
 have e1 := kr.cell 1
 have f1 := Cel.frozen kr 1
 have e2 := kr.cell 2
 have f2 := Cel.frozen kr 2
 have e3 := kr.cell 3
 have f3 := Cel.frozen kr 3
 have e4 := kr.cell 4
 have f4 := Cel.frozen kr 4
 have e5 := kr.cell 5
 have f5 := Cel.frozen kr 5
 have e6 := kr.cell 6
 have f6 := Cel.frozen kr 6
 have e7 := kr.cell 7
 have f7 := Cel.frozen kr 7
 have e8 := kr.cell 8
 have f8 := Cel.frozen kr 8
 have e9 := kr.cell 9
 have f9 := Cel.frozen kr 9
 have e10 := kr.cell 10
 have f10 := Cel.frozen kr 10
 have e11 := kr.cell 11
 have f11 := Cel.frozen kr 11
 have e12 := kr.cell 12
 have f12 := Cel.frozen kr 12
 have e13 := kr.cell 13
 have f13 := Cel.frozen kr 13
 have e14 := kr.cell 14
 have f14 := Cel.frozen kr 14
 have e15 := kr.cell 15
 have f15 := Cel.frozen kr 15
 have e16 := kr.cell 16
 have f16 := Cel.frozen kr 16
 have e17 := kr.cell 17
 have f17 := Cel.frozen kr 17
 simp only [List.getElem?_cons_zero, List.getElem?_cons_succ] at e0 e1 e2 e3 e4 e5 e6 e7 e8 e9 e10 e11 e12 e13 e14 e15 e16 e17
 go_wp2_with (refine wpList_load_row rfl 28 _ rfl _ rfl 28 _ (0, 0) _ ko Tryz.underlying28 rfl (by kernel_rfl) ?_)
 try go_wp2
 exact post_f18 (p := 2) (by kernel_rfl) rfl rfl (((((((((((((((((((kr.set 0 _).set 1 _).set 2 _).set 3 _).set 4 _).set 5 _).set 6 _).set 7 _).set 8 _).set 9 _).set 10 _).set 11 _).set 12 _).set 13 _).set 14 _).set 15 _).set 16 _).set 17 _)) rfl ⟨rfl, bset (bset (bset (bset (bset (bset (bset (bset (bset (bset (bset (bset (bset (bset (bset (bset (bset (bset (bb) (by omega) 0 _) (by omega) 1 _) (by omega) 2 _) (by omega) 3 _) (by omega) 4 _) (by omega) 5 _) (by omega) 6 _) (by omega) 7 _) (by omega) 8 _) (by omega) 9 _) (by omega) 10 _) (by omega) 11 _) (by omega) 12 _) (by omega) 13 _) (by omega) 14 _) (by omega) 15 _) (by omega) 16 _) (by omega) 17 _⟩
open Go.RowKit
theorem rorientI (x0 y0 x1 y1 x2 y2 : Rat) {K : Nat} (hK : K ≤ 100) (b0 : Bq x0 K) (e0 : Bq y0 K) (b1 : Bq x1 K) (e1 : Bq y1 K) (b2 : Bq x2 K) (e2 : Bq y2 K) (w : World) : Calls Tryz.prog 44 #[.agg #[.bool (nfZ (x0).num), .string (sfZ (x0).num), .string (strOf (x0).den), .bool (nfZ (y0).num), .string (sfZ (y0).num), .string (strOf (y0).den)], .agg #[.bool (nfZ (x1).num), .string (sfZ (x1).num), .string (strOf (x1).den), .bool (nfZ (y1).num), .string (sfZ (y1).num), .string (strOf (y1).den)], .agg #[.bool (nfZ (x2).num), .string (sfZ (x2).num), .string (strOf (x2).den), .bool (nfZ (y2).num), .string (sfZ (y2).num), .string (strOf (y2).den)]] w (Re w (.int .i64 (Gm.sg (Gm.cr x0 y0 x1 y1 x2 y2)))) :=
 rorient_walk _ _ _ _ _ _ _ _ _ _ _ _ _ _ _ _ _ _ _ _ _ _ _ _ _ _ _ _ _ _ _ _ _ _ w (fun w1 => rminusP x1 y1 x0 y0 (K := K) (by omega) b1 e1 b0 e0 w1) (fun w1 => rminusP x2 y2 x0 y0 (K := K) (by omega) b2 e2 b0 e0 w1) (fun w1 => rcrossP (x1 - x0) (y1 - y0) (x2 - x0) (y2 - y0) (K := (K + K + 1)) (by omega) (vq_sub b1 b0) (vq_sub e1 e0) (vq_sub b2 b0) (vq_sub e2 e0) w1) (fun w1 => rsignI _ w1)
theorem qOf_one (x : Rat) : qOf (nfZ x.num) (sfZ x.num) (strOf x.den) = x := qOf_qI x
open Go.RowKit
def f5 {α : Type} (x y z u v : α) (j : Nat) : α := if j = 0 then x else if j = 1 then y else if j = 2 then z else if j = 3 then u else v
open Go.RowKit
def cat (n : Nat) (x y : Nat → Int) : Nat → Int := fun j => if j < n then x j else y (j - n)
open Go.RowKit
theorem cArea_ok (n0 n1 n2 n3 n4 n5 : Bool) (s0 d0 s1 d1 s2 d2 s3 d3 s4 d4 s5 d5 : ByteArray) (ux uy vx vy : Rat) (w : World) (hT : Tab w)
  (HC : Hid (∀ (w1 : World) (B : Nat), Below w.heap.size w w1 → Cel w1 B [.bool n0, .string s0, .string d0, .bool n1, .string s1, .string d1, .bool n2, .string s2, .string d2, .bool n3, .string s3, .string d3, .bool n4, .string s4, .string d4, .bool n5, .string s5, .string d5] 30 → Calls Tryz.prog 106 #[.slice (some ⟨B, 0, none⟩) 3 3] w1 (Re w1 (.int .i64 0))))
  (H1 : Hid (∀ w1, Calls Tryz.prog 107 #[.agg #[.bool n0, .string s0, .string d0, .bool n1, .string s1, .string d1], .agg #[.bool n2, .string s2, .string d2, .bool n3, .string s3, .string d3]] w1 fun e w' => ∃ m0 a0 l0 c0 m1 a1 l1 c1 a2 l2 c2 X Y U, e = .returned (.agg #[.bool m0, .slice a0 l0 c0, .bool m1, .slice a1 l1 c1, .bool false, .slice a2 l2 c2]) ∧ SpV w' m0 a0 l0 c0 m1 a1 l1 c1 a2 l2 c2 X Y U ux uy ∧ Below w1.heap.size w1 w'))
  (H2 : Hid (∀ w1, Calls Tryz.prog 107 #[.agg #[.bool n0, .string s0, .string d0, .bool n1, .string s1, .string d1], .agg #[.bool n4, .string s4, .string d4, .bool n5, .string s5, .string d5]] w1 fun e w' => ∃ m0 a0 l0 c0 m1 a1 l1 c1 a2 l2 c2 X Y U, e = .returned (.agg #[.bool m0, .slice a0 l0 c0, .bool m1, .slice a1 l1 c1, .bool false, .slice a2 l2 c2]) ∧ SpV w' m0 a0 l0 c0 m1 a1 l1 c1 a2 l2 c2 X Y U vx vy ∧ Below w1.heap.size w1 w')) :
  Calls Tryz.prog 66 #[.agg #[.bool n0, .string s0, .string d0, .bool n1, .string s1, .string d1], .agg #[.bool n2, .string s2, .string d2, .bool n3, .string s3, .string d3], .agg #[.bool n4, .string s4, .string d4, .bool n5, .string s5, .string d5]] w (Re w (.tuple #[.agg #[.bool (nfZ (ux * vy - uy * vx).num), .string (sfZ (ux * vy - uy * vx).num), .string (strOf (ux * vy - uy * vx).den)], .int .i64 0])) := by
 go_enter Tryz.func66, Tryz.ntmps66
 go_wp2_with fail
 obtain ⟨w0, hw, ka, kb, kc, kr, kl, bb⟩ := mk5 w [.bool n0, .string s0, .string d0, .bool n1, .string s1, .string d1] [.bool n2, .string s2, .string d2, .bool n3, .string s3, .string d3] [.bool n4, .string s4, .string d4, .bool n5, .string s5, .string d5] [.bool false, .string { data := #[] }, .string { data := #[] }] [.bool n0, .string s0, .string d0, .bool n1, .string s1, .string d1, .bool n2, .string s2, .string d2, .bool n3, .string s3, .string d3, .bool n4, .string s4, .string d4, .bool n5, .string s5, .string d5] 30 30 30 26 30
 rw [← hw]
 clear hw
 go_fit (HC.out _ _ bb kl)
 rintro e w1 ⟨rfl, b1⟩
 replace ka := ka.below b1
 replace kb := kb.below b1
 replace kc := kc.below b1
 replace kr := kr.below b1
 replace bb := Below.after bb b1
 clear b1 kl
 have tr := kr.lt
 obtain ⟨ca_0, ca_1, ca_2, ca_3, ca_4, ca_5⟩ := xk6 ka
 obtain ⟨cb_6, cb_7, cb_8, cb_9, cb_10, cb_11⟩ := xk6 kb
 obtain ⟨cc_12, cc_13, cc_14, cc_15, cc_16, cc_17⟩ := xk6 kc
 go_wp2_with fail
 clear ca_0 ca_1 ca_2 ca_3 ca_4 ca_5 cb_6 cb_7 cb_8 cb_9 cb_10 cb_11 cc_12 cc_13 cc_14 cc_15 cc_16 cc_17
 have mk : Hid (∀ w', SB w1 w' → xc6 w' w.heap.size (.bool n0) (.string s0) (.string d0) (.bool n1) (.string s1) (.string d1) ∧ xc6 w' (w.heap.size + 1) (.bool n2) (.string s2) (.string d2) (.bool n3) (.string s3) (.string d3) ∧ xc6 w' (w.heap.size + 1 + 1) (.bool n4) (.string s4) (.string d4) (.bool n5) (.string s5) (.string d5)) := fun w' h => ⟨xk6 (ka.below h), xk6 (kb.below h), xk6 (kc.below h)⟩
 go_cut [9, 10] from 20 to 25 (fun v u wx => ∃ gc gd m1 a1 l1 c1 m2 a2 l2 c2 a3 l3 c3 X1 Y1 U1 m4 a4 l4 c4 m5 a5 l5 c5 a6 l6 c6 X4 Y4 U4, v = .pointer (some ⟨gc, 0, none⟩) ∧ u = .pointer (some ⟨gd, 0, none⟩) ∧ w1.heap.size ≤ gc ∧ w1.heap.size ≤ gd ∧ Cel wx gc [.bool m1, .slice a1 l1 c1, .bool m2, .slice a2 l2 c2, .bool false, .slice a3 l3 c3] 149 ∧ Cel wx gd [.bool m4, .slice a4 l4 c4, .bool m5, .slice a5 l5 c5, .bool false, .slice a6 l6 c6] 149 ∧ SpV wx m1 a1 l1 c1 m2 a2 l2 c2 a3 l3 c3 X1 Y1 U1 ux uy ∧ SpV wx m4 a4 l4 c4 m5 a5 l5 c5 a6 l6 c6 X4 Y4 U4 vx vy ∧ Below w1.heap.size w1 wx)
 case first =>
  clear HC
  refine wp_region_held_drew (S := SB w1) (by kernel_rfl) (bdrew _) (fun bc => ?_)
  refine WA.start (n := 10) (by kernel_rfl) ?_
  refine WA.tl 0 rfl ?_
  refine WA.tl 1 rfl ?_
  refine WA.tl 3 rfl ?_
  refine WA.tl 4 rfl ?_
  refine WA.gen2 (i := 6) (s := 9) (i' := 7) (s' := 10) undef undef (Pt w1 [.bool false, .slice none 0 0, .bool false, .slice none 0 0, .bool false, .slice none 0 0] 149) (Pt w1 [.bool false, .slice none 0 0, .bool false, .slice none 0 0, .bool false, .slice none 0 0] 149) (fun b b' x x' hz hy hn => ?_)
  simp only [Act.put, List.setIfInBounds_toArray, List.set_cons_zero, List.set_cons_succ]
  replace hz := P2.mk hz hy hn
  clear hy hn
  revert b b' x x'
  refine WA.two 10 27 2 6 7 rfl rfl rfl bc ?_
  clear bc
  intro b b' x x' w' hz bx bc K hK
  clear bx
  simp only [List.getElem_toArray, List.getElem_cons_succ, List.getElem_cons_zero]
  go_simp
  go_fit (H1.out _)
  rintro e wn ⟨m1, a1, l1, c1, m2, a2, l2, c2, a3, l3, c3, X1, Y1, U1, rfl, sv1, bn⟩
  replace bc := Below.after bc bn
  try go_wp2_with fail
  refine hK.out _ _ bc (fun _ => ?_)
  replace hz := hz.below bn
  clear hK K bn
  revert b b' x x'
  refine WA.two 10 31 5 6 7 rfl rfl rfl bc ?_
  clear bc
  intro b b' x x' w' hz bx bc K hK
  replace sv1 := sv1.below bx
  clear bx
  simp only [List.getElem_toArray, List.getElem_cons_succ, List.getElem_cons_zero]
  go_simp
  go_fit (H2.out _)
  rintro e wn ⟨m4, a4, l4, c4, m5, a5, l5, c5, a6, l6, c6, X4, Y4, U4, rfl, sv4, bn⟩
  replace bc := Below.after bc bn
  try go_wp2_with fail
  refine hK.out _ _ bc (fun _ => ?_)
  replace hz := hz.below bn
  replace sv1 := sv1.below bn
  clear hK K bn
  revert b b' x x'
  refine WA.fin2 6 7 rfl rfl bc ?_
  clear bc
  intro x x' w' hz bx bc
  replace sv1 := sv1.below bx
  replace sv4 := sv4.below bx
  obtain ⟨g0, rfl, h0, k0⟩ := hz.p rfl
  obtain ⟨g1, rfl, h1, k1⟩ := hz.p' rfl
  have n01 : ¬ g0 = g1 := fun e => hz.ne rfl rfl (by rw [e])
  clear bx hz
  have e0_0 := cel6_0 k0
  have f0_0 := Cel.frozen k0 0
  have e0_1 := cel6_1 k0
  have f0_1 := Cel.frozen k0 1
  have e0_2 := cel6_2 k0
  have f0_2 := Cel.frozen k0 2
  have e0_3 := cel6_3 k0
  have f0_3 := Cel.frozen k0 3
  have e0_4 := cel6_4 k0
  have f0_4 := Cel.frozen k0 4
  have e0_5 := cel6_5 k0
  have f0_5 := Cel.frozen k0 5
  refine WA.call 8 rfl (fun K hK => ?_)
  simp only [List.getElem_toArray, List.getElem_cons_succ, List.getElem_cons_zero]
  go_simp
  try go_wp2_with fail
  clear e0_0 f0_0 e0_1 f0_1 e0_2 f0_2 e0_3 f0_3 e0_4 f0_4 e0_5 f0_5
  refine hK.out _ _ (bset (bset (bset (bset (bset (bset bc h0 0 (.bool m1)) h0 1 (.slice a1 l1 c1)) h0 2 (.bool m2)) h0 3 (.slice a2 l2 c2)) h0 4 (.bool false)) h0 5 (.slice a3 l3 c3)) (fun hS => ?_)
  clear hK K
  replace sv1 := sv1.set6 k0 (.bool m1) (.slice a1 l1 c1) (.bool m2) (.slice a2 l2 c2) (.bool false) (.slice a3 l3 c3)
  replace sv4 := sv4.set6 k0 (.bool m1) (.slice a1 l1 c1) (.bool m2) (.slice a2 l2 c2) (.bool false) (.slice a3 l3 c3)
  replace k0 := (Cel.set (Cel.set (Cel.set (Cel.set (Cel.set (Cel.set k0 0 (.bool m1)) 1 (.slice a1 l1 c1)) 2 (.bool m2)) 3 (.slice a2 l2 c2)) 4 (.bool false)) 5 (.slice a3 l3 c3))
  replace k1 := (Cel.other (Cel.other (Cel.other (Cel.other (Cel.other (Cel.other k1 (fun e => n01 e.symm) 0 (.bool m1)) (fun e => n01 e.symm) 1 (.slice a1 l1 c1)) (fun e => n01 e.symm) 2 (.bool m2)) (fun e => n01 e.symm) 3 (.slice a2 l2 c2)) (fun e => n01 e.symm) 4 (.bool false)) (fun e => n01 e.symm) 5 (.slice a3 l3 c3))
  replace bc := (bset (bset (bset (bset (bset (bset bc h0 0 (.bool m1)) h0 1 (.slice a1 l1 c1)) h0 2 (.bool m2)) h0 3 (.slice a2 l2 c2)) h0 4 (.bool false)) h0 5 (.slice a3 l3 c3))
  have e1_0 := cel6_0 k1
  have f1_0 := Cel.frozen k1 0
  have e1_1 := cel6_1 k1
  have f1_1 := Cel.frozen k1 1
  have e1_2 := cel6_2 k1
  have f1_2 := Cel.frozen k1 2
  have e1_3 := cel6_3 k1
  have f1_3 := Cel.frozen k1 3
  have e1_4 := cel6_4 k1
  have f1_4 := Cel.frozen k1 4
  have e1_5 := cel6_5 k1
  have f1_5 := Cel.frozen k1 5
  refine WA.call 9 rfl (fun K hK => ?_)
  simp only [List.getElem_toArray, List.getElem_cons_succ, List.getElem_cons_zero]
  go_simp
  try go_wp2_with fail
  clear e1_0 f1_0 e1_1 f1_1 e1_2 f1_2 e1_3 f1_3 e1_4 f1_4 e1_5 f1_5
  refine hK.out _ _ (bset (bset (bset (bset (bset (bset bc h1 0 (.bool m4)) h1 1 (.slice a4 l4 c4)) h1 2 (.bool m5)) h1 3 (.slice a5 l5 c5)) h1 4 (.bool false)) h1 5 (.slice a6 l6 c6)) (fun hS => ?_)
  clear hK K
  replace sv1 := sv1.set6 k1 (.bool m4) (.slice a4 l4 c4) (.bool m5) (.slice a5 l5 c5) (.bool false) (.slice a6 l6 c6)
  replace sv4 := sv4.set6 k1 (.bool m4) (.slice a4 l4 c4) (.bool m5) (.slice a5 l5 c5) (.bool false) (.slice a6 l6 c6)
  replace k0 := (Cel.other (Cel.other (Cel.other (Cel.other (Cel.other (Cel.other k0 n01 0 (.bool m4)) n01 1 (.slice a4 l4 c4)) n01 2 (.bool m5)) n01 3 (.slice a5 l5 c5)) n01 4 (.bool false)) n01 5 (.slice a6 l6 c6))
  replace k1 := (Cel.set (Cel.set (Cel.set (Cel.set (Cel.set (Cel.set k1 0 (.bool m4)) 1 (.slice a4 l4 c4)) 2 (.bool m5)) 3 (.slice a5 l5 c5)) 4 (.bool false)) 5 (.slice a6 l6 c6))
  replace bc := (bset (bset (bset (bset (bset (bset bc h1 0 (.bool m4)) h1 1 (.slice a4 l4 c4)) h1 2 (.bool m5)) h1 3 (.slice a5 l5 c5)) h1 4 (.bool false)) h1 5 (.slice a6 l6 c6))
  refine WA.done (by kernel_rfl) ?_
  go_wp2_with fail
  go_meet
  exact ⟨_, _, m1, a1, l1, c1, m2, a2, l2, c2, a3, l3, c3, X1, Y1, U1, m4, a4, l4, c4, m5, a5, l5, c5, a6, l6, c6, X4, Y4, U4, rfl, rfl, h0, h1, k0, k1, sv1, sv4, bc⟩
 case rest =>
 obtain ⟨gu, gv, m1, a1, l1, c1, m2, a2, l2, c2, a3, l3, c3, X1, Y1, U1, m4, a4, l4, c4, m5, a5, l5, c5, a6, l6, c6, X4, Y4, U4, rfl, rfl, lu, lv, ku, kv, sv1, sv4, b1⟩ := hcut
 clear mk
 have sz := b1.size
 replace ka := ka.below b1
 replace kb := kb.below b1
 replace kc := kc.below b1
 replace kr := kr.below b1
 replace bb := Below.after bb b1
 clear b1
 have tu := ku.lt
 have tv := kv.lt
 go_wp2_with fail
 obtain ⟨nx, ny, nu, hw1⟩ := sv1
 obtain ⟨nz, nw, nt, hw4⟩ := sv4
 have HS : Hid (∀ w', Below wc.heap.size wc w' → Calls Tryz.prog 108 #[.agg #[.bool m1, .slice a1 l1 c1, .bool m2, .slice a2 l2 c2, .bool false, .slice a3 l3 c3], .agg #[.bool m4, .slice a4 l4 c4, .bool m5, .slice a5 l5 c5, .bool false, .slice a6 l6 c6]] w' fun e w'' => ∃ m a l c, e = .returned (.agg #[.bool m, .slice a l c]) ∧ NV w'' m (.slice a l c) (X1 * Y4 - Y1 * X4) 107 ∧ Below w'.heap.size w' w'') := fun w' b => (scross_any _ _ _ _ _ _ _ _ _ _ _ _ _ _ _ _ _ _ _ _ _ _ _ _ X1 Y1 X4 Y4 53 w' (by omega) (nx.below b) (ny.below b) (nz.below b) (nw.below b)).mono fun e w'' ⟨m, u, h1, h2, h3⟩ => by
  obtain ⟨a, l, c, rfl⟩ := h2.slice
  exact ⟨m, a, l, c, h1, h2, h3⟩
 have HO : Hid (∀ (B : Nat) (m : Bool) (v : Value) (w' : World), Below wc.heap.size wc w' → NV w' m v (X1 * Y4 - Y1 * X4) 107 → Cel w' B [.bool false, .slice a3 l3 c3, .bool false, .slice a6 l6 c6] 68 → Calls Tryz.prog 36 #[.agg #[.bool m, v], .slice (some ⟨B, 0, none⟩) 2 2] w' fun e w'' => e = .returned (.agg #[.bool (nfZ (ux * vy - uy * vx).num), .string (sfZ (ux * vy - uy * vx).num), .string (strOf (ux * vy - uy * vx).den)]) ∧ Below w'.heap.size w' w'') := fun B m v w' b nz hB => by
  have := nover2 m false false v a3 a6 l3 c3 l6 c6 (X1 * Y4 - Y1 * X4) U1 U4 107 B w' (hT.below (Below.after bb b)) (by omega) hw1.1 hw4.1 nz ((nu.below b).mono (by omega)) ((nt.below b).mono (by omega)) hB
  rwa [Gm.area_eq hw1 hw4] at this
 clear nx ny nu hw1 nz nw nt hw4
 have mkS : Hid (∀ w', Cel w' gu [.bool m1, .slice a1 l1 c1, .bool m2, .slice a2 l2 c2, .bool false, .slice a3 l3 c3] 149 → Cel w' gv [.bool m4, .slice a4 l4 c4, .bool m5, .slice a5 l5 c5, .bool false, .slice a6 l6 c6] 149 → (xc6 w' gu (.bool m1) (.slice a1 l1 c1) (.bool m2) (.slice a2 l2 c2) (.bool false) (.slice a3 l3 c3) ∧ xc6 w' gv (.bool m4) (.slice a4 l4 c4) (.bool m5) (.slice a5 l5 c5) (.bool false) (.slice a6 l6 c6))) := fun w' hu hv => ⟨xk6 hu, xk6 hv⟩
 have qu : gu ≠ w.heap.size + 1 + 1 + 1 := by omega
 have qv : gv ≠ w.heap.size + 1 + 1 + 1 := by omega
 have b9 := Below.refl wc.heap.size wc
 go_region_held3 (fun w' => xc6 w' gu (.bool m1) (.slice a1 l1 c1) (.bool m2) (.slice a2 l2 c2) (.bool false) (.slice a3 l3 c3) ∧ xc6 w' gv (.bool m4) (.slice a4 l4 c4) (.bool m5) (.slice a5 l5 c5) (.bool false) (.slice a6 l6 c6)) (first | with_reducible exact mkS.out _ ku kv | with_reducible exact mkS.out _ ku.drew kv.drew | with_reducible exact mkS.out _ (ku.alloc _) (kv.alloc _) | with_reducible exact mkS.out _ (ku.alloc _).drew (kv.alloc _).drew | with_reducible exact mkS.out _ (Cel.other (Cel.other (Cel.other ku qu 0 _) qu 1 _) qu 2 _) (Cel.other (Cel.other (Cel.other kv qv 0 _) qv 1 _) qv 2 _) | exact mkS.out _ ku kv) (first | (go_at_call 108; go_fit (HS.out _ ?_); (first | exact b9 | exact b9.drew | exact ba b9.drew _ | exact (ba b9 _).drew); rintro e wn ⟨m7, a7, l7, c7, rfl, nv7, bn⟩; (first | (have bq : Below wc.heap.size wc wn := (un bn)) | (obtain ⟨kB, bq⟩ := al1e bn)); replace b9 := bq; replace ku := ku.below bq; replace kv := kv.below bq; replace kr := kr.below bq; replace bb := Below.after bb bq) | (go_at_call 36; go_fit (HO.out _ _ _ _ ?_ ?_ ?_); (first | exact b9 | exact ba b9 _); (first | exact nv7 | exact nv7.below (bel_al _ _)); (first | exact kB | exact Cel.new _ _ _); rintro e wm ⟨rfl, bn⟩; (first | (have bq : Below wn.heap.size wn wm := bn; replace ku := ku.below bq; replace kv := kv.below bq; replace kr := kr.below bq; replace bb := Below.after bb bq) | (obtain ⟨-, bq⟩ := al1 bn; replace ku := ku.below bq; replace kv := kv.below bq; replace kr := kr.below bq; replace bb := Below.after bb bq)); have e0 := cel3_0 kr; have f0 := Cel.frozen kr 0; have e1 := cel3_1 kr; have f1 := Cel.frozen kr 1; have e2 := cel3_2 kr; have f2 := Cel.frozen kr 2))
 all_goals go_wp2
 all_goals exact post_q1 (p := 6) (u := 7) (v := .int .i64 0) (by kernel_rfl) rfl rfl rfl (((kr.set 0 _).set 1 _).set 2 _) ⟨rfl, bset (bset (bset bb (by omega) 0 _) (by omega) 1 _) (by omega) 2 _⟩
open Go.RowKit
abbrev pq (x y : Rat) : Value := .agg #[.bool (nfZ x.num), .string (sfZ x.num), .string (strOf x.den), .bool (nfZ y.num), .string (sfZ y.num), .string (strOf y.den)]
abbrev rq (x : Rat) : Value := .agg #[.bool (nfZ x.num), .string (sfZ x.num), .string (strOf x.den)]
abbrev Ra (w : World) (v : Value) : Ending → World → Prop := fun e w' => e = .returned v ∧ Below w.heap.size w w'
theorem ofI (x0 y0 x1 y1 : Rat) {K : Nat} (hK : K ≤ 100) (b0 : Bq x0 K) (b1 : Bq y0 K) (b2 : Bq x1 K) (b3 : Bq y1 K) : Hid (∀ w1, Calls Tryz.prog 107 #[pq x0 y0, pq x1 y1] w1 fun e w' => ∃ m0 a0 l0 c0 m1 a1 l1 c1 a2 l2 c2 X Y U, e = .returned (.agg #[.bool m0, .slice a0 l0 c0, .bool m1, .slice a1 l1 c1, .bool false, .slice a2 l2 c2]) ∧ SpV w' m0 a0 l0 c0 m1 a1 l1 c1 a2 l2 c2 X Y U (x1 - x0) (y1 - y0) ∧ Below w1.heap.size w1 w') := fun w1 => by
 have := sof_any (nfZ x0.num) (nfZ y0.num) (nfZ x1.num) (nfZ y1.num) (sfZ x0.num) (strOf x0.den) (sfZ y0.num) (strOf y0.den) (sfZ x1.num) (strOf x1.den) (sfZ y1.num) (strOf y1.den) w1 (okQ_qI x0) (okQ_qI y0) (okQ_qI x1) (okQ_qI y1) (bq_sz hK b0) (bq_sz hK b1) (bq_sz hK b2) (bq_sz hK b3)
 simp only [qOf_one] at this
 refine this.mono ?_
 rintro e w' ⟨m0, a0, l0, c0, m1, a1, l1, c1, a2, l2, c2, X, Y, U, h1, h2, h3, h4, h5, h6⟩
 exact ⟨m0, a0, l0, c0, m1, a1, l1, c1, a2, l2, c2, X, Y, U, h1, ⟨h2, h3, h4, h5⟩, h6⟩
theorem chkI (x0 y0 x1 y1 x2 y2 : Rat) {K : Nat} (hK : K ≤ 100) (b0 : Bq x0 K) (b1 : Bq y0 K) (b2 : Bq x1 K) (b3 : Bq y1 K) (b4 : Bq x2 K) (b5 : Bq y2 K) (w : World) (hT : Tab w) : Hid (∀ (w1 : World) (B : Nat), Below w.heap.size w w1 → Cel w1 B [.bool (nfZ x0.num), .string (sfZ x0.num), .string (strOf x0.den), .bool (nfZ y0.num), .string (sfZ y0.num), .string (strOf y0.den), .bool (nfZ x1.num), .string (sfZ x1.num), .string (strOf x1.den), .bool (nfZ y1.num), .string (sfZ y1.num), .string (strOf y1.den), .bool (nfZ x2.num), .string (sfZ x2.num), .string (strOf x2.den), .bool (nfZ y2.num), .string (sfZ y2.num), .string (strOf y2.den)] 30 → Calls Tryz.prog 106 #[.slice (some ⟨B, 0, none⟩) 3 3] w1 (Re w1 (.int .i64 0))) := fun w1 B b h => by
 have := scheck3 B (nfZ x0.num) (nfZ y0.num) (nfZ x1.num) (nfZ y1.num) (nfZ x2.num) (nfZ y2.num) (sfZ x0.num) (strOf x0.den) (sfZ y0.num) (strOf y0.den) (sfZ x1.num) (strOf x1.den) (sfZ y1.num) (strOf y1.den) (sfZ x2.num) (strOf x2.den) (sfZ y2.num) (strOf y2.den) w1 (hT.below b) h (bq_sz hK b0) (bq_sz hK b1) (bq_sz hK b2) (bq_sz hK b3) (bq_sz hK b4) (bq_sz hK b5)
 rwa [two_zero.2 ⟨two_zero.2 ⟨twoq_zero.2 ⟨chk_can8 x0 (by omega) b0, chk_can8 y0 (by omega) b1⟩, twoq_zero.2 ⟨chk_can8 x1 (by omega) b2, chk_can8 y1 (by omega) b3⟩⟩, twoq_zero.2 ⟨chk_can8 x2 (by omega) b4, chk_can8 y2 (by omega) b5⟩⟩] at this
theorem bq_mono {x : Rat} {K M' : Nat} (h : Bq x K) (hK : K ≤ M') : Bq x M' := ⟨h.1.mono hK, h.2.mono hK⟩
theorem areaI (x0 y0 x1 y1 x2 y2 : Rat) {K : Nat} (hK : K ≤ 100) (b0 : Bq x0 K) (b1 : Bq y0 K) (b2 : Bq x1 K) (b3 : Bq y1 K) (b4 : Bq x2 K) (b5 : Bq y2 K) (w : World) (hT : Tab w) : Calls Tryz.prog 66 #[pq x0 y0, pq x1 y1, pq x2 y2] w (Ra w (.tuple #[rq ((x1 - x0) * (y2 - y0) - (y1 - y0) * (x2 - x0)), .int .i64 0])) :=
 cArea_ok (nfZ x0.num) (nfZ y0.num) (nfZ x1.num) (nfZ y1.num) (nfZ x2.num) (nfZ y2.num) (sfZ x0.num) (strOf x0.den) (sfZ y0.num) (strOf y0.den) (sfZ x1.num) (strOf x1.den) (sfZ y1.num) (strOf y1.den) (sfZ x2.num) (strOf x2.den) (sfZ y2.num) (strOf y2.den) (x1 - x0) (y1 - y0) (x2 - x0) (y2 - y0) w hT (chkI x0 y0 x1 y1 x2 y2 hK b0 b1 b2 b3 b4 b5 w hT) (ofI x0 y0 x1 y1 hK b0 b1 b2 b3) (ofI x0 y0 x2 y2 hK b0 b1 b4 b5)
open Go.RowKit
theorem bq_ratio {X U : Int} {x : Rat} {k : Nat} (hU : U ≠ 0) (h : (X : Rat) = (U : Rat) * x) (bX : Bd X k) (bU : Bd U k) : Bq x k := by
 rcases Int.lt_or_gt_of_ne hU with q | q
 ·have W : Gm.Way (-X) 0 (-U) x 0 := ⟨by omega, by push_cast; rw [h]; grind, by grind⟩
  exact bq_wayx W bX.neg bU.neg
 ·have W : Gm.Way X 0 U x 0 := ⟨q, h, by grind⟩
  exact bq_wayx W bX bU
open Go.RowKit
theorem pq_int (x y : Int) : pq (x : Rat) (y : Rat) = .agg #[.bool (nfZ x), .string (sfZ x), .string ⟨#[1]⟩, .bool (nfZ y), .string (sfZ y), .string ⟨#[1]⟩] := by
 have e : strOf 1 = ⟨#[1]⟩ := by decide +kernel
 simp only [pq, Rat.num_intCast, Rat.den_intCast, e]
theorem bq_int (x : Int) (h1 : -200 ≤ x) (h2 : x ≤ 200) : Bq (x : Rat) 1 := by
 constructor
 ·rw [Rat.num_intCast]; unfold Bd; omega
 ·rw [Rat.den_intCast]; unfold Bd; omega
open Go.RowKit
theorem pcheck_ok (n0 n1 n2 n3 n4 n5 : Bool) (s0 d0 s1 d1 s2 d2 s3 d3 s4 d4 s5 d5 : ByteArray) (a : Option Addr) (n cap : Nat) (N N' : Nat → Bool) (S D S' D' : Nat → ByteArray) (c : Nat → Nat) (w : World) (hn : n ≤ 1000000) (h : RdPt w a n N S D N' S' D')
  (HF : Hid (∀ (w1 : World), Below w.heap.size w w1 → Calls Tryz.prog 12 #[.agg #[.bool n0, .string s0, .string d0, .bool n1, .string s1, .string d1, .bool n2, .string s2, .string d2, .bool n3, .string s3, .string d3, .bool n4, .string s4, .string d4, .bool n5, .string s5, .string d5]] w1 (Re w1 (.int .i64 0))))
  (HC : Hid (∀ (k : Nat) (w1 : World) (B : Nat), k < n → Below w.heap.size w w1 → Cel w1 B [.bool (N k), .string (S k), .string (D k), .bool (N' k), .string (S' k), .string (D' k)] 26 → Calls Tryz.prog 38 #[.slice (some ⟨B, 0, none⟩) 2 2] w1 (Re w1 (.int .i64 (c k : Nat))))) :
  Calls Tryz.prog 32 #[.agg #[.bool n0, .string s0, .string d0, .bool n1, .string s1, .string d1, .bool n2, .string s2, .string d2, .bool n3, .string s3, .string d3, .bool n4, .string s4, .string d4, .bool n5, .string s5, .string d5], .slice a n cap] w (Re w (.int .i64 (firstE c n : Nat))) := by
 replace h := shut h
 go_enter Tryz.func32, Tryz.ntmps32
 go_wp2_with (refine wpList_load_row rfl 28 _ rfl w.heap.size rfl 28 _ (0, 0) _ (Cel.new w [.bool n0, .string s0, .string d0, .bool n1, .string s1, .string d1, .bool n2, .string s2, .string d2, .bool n3, .string s3, .string d3, .bool n4, .string s4, .string d4, .bool n5, .string s5, .string d5] 28) Tryz.underlying28 rfl (by kernel_rfl) ?_)
 obtain ⟨w0, hq, kf, bb⟩ := mk1 w [.bool n0, .string s0, .string d0, .bool n1, .string s1, .string d1, .bool n2, .string s2, .string d2, .bool n3, .string s3, .string d3, .bool n4, .string s4, .string d4, .bool n5, .string s5, .string d5] 28
 rw [← hq]
 clear hq kf
 go_fit (HF.out _ bb)
 rintro e w1 ⟨rfl, b1⟩
 replace bb := Below.after bb b1
 clear b1
 go_wp2_with fail
 go_loopw [16] (fun i wr => Below w.heap.size w wr ∧ ∃ k : Nat, k ≤ n ∧ i = .int .i64 k ∧ firstE c k = 0) (fun i _ => n - (intOf i).toNat)
 case atStart => exact ⟨bb, 0, by omega, rfl, rfl⟩
 case round =>
  clear bb
  obtain ⟨bb, k, hk, rfl, hz⟩ := hrel
  by_cases hkn : k < n
  ·obtain ⟨b, off, rfl, h0, h1, h2, h3, h4, h5⟩ := h.out.below bb k hkn
   go_wp2_with fail
   obtain ⟨w1, hw, kp, kq, b1⟩ := mk2 wr [.bool (N k), .string (S k), .string (D k), .bool (N' k), .string (S' k), .string (D' k)] [.bool (N k), .string (S k), .string (D k), .bool (N' k), .string (S' k), .string (D' k)] 30 26
   rw [← hw]
   clear hw
   replace bb := Below.after bb b1
   clear b1 h0 h1 h2 h3 h4 h5 kp
   go_fit (HC.out k _ _ hkn bb kq)
   rintro e w3 ⟨rfl, b1⟩
   replace bb := Below.after bb b1
   clear b1 kq
   by_cases hc : c k = 0
   ·have hs : firstE c (k + 1) = 0 := by unfold firstE; rw [if_pos hz, hc]
    replace hs := shut hs
    replace hz := shut hz
    rw [hc]
    go_wp2
    exact ⟨⟨bb, k + 1, by omega, by go_num, hs.out⟩, by simp [intOf]; omega⟩
   ·have hs := firstE_stop hz hc n hkn
    replace hs := shut hs
    replace hz := shut hz
    go_wp2
    go_ret
    exact ⟨by rw [hs.out]; rfl, bb⟩
  ·obtain rfl : k = n := by omega
   replace hz := shut hz
   go_wp2
   go_ret
   exact ⟨by rw [hz.out]; rfl, bb⟩
theorem pcheck_bad (n0 n1 n2 n3 n4 n5 : Bool) (s0 d0 s1 d1 s2 d2 s3 d3 s4 d4 s5 d5 : ByteArray) (E : Nat) (hE : ¬ E = 0) (a : Option Addr) (n cap : Nat) (w : World)
  (HF : Hid (∀ (w1 : World), Below w.heap.size w w1 → Calls Tryz.prog 12 #[.agg #[.bool n0, .string s0, .string d0, .bool n1, .string s1, .string d1, .bool n2, .string s2, .string d2, .bool n3, .string s3, .string d3, .bool n4, .string s4, .string d4, .bool n5, .string s5, .string d5]] w1 (Re w1 (.int .i64 (E : Nat))))) :
  Calls Tryz.prog 32 #[.agg #[.bool n0, .string s0, .string d0, .bool n1, .string s1, .string d1, .bool n2, .string s2, .string d2, .bool n3, .string s3, .string d3, .bool n4, .string s4, .string d4, .bool n5, .string s5, .string d5], .slice a n cap] w (Re w (.int .i64 (E : Nat))) := by
 go_enter Tryz.func32, Tryz.ntmps32
 go_wp2_with (refine wpList_load_row rfl 28 _ rfl w.heap.size rfl 28 _ (0, 0) _ (Cel.new w [.bool n0, .string s0, .string d0, .bool n1, .string s1, .string d1, .bool n2, .string s2, .string d2, .bool n3, .string s3, .string d3, .bool n4, .string s4, .string d4, .bool n5, .string s5, .string d5] 28) Tryz.underlying28 rfl (by kernel_rfl) ?_)
 obtain ⟨w0, hq, kf, bb⟩ := mk1 w [.bool n0, .string s0, .string d0, .bool n1, .string s1, .string d1, .bool n2, .string s2, .string d2, .bool n3, .string s3, .string d3, .bool n4, .string s4, .string d4, .bool n5, .string s5, .string d5] 28
 rw [← hq]
 clear hq kf
 go_fit (HF.out _ bb)
 rintro e w1 ⟨rfl, b1⟩
 replace bb := Below.after bb b1
 clear b1
 go_wp2
 go_ret
 exact ⟨rfl, bb⟩
theorem pcheck_any (F : Nat → Bool) (G H : Nat → ByteArray) (a : Option Addr) (n cap : Nat) (N N' : Nat → Bool) (S D S' D' : Nat → ByteArray) (w : World) (hT : Tab w) (hn : n ≤ 1000000) (h : RdPt w a n N S D N' S' D') (hf : ∀ k, k < 6 → (G k).size ≤ 100 ∧ (H k).size ≤ 100) (hz : ∀ k, k < n → ((S k).size ≤ 100 ∧ (D k).size ≤ 100) ∧ ((S' k).size ≤ 100 ∧ (D' k).size ≤ 100)) :
  Calls Tryz.prog 32 #[.agg #[.bool (F 0), .string (G 0), .string (H 0), .bool (F 1), .string (G 1), .string (H 1), .bool (F 2), .string (G 2), .string (H 2), .bool (F 3), .string (G 3), .string (H 3), .bool (F 4), .string (G 4), .string (H 4), .bool (F 5), .string (G 5), .string (H 5)], .slice a n cap] w (Re w (.int .i64 ((two (firstE (fun k => chkq (F k) (G k) (H k)) 6) (firstE (fun k => two (chkq (N k) (S k) (D k)) (chkq (N' k) (S' k) (D' k))) n) : Nat) : Nat))) := by
 by_cases hE : firstE (fun k => chkq (F k) (G k) (H k)) 6 = 0
 ·have hF : ∀ w1, Below w.heap.size w w1 → _ := fun w1 b => pCheck_any F G H w1 (hT.below b) hf
  rw [hE] at hF
  refine (pcheck_ok _ _ _ _ _ _ _ _ _ _ _ _ _ _ _ _ _ _ a n cap N N' S D S' D' (fun k => two (chkq (N k) (S k) (D k)) (chkq (N' k) (S' k) (D' k))) w hn h hF ?_).mono (fun e w' h => ⟨by rw [h.1, hE]; rfl, h.2⟩)
  intro k w1 B hk b kq
  have := cnums_walk (some ⟨B, 0, none⟩) 2 2 (f2 (N k) (N' k)) (f2 (S k) (S' k)) (f2 (D k) (D' k)) _ w1 (by omega) (rdq_2 kq) (fun j hj => by
   match j, hj with
   | 0, _ => exact (hz k hk).1
   | 1, _ => exact (hz k hk).2) (fun j w2 _ b2 => rchk_any _ _ _ w2 ((hT.below b).below b2))
  exact this.mono (fun e w' h => ⟨by rw [h.1]; rfl, h.2⟩)
 ·refine (pcheck_bad _ _ _ _ _ _ _ _ _ _ _ _ _ _ _ _ _ _ (firstE (fun k => chkq (F k) (G k) (H k)) 6) hE a n cap w (fun w1 b => pCheck_any F G H w1 (hT.below b) hf)).mono (fun e w' h => ⟨by rw [h.1]; unfold two; rw [if_neg hE], h.2⟩)
end Go.Proofs.YtbafjmjcepcckaaGreatDoor
