/-
  Points and numbers in their one form: vec, rat.Div; gussetref04's Scale and Plus, gussetref03's Over.
  gussetlaw04: VecScales, of any point and number.
  Rational numbers in their one form: how long sums and products get; the reference's calls over them.
  gussetref05: Asked; signs and products of rational numbers in their one form.
  gussetref06: Asked; gussetref05: Asked of one point.
  gussetlaw06: ConsNear holds.
  Package cons: far2, walked.
  Package cons: Centre, walked.
  Package cons: Centre, walked.
-/
import Derived.Test.YtiiigiggcbbgjaaGreatDoorJ44
import Derived.Test.YtiiigiggcbbgjaaGreatDoorJ45
set_option maxRecDepth 100000
set_option maxHeartbeats 16000000
namespace Go.Proofs.YtiiigiggcbbgjaaGreatDoor
open Go.RowKit
theorem bq_sz {x : Rat} {K M : Nat} (hK : K ≤ M) (b : Bq x K) : (sfZ x.num).size ≤ M ∧ (strOf x.den).size ≤ M := by
 have h1 : (sfZ x.num).size ≤ K := b.1.size
 have h2 := b.2.size
 simp at h2
 omega
theorem chk_can8 (x : Rat) {K : Nat} (hK : K ≤ 4000) (b : Bq x K) : chkq (nfZ x.num) (sfZ x.num) (strOf x.den) = 0 :=
 chkq_ok (okQ_qI x) (by have := (bq_sz (M := 4000) hK b).1; omega) (by have := (bq_sz (M := 4000) hK b).2; omega)
theorem vplusI (x y x' y' : Rat) {K : Nat} (hK : K ≤ 4000) (b0 : Bq x K) (b1 : Bq y K) (b2 : Bq x' K) (b3 : Bq y' K) (w : World) (hT : Tab w) : Calls Tryz.prog 53 #[.agg #[.bool (nfZ (x).num), .string (sfZ (x).num), .string (strOf (x).den), .bool (nfZ (y).num), .string (sfZ (y).num), .string (strOf (y).den)], .agg #[.bool (nfZ (x').num), .string (sfZ (x').num), .string (strOf (x').den), .bool (nfZ (y').num), .string (sfZ (y').num), .string (strOf (y').den)]] w (Re w (.tuple #[.agg #[.bool (nfZ (x + x').num), .string (sfZ (x + x').num), .string (strOf (x + x').den), .bool (nfZ (y + y').num), .string (sfZ (y + y').num), .string (strOf (y + y').den)], .int .i64 0])) := by
 have := vplus_ok (nfZ (x).num) (nfZ (y).num) (nfZ (x').num) (nfZ (y').num) (sfZ (x).num) (strOf (x).den) (sfZ (y).num) (strOf (y).den) (sfZ (x').num) (strOf (x').den) (sfZ (y').num) (strOf (y').den) w hT (two_zero.2 ⟨twoq_zero.2 ⟨chk_can8 x (by omega) b0, chk_can8 y (by omega) b1⟩, twoq_zero.2 ⟨chk_can8 x' (by omega) b2, chk_can8 y' (by omega) b3⟩⟩) (bq_sz hK b0) (bq_sz hK b1) (bq_sz hK b2) (bq_sz hK b3)
 simp only [qOf_one] at this
 exact this
theorem vscaleI (x y k : Rat) {K : Nat} (hK : K ≤ 4000) (b0 : Bq x K) (b1 : Bq y K) (b2 : Bq k K) (w : World) (hT : Tab w) : Calls Tryz.prog 52 #[.agg #[.bool (nfZ (x).num), .string (sfZ (x).num), .string (strOf (x).den), .bool (nfZ (y).num), .string (sfZ (y).num), .string (strOf (y).den)], .agg #[.bool (nfZ (k).num), .string (sfZ (k).num), .string (strOf (k).den)]] w (Re w (.tuple #[.agg #[.bool (nfZ (x * k).num), .string (sfZ (x * k).num), .string (strOf (x * k).den), .bool (nfZ (y * k).num), .string (sfZ (y * k).num), .string (strOf (y * k).den)], .int .i64 0])) := by
 have := vscale_ok (nfZ (x).num) (nfZ (y).num) (nfZ (k).num) (sfZ (x).num) (strOf (x).den) (sfZ (y).num) (strOf (y).den) (sfZ (k).num) (strOf (k).den) w hT (two_zero.2 ⟨twoq_zero.2 ⟨chk_can8 x hK b0, chk_can8 y hK b1⟩, twoq_zero.2 ⟨chk_can8 k hK b2, chk_can8 k hK b2⟩⟩) (bq_sz hK b0) (bq_sz hK b1) (bq_sz hK b2)
 simp only [qOf_one] at this
 exact this
end Go.Proofs.YtiiigiggcbbgjaaGreatDoor
namespace Go.Proofs.YtiiigiggcbbgjaaGreatDoor
open Go.RowKit Go.Shelf
theorem rchk4_any (n0 n1 : Bool) (s0 d0 s1 d1 : ByteArray) (w : World) (z0 : s0.size ≤ 8000) (y0 : d0.size ≤ 8000) (z1 : s1.size ≤ 8000) (y1 : d1.size ≤ 8000) :
  Calls Tryz.prog 42 #[.agg #[.bool n0, .string s0, .string d0, .bool n1, .string s1, .string d1]] w (Re w (.int .i64 (twoq n0 s0 d0 n1 s1 d1 : Nat))) :=
 rchk4_walk n0 n1 s0 d0 s1 d1 _ w (fun w1 => bothq_any n0 n1 s0 d0 s1 d1 w1 z0 y0 z1 y1)
end Go.Proofs.YtiiigiggcbbgjaaGreatDoor
namespace Go.Proofs.YtiiigiggcbbgjaaGreatDoor
open Go.RowKit Go.Shelf
theorem rtimesI (x y : Rat) {K : Nat} (hK : K ≤ 4000) (bx : Bq x K) (bY : Bq y K) (w : World) :
  Calls Tryz.prog 69 #[.agg #[.bool (nfZ (x).num), .string (sfZ (x).num), .string (strOf (x).den)], .agg #[.bool (nfZ (y).num), .string (sfZ (y).num), .string (strOf (y).den)]] w (Re w (.agg #[.bool (nfZ (x * y).num), .string (sfZ (x * y).num), .string (strOf (x * y).den)])) := by
 have zx := bx.2.size
 have zy := bY.2.size
 have := rtimesq_any (nfZ x.num) (nfZ y.num) (sfZ x.num) (strOf x.den) (sfZ y.num) (strOf y.den) w (okQ_qI x) (okQ_qI y) hK bx.1.size (by simpa using zx) bY.1.size (by simpa using zy)
 rw [show qOf (nfZ x.num) (sfZ x.num) (strOf x.den) = x from qOf_qI x, show qOf (nfZ y.num) (sfZ y.num) (strOf y.den) = y from qOf_qI y] at this
 exact this
theorem rsumI (x y : Rat) {K : Nat} (hK : K ≤ 4000) (bx : Bq x K) (bY : Bq y K) (w : World) :
  Calls Tryz.prog 66 #[.agg #[.bool (nfZ (x).num), .string (sfZ (x).num), .string (strOf (x).den)], .agg #[.bool (nfZ (y).num), .string (sfZ (y).num), .string (strOf (y).den)]] w (Re w (.agg #[.bool (nfZ (x + y).num), .string (sfZ (x + y).num), .string (strOf (x + y).den)])) := by
 have zx := bx.2.size
 have zy := bY.2.size
 have := rsumq_any (nfZ x.num) (nfZ y.num) (sfZ x.num) (strOf x.den) (sfZ y.num) (strOf y.den) w (okQ_qI x) (okQ_qI y) hK bx.1.size (by simpa using zx) bY.1.size (by simpa using zy)
 rw [show qOf (nfZ x.num) (sfZ x.num) (strOf x.den) = x from qOf_qI x, show qOf (nfZ y.num) (sfZ y.num) (strOf y.den) = y from qOf_qI y] at this
 exact this
theorem rlessI (x y : Rat) {K : Nat} (hK : K ≤ 4000) (bx : Bq x K) (bY : Bq y K) (w : World) :
  Calls Tryz.prog 68 #[.agg #[.bool (nfZ (x).num), .string (sfZ (x).num), .string (strOf (x).den)], .agg #[.bool (nfZ (y).num), .string (sfZ (y).num), .string (strOf (y).den)]] w (Re w (.agg #[.bool (nfZ (x - y).num), .string (sfZ (x - y).num), .string (strOf (x - y).den)])) := by
 have zx := bx.2.size
 have zy := bY.2.size
 have := rlessq_any (nfZ x.num) (nfZ y.num) (sfZ x.num) (strOf x.den) (sfZ y.num) (strOf y.den) w (okQ_qI x) (okQ_qI y) hK bx.1.size (by simpa using zx) bY.1.size (by simpa using zy)
 rw [show qOf (nfZ x.num) (sfZ x.num) (strOf x.den) = x from qOf_qI x, show qOf (nfZ y.num) (sfZ y.num) (strOf y.den) = y from qOf_qI y] at this
 exact this
open Go.RowKit
theorem rlong_no (n : Bool) (s d : ByteArray) (w : World) (z : s.size ≤ 100 ∧ d.size ≤ 100) :
  Calls Tryz.prog 41 #[.agg #[.bool n, .string s, .string d]] w (Re w (.bool false)) := by
 have i0 : ¬ (100 : Int) < s.size := by omega
 have i1 : ¬ (100 : Int) < d.size := by omega
 go_enter Tryz.func41, Tryz.ntmps41
 go_wp2
 go_ret
 exact ⟨rfl, bel_al _ _⟩
theorem asked_walk (a : Option Addr) (n cap : Nat) (N N' : Nat → Bool) (S D S' D' : Nat → ByteArray) (c : Nat → Nat) (w : World) (hn : n ≤ 1000000) (h : RdPt w a n N S D N' S' D')
  (HZ : Hid (∀ k, k < n → (S k).size ≤ 100 ∧ (D k).size ≤ 100 ∧ (S' k).size ≤ 100 ∧ (D' k).size ≤ 100))
  (HC : Hid (∀ (k : Nat) (w1 : World), k < n → Calls Tryz.prog 42 #[.agg #[.bool (N k), .string (S k), .string (D k), .bool (N' k), .string (S' k), .string (D' k)]] w1 (Re w1 (.int .i64 (c k : Nat))))) :
  Calls Tryz.prog 9 #[.slice a n cap] w (Re w (.int .i64 (firstE c n : Nat))) := by
 replace h := shut h
 go_enter Tryz.func9, Tryz.ntmps9
 go_wp2
 go_loopw [3] (fun i wr => Below w.heap.size w wr ∧ ∃ k : Nat, k ≤ n ∧ i = .int .i64 k ∧ firstE c k = 0) (fun i _ => n - (intOf i).toNat)
 case atStart => exact ⟨Below.refl _ _, 0, by omega, rfl, rfl⟩
 case round =>
  obtain ⟨bb, k, hk, rfl, hz⟩ := hrel
  by_cases hkn : k < n
  ·obtain ⟨b, off, rfl, h0, h1, h2, h3, h4, h5⟩ := h.out.below bb k hkn
   go_wp2_with fail
   go_fit (rlong_no _ _ _ _ ⟨(HZ.out k hkn).1, (HZ.out k hkn).2.1⟩)
   rintro e w1 ⟨rfl, b1⟩
   replace bb := Below.after bb b1
   replace h0 := cell_below h0 b1
   replace h1 := cell_below h1 b1
   replace h2 := cell_below h2 b1
   replace h3 := cell_below h3 b1
   replace h4 := cell_below h4 b1
   replace h5 := cell_below h5 b1
   clear b1
   go_wp2_with fail
   go_fit (rlong_no _ _ _ _ ⟨(HZ.out k hkn).2.2.1, (HZ.out k hkn).2.2.2⟩)
   rintro e w2 ⟨rfl, b1⟩
   replace bb := Below.after bb b1
   replace h0 := cell_below h0 b1
   replace h1 := cell_below h1 b1
   replace h2 := cell_below h2 b1
   replace h3 := cell_below h3 b1
   replace h4 := cell_below h4 b1
   replace h5 := cell_below h5 b1
   clear b1
   go_wp2_with fail
   go_fit (HC.out k _ hkn)
   rintro e w3 ⟨rfl, b1⟩
   replace bb := Below.after bb b1
   clear b1 h0 h1 h2 h3 h4 h5
   by_cases hc : c k = 0
   ·have hs : firstE c (k + 1) = 0 := by unfold firstE; rw [if_pos hz, hc]
    replace hs := shut hs
    replace hz := shut hz
    rw [hc]
    go_wp2
    exact ⟨⟨bb, k + 1, by omega, by go_num, hs.out⟩, by simp [intOf]; omega⟩
   ·have hs := firstE_stop hz hc n hkn
    replace hs := shut hs
    replace hz := shut hz
    go_wp2
    go_ret
    exact ⟨by rw [hs.out]; rfl, bb⟩
  ·obtain rfl : k = n := by omega
   replace hz := shut hz
   go_wp2
   go_ret
   exact ⟨by rw [hz.out]; rfl, bb⟩
theorem asked3 (B : Nat) (n0 n1 n2 n3 n4 n5 : Bool) (s0 d0 s1 d1 s2 d2 s3 d3 s4 d4 s5 d5 : ByteArray) (w : World) (h : Cel w B [.bool n0, .string s0, .string d0, .bool n1, .string s1, .string d1, .bool n2, .string s2, .string d2, .bool n3, .string s3, .string d3, .bool n4, .string s4, .string d4, .bool n5, .string s5, .string d5] 28) (z0 : s0.size ≤ 100 ∧ d0.size ≤ 100) (z1 : s1.size ≤ 100 ∧ d1.size ≤ 100) (z2 : s2.size ≤ 100 ∧ d2.size ≤ 100) (z3 : s3.size ≤ 100 ∧ d3.size ≤ 100) (z4 : s4.size ≤ 100 ∧ d4.size ≤ 100) (z5 : s5.size ≤ 100 ∧ d5.size ≤ 100) :
  Calls Tryz.prog 9 #[.slice (some ⟨B, 0, none⟩) 3 3] w (Re w (.int .i64 (twoc (twoc (twoq n0 s0 d0 n1 s1 d1) (twoq n2 s2 d2 n3 s3 d3)) (twoq n4 s4 d4 n5 s5 d5) : Nat))) := by
 refine asked_walk (some ⟨B, 0, none⟩) 3 3 _ _ _ _ _ _ (f4 (twoq n0 s0 d0 n1 s1 d1) (twoq n2 s2 d2 n3 s3 d3) (twoq n4 s4 d4 n5 s5 d5) 0) w (by omega) (rdpt_3 h) (fun j hj => ?_) (fun j w1 hj => ?_)
 ·match j, hj with
  | 0, _ => exact ⟨z0.1, z0.2, z1.1, z1.2⟩
  | 1, _ => exact ⟨z2.1, z2.2, z3.1, z3.2⟩
  | 2, _ => exact ⟨z4.1, z4.2, z5.1, z5.2⟩
 ·match j, hj with
  | 0, _ => exact rchk4_any n0 n1 s0 d0 s1 d1 w1 (by omega) (by omega) (by omega) (by omega)
  | 1, _ => exact rchk4_any n2 n3 s2 d2 s3 d3 w1 (by omega) (by omega) (by omega) (by omega)
  | 2, _ => exact rchk4_any n4 n5 s4 d4 s5 d5 w1 (by omega) (by omega) (by omega) (by omega)
theorem rsignI (x : Rat) (w : World) : Calls Tryz.prog 64 #[.agg #[.bool (nfZ (x).num), .string (sfZ (x).num), .string (strOf (x).den)]] w (Re w (.int .i64 (Gm.sg x))) := by
 rcases Gm.sg_cases x with ⟨h, e⟩ | ⟨h, e⟩ | ⟨h, e⟩
 ·rw [e, h]
  exact rsign_zero _ w
 ·rw [e]
  have hp := Gm.num_pos h
  have h1 : nfZ x.num = false := by unfold nfZ; exact decide_eq_false (by omega)
  have h2 : (sfZ x.num).toList.isEmpty = false := by
   unfold sfZ
   rw [strOf_empty]
   exact decide_eq_false (by omega)
  rw [h1]
  exact rsign_pos _ _ h2 w
 ·rw [e]
  have hp := Gm.num_pos (q := -x) (by grind)
  rw [Rat.neg_num] at hp
  have h1 : nfZ x.num = true := by unfold nfZ; exact decide_eq_true (by omega)
  rw [h1]
  exact rsign_neg _ _ w
theorem rminusP (x y x' y' : Rat) {K : Nat} (hK : K ≤ 4000) (b0 : Bq x K) (b1 : Bq y K) (b2 : Bq x' K) (b3 : Bq y' K) (w : World) : Calls Tryz.prog 37 #[.agg #[.bool (nfZ (x).num), .string (sfZ (x).num), .string (strOf (x).den), .bool (nfZ (y).num), .string (sfZ (y).num), .string (strOf (y).den)], .agg #[.bool (nfZ (x').num), .string (sfZ (x').num), .string (strOf (x').den), .bool (nfZ (y').num), .string (sfZ (y').num), .string (strOf (y').den)]] w (Re w (.agg #[.bool (nfZ (x - x').num), .string (sfZ (x - x').num), .string (strOf (x - x').den), .bool (nfZ (y - y').num), .string (sfZ (y - y').num), .string (strOf (y - y').den)])) :=
 rminus4_walk _ _ _ _ _ _ _ _ _ _ _ _ _ _ _ _ _ _ w (fun w1 => rlessI x x' hK b0 b2 w1) (fun w1 => rlessI y y' hK b1 b3 w1)
theorem rcrossP (x y x' y' : Rat) {K : Nat} (hK : K + K + 1 ≤ 4000) (b0 : Bq x K) (b1 : Bq y K) (b2 : Bq x' K) (b3 : Bq y' K) (w : World) : Calls Tryz.prog 65 #[.agg #[.bool (nfZ (x).num), .string (sfZ (x).num), .string (strOf (x).den), .bool (nfZ (y).num), .string (sfZ (y).num), .string (strOf (y).den)], .agg #[.bool (nfZ (x').num), .string (sfZ (x').num), .string (strOf (x').den), .bool (nfZ (y').num), .string (sfZ (y').num), .string (strOf (y').den)]] w (Re w (.agg #[.bool (nfZ (x * y' - y * x').num), .string (sfZ (x * y' - y * x').num), .string (strOf (x * y' - y * x').den)])) :=
 rcross4_walk _ _ _ _ _ _ _ _ _ _ _ _ _ _ _ _ _ _ _ _ _ w (fun w1 => rtimesI x y' (K := K) (by omega) b0 b3 w1) (fun w1 => rtimesI y x' (K := K) (by omega) b1 b2 w1) (fun w1 => rlessI (x * y') (y * x') hK (vq_mul b0 b3) (vq_mul b1 b2) w1)
theorem rdotP (x y x' y' : Rat) {K : Nat} (hK : K + K + 1 ≤ 4000) (b0 : Bq x K) (b1 : Bq y K) (b2 : Bq x' K) (b3 : Bq y' K) (w : World) : Calls Tryz.prog 80 #[.agg #[.bool (nfZ (x).num), .string (sfZ (x).num), .string (strOf (x).den), .bool (nfZ (y).num), .string (sfZ (y).num), .string (strOf (y).den)], .agg #[.bool (nfZ (x').num), .string (sfZ (x').num), .string (strOf (x').den), .bool (nfZ (y').num), .string (sfZ (y').num), .string (strOf (y').den)]] w (Re w (.agg #[.bool (nfZ (x * x' + y * y').num), .string (sfZ (x * x' + y * y').num), .string (strOf (x * x' + y * y').den)])) :=
 rdot4_walk _ _ _ _ _ _ _ _ _ _ _ _ _ _ _ _ _ _ _ _ _ w (fun w1 => rtimesI x x' (K := K) (by omega) b0 b2 w1) (fun w1 => rtimesI y y' (K := K) (by omega) b1 b3 w1) (fun w1 => rsumI (x * x') (y * y') hK (vq_mul b0 b2) (vq_mul b1 b3) w1)
theorem rnormP (x y : Rat) {K : Nat} (hK : K + K + 1 ≤ 4000) (b0 : Bq x K) (b1 : Bq y K) (w : World) : Calls Tryz.prog 63 #[.agg #[.bool (nfZ (x).num), .string (sfZ (x).num), .string (strOf (x).den), .bool (nfZ (y).num), .string (sfZ (y).num), .string (strOf (y).den)]] w (Re w (.agg #[.bool (nfZ (x * x + y * y).num), .string (sfZ (x * x + y * y).num), .string (strOf (x * x + y * y).den)])) :=
 rnorm4_walk _ _ _ _ _ _ _ _ _ w (fun w1 => rdotP x y x y hK b0 b1 b0 b1 w1)
open Go.RowKit
theorem asked6_walk (n0 n1 n2 n3 n4 n5 : Bool) (s0 d0 s1 d1 s2 d2 s3 d3 s4 d4 s5 d5 : ByteArray) (E : Int) (w : World)
  (HA : Hid (∀ (w1 : World) (B : Nat), Below w.heap.size w w1 → Cel w1 B [.bool n0, .string s0, .string d0, .bool n1, .string s1, .string d1, .bool n2, .string s2, .string d2, .bool n3, .string s3, .string d3, .bool n4, .string s4, .string d4, .bool n5, .string s5, .string d5] 28 → Calls Tryz.prog 9 #[.slice (some ⟨B, 0, none⟩) 3 3] w1 (Re w1 (.int .i64 E)))) :
  Calls Tryz.prog 23 #[.agg #[.bool n0, .string s0, .string d0, .bool n1, .string s1, .string d1], .agg #[.bool n2, .string s2, .string d2, .bool n3, .string s3, .string d3], .agg #[.bool n4, .string s4, .string d4, .bool n5, .string s5, .string d5]] w (Re w (.int .i64 E)) := by
 go_enter Tryz.func23, Tryz.ntmps23
 go_wp2_with fail
 obtain ⟨w0, hw, ka, kb, kc, kl, bb⟩ := mk4 w [.bool n0, .string s0, .string d0, .bool n1, .string s1, .string d1] [.bool n2, .string s2, .string d2, .bool n3, .string s3, .string d3] [.bool n4, .string s4, .string d4, .bool n5, .string s5, .string d5] [.bool n0, .string s0, .string d0, .bool n1, .string s1, .string d1, .bool n2, .string s2, .string d2, .bool n3, .string s3, .string d3, .bool n4, .string s4, .string d4, .bool n5, .string s5, .string d5] 28 28 28 28
 rw [← hw]
 clear hw
 go_fit (HA.out _ _ bb kl)
 rintro e w1 ⟨rfl, b1⟩
 replace bb := Below.after bb b1
 clear b1 ka kb kc kl
 go_wp2
 go_ret
 exact ⟨rfl, bb⟩
theorem asked6_any (n0 n1 n2 n3 n4 n5 : Bool) (s0 d0 s1 d1 s2 d2 s3 d3 s4 d4 s5 d5 : ByteArray) (w : World) (z0 : s0.size ≤ 100 ∧ d0.size ≤ 100) (z1 : s1.size ≤ 100 ∧ d1.size ≤ 100) (z2 : s2.size ≤ 100 ∧ d2.size ≤ 100) (z3 : s3.size ≤ 100 ∧ d3.size ≤ 100) (z4 : s4.size ≤ 100 ∧ d4.size ≤ 100) (z5 : s5.size ≤ 100 ∧ d5.size ≤ 100) :
  Calls Tryz.prog 23 #[.agg #[.bool n0, .string s0, .string d0, .bool n1, .string s1, .string d1], .agg #[.bool n2, .string s2, .string d2, .bool n3, .string s3, .string d3], .agg #[.bool n4, .string s4, .string d4, .bool n5, .string s5, .string d5]] w (Re w (.int .i64 (twoc (twoc (twoq n0 s0 d0 n1 s1 d1) (twoq n2 s2 d2 n3 s3 d3)) (twoq n4 s4 d4 n5 s5 d5) : Nat))) :=
 asked6_walk n0 n1 n2 n3 n4 n5 s0 d0 s1 d1 s2 d2 s3 d3 s4 d4 s5 d5 _ w (fun w1 B _ h => asked3 B n0 n1 n2 n3 n4 n5 s0 d0 s1 d1 s2 d2 s3 d3 s4 d4 s5 d5 w1 h z0 z1 z2 z3 z4 z5)
theorem canon {n : Bool} {s d : ByteArray} {K : Nat} (h : chkq n s d = 0) (z : s.size ≤ K ∧ d.size ≤ K) : ∃ x : Rat, Bq x K ∧ n = nfZ x.num ∧ s = sfZ x.num ∧ d = strOf x.den := by
 have o := (chkq_zero h).1
 obtain ⟨e1, e2, e3⟩ := o.parts
 refine ⟨qOf n s d, ⟨?_, ?_⟩, e1.symm, e2.symm, e3.symm⟩
 ·rw [o.low.1]; exact bd_zOf z.1
 ·rw [o.low.2]
  have := bd_zOf (n := false) z.2
  simpa [zOf] using this
open Go.RowKit
theorem vqm_add {a b : Rat} {k j : Nat} (ha : Bq a k) (hb : Bq b j) : Bq (a + b) (k + j + 1) := by
 rw [Rat.add_def']
 exact vq_mk (Nat.mul_pos a.den_pos b.den_pos) ((ha.1.mul hb.2).add ((hb.1.mul ha.2).mono (by omega))) ((vd_cast _ _ ha.2 hb.2).mono (by omega))
theorem vqm_sub {a b : Rat} {k j : Nat} (ha : Bq a k) (hb : Bq b j) : Bq (a - b) (k + j + 1) := by
 rw [Rat.sub_eq_add_neg]
 exact vqm_add ha (vq_neg hb)
theorem vqm_mul {a b : Rat} {k j : Nat} (ha : Bq a k) (hb : Bq b j) : Bq (a * b) (k + j) := by
 rw [Rat.mul_def']
 exact vq_mk (Nat.mul_pos a.den_pos b.den_pos) (ha.1.mul hb.1) (vd_cast _ _ ha.2 hb.2)
open Go.RowKit
theorem al1e {w w' : World} {c0 : List Value} {t0 : TypeId} (b : Below (w.alloc (.cells c0.toArray t0)).drew.heap.size (w.alloc (.cells c0.toArray t0)).drew w') : Cel w' w.heap.size c0 t0 ∧ Below w.heap.size w w' := by
 have b' : Below (w.alloc (.cells c0.toArray t0)).heap.size (w.alloc (.cells c0.toArray t0)) w' := ⟨b.os, b.tape, b.output, b.size, b.block⟩
 exact al1 b'
theorem far2_walk (n0 n1 n2 n3 : Bool) (s0 d0 s1 d1 s2 d2 s3 d3 : ByteArray) (x y : Rat) (w : World) (hT : Tab w)
  (H1 : Hid (∀ w1, Calls Tryz.prog 70 #[.agg #[.bool n0, .string s0, .string d0, .bool n1, .string s1, .string d1], .agg #[.bool n2, .string s2, .string d2, .bool n3, .string s3, .string d3]] w1 fun e w' => ∃ m0 a0 l0 c0 m1 a1 l1 c1 a2 l2 c2 X Y U, e = .returned (.agg #[.bool m0, .slice a0 l0 c0, .bool m1, .slice a1 l1 c1, .bool false, .slice a2 l2 c2]) ∧ SpV w' m0 a0 l0 c0 m1 a1 l1 c1 a2 l2 c2 X Y U x y ∧ Below w1.heap.size w1 w')) :
  Calls Tryz.prog 59 #[.agg #[.bool n0, .string s0, .string d0, .bool n1, .string s1, .string d1], .agg #[.bool n2, .string s2, .string d2, .bool n3, .string s3, .string d3]] w (Re w (.agg #[.bool (nfZ (x * x + y * y).num), .string (sfZ (x * x + y * y).num), .string (strOf (x * x + y * y).den)])) := by
 go_enter Tryz.func59, Tryz.ntmps59
 go_wp2_with fail
 obtain ⟨w0, hw, ka, kb, kr, bb⟩ := mk3 w [.bool n0, .string s0, .string d0, .bool n1, .string s1, .string d1] [.bool n2, .string s2, .string d2, .bool n3, .string s3, .string d3] [.bool false, .string { data := #[] }, .string { data := #[] }] 28 28 26
 rw [← hw]
 clear hw
 go_fit (H1.out _)
 rintro e w1 ⟨m1, a1, l1, c1, m2, a2, l2, c2, a3, l3, c3, X1, Y1, U1, rfl, sv1, b1⟩
 replace kr := kr.below b1
 replace bb := Below.after bb b1
 have tu := kr.lt
 clear b1 ka kb
 obtain ⟨nx, ny, nu, hw1⟩ := sv1
 go_wp2_with fail
 obtain ⟨w2, hw, ku, b1⟩ := mk1 w1 [.bool m1, .slice a1 l1 c1, .bool m2, .slice a2 l2 c2, .bool false, .slice a3 l3 c3] 74
 rw [← hw]
 clear hw
 replace kr := kr.below b1
 replace bb := Below.after bb b1
 replace nx := nx.below b1
 replace ny := ny.below b1
 replace nu := nu.below b1
 clear b1
 have HS : Hid (∀ w', Below w2.heap.size w2 w' → Calls Tryz.prog 76 #[.agg #[.bool m1, .slice a1 l1 c1, .bool m2, .slice a2 l2 c2, .bool false, .slice a3 l3 c3]] w' fun e w'' => ∃ m a l c, e = .returned (.agg #[.bool m, .slice a l c]) ∧ NV w'' m (.slice a l c) (X1 * X1 + Y1 * Y1) 107 ∧ Below w'.heap.size w' w'') := fun w' b => (ssquare_any _ _ _ _ _ _ _ _ _ _ _ _ X1 Y1 53 w' (by omega) (nx.below b) (ny.below b)).mono fun e w'' ⟨m, u, h1, h2, h3⟩ => by
  obtain ⟨a, l, c, rfl⟩ := h2.slice
  exact ⟨m, a, l, c, h1, h2, h3⟩
 have HO : Hid (∀ (B : Nat) (m : Bool) (v : Value) (w' : World), Below w2.heap.size w2 w' → NV w' m v (X1 * X1 + Y1 * Y1) 107 → Cel w' B [.bool false, .slice a3 l3 c3, .bool false, .slice a3 l3 c3] 72 → Calls Tryz.prog 78 #[.agg #[.bool m, v], .slice (some ⟨B, 0, none⟩) 2 2] w' fun e w'' => e = .returned (.agg #[.bool (nfZ (x * x + y * y).num), .string (sfZ (x * x + y * y).num), .string (strOf (x * x + y * y).den)]) ∧ Below w'.heap.size w' w'') := fun B m v w' b nz hB => by
  have := nover2 m false false v a3 a3 l3 c3 l3 c3 (X1 * X1 + Y1 * Y1) U1 U1 107 B w' (hT.below (Below.after bb b)) (by omega) hw1.1 hw1.1 nz ((nu.below b).mono (by omega)) ((nu.below b).mono (by omega)) hB
  rwa [Gm.far_eq hw1] at this
 clear nx ny nu hw1
 have mkS : Hid (∀ w', Cel w' w1.heap.size [.bool m1, .slice a1 l1 c1, .bool m2, .slice a2 l2 c2, .bool false, .slice a3 l3 c3] 74 → (xc6 w' w1.heap.size (.bool m1) (.slice a1 l1 c1) (.bool m2) (.slice a2 l2 c2) (.bool false) (.slice a3 l3 c3))) := fun w' hu => (xk6 hu)
 have qu : w1.heap.size ≠ w.heap.size + 1 + 1 := by omega
 have b9 := Below.refl w2.heap.size w2
 go_region_held3 (fun w' => xc6 w' w1.heap.size (.bool m1) (.slice a1 l1 c1) (.bool m2) (.slice a2 l2 c2) (.bool false) (.slice a3 l3 c3)) (first | with_reducible exact mkS.out _ ku | with_reducible exact mkS.out _ ku.drew | with_reducible exact mkS.out _ (ku.alloc _) | with_reducible exact mkS.out _ (ku.drew.alloc _) | with_reducible exact mkS.out _ (ku.alloc _).drew | with_reducible exact mkS.out _ (Cel.other (Cel.other (Cel.other ku qu 0 _) qu 1 _) qu 2 _) | exact mkS.out _ ku) (first | (go_at_call 76; go_fit (HS.out _ ?_); (first | exact b9 | exact b9.drew | exact ba b9.drew _ | exact (ba b9 _).drew); rintro e wn ⟨m7, a7, l7, c7, rfl, nv7, bn⟩; (first | (have bq : Below w2.heap.size w2 wn := (un bn)) | (obtain ⟨kB, bq⟩ := al1e bn)); replace b9 := bq; replace ku := ku.below bq; replace kr := kr.below bq; replace bb := Below.after bb bq) | (go_at_call 78; go_fit (HO.out _ _ _ _ ?_ ?_ ?_); (first | exact b9 | exact ba b9 _); (first | exact nv7 | exact nv7.below (bel_al _ _)); (first | exact kB | exact Cel.new _ _ _); rintro e wm ⟨rfl, bn⟩; (first | (have bq : Below wn.heap.size wn wm := bn; replace ku := ku.below bq; replace kr := kr.below bq; replace bb := Below.after bb bq) | (obtain ⟨-, bq⟩ := al1 bn; replace ku := ku.below bq; replace kr := kr.below bq; replace bb := Below.after bb bq)); have e0 := cel3_0 kr; have f0 := Cel.frozen kr 0; have e1 := cel3_1 kr; have f1 := Cel.frozen kr 1; have e2 := cel3_2 kr; have f2 := Cel.frozen kr 2))
 all_goals go_wp2
 all_goals exact post_q (p := 4) (by kernel_rfl) rfl rfl (((kr.set 0 _).set 1 _).set 2 _) ⟨rfl, bset (bset (bset bb (by omega) 0 _) (by omega) 1 _) (by omega) 2 _⟩
open Go.RowKit
theorem make_way {X U : Int} {x : Rat} (w : World) (hT : Tab w) (bX : Bd X 8000) (bU : Bd U 8000) (hU : 0 < U) (h : (X : Rat) = (U : Rat) * x) :
  Calls Tryz.prog 61 #[.agg #[.bool (nfZ X), .string (sfZ X)], .agg #[.bool (nfZ U), .string (sfZ U)]] w (Re w (.tuple #[.agg #[.bool (nfZ x.num), .string (sfZ x.num), .string (strOf x.den)], .int .i64 0])) := by
 have := make_ok (nfZ X) (nfZ U) (sfZ X) (sfZ U) w hT (okZ_nz X) (okZ_nz U) (K := 8000) (by omega) (bd_sf bX) (bd_sf bU) (by rw [natOf_sfZ]; omega)
 rw [zOf_nz, zOf_nz] at this
 have e : Rat.divInt X U = x := by
  rw [Rat.divInt_eq_div, h]
  have hp := Gm.upos hU
  rw [Rat.div_def]
  have := Rat.mul_inv_cancel (U : Rat) (by grind)
  grind
 rw [e] at this
 exact this
theorem cCen_flat (n0 n1 n2 n3 n4 n5 : Bool) (s0 d0 s1 d1 s2 d2 s3 d3 s4 d4 s5 d5 : ByteArray) (w : World)
  (HC : Hid (∀ (w1 : World) (B : Nat), Below w.heap.size w w1 → Cel w1 B [.bool n0, .string s0, .string d0, .bool n1, .string s1, .string d1, .bool n2, .string s2, .string d2, .bool n3, .string s3, .string d3, .bool n4, .string s4, .string d4, .bool n5, .string s5, .string d5] 28 → Calls Tryz.prog 45 #[.slice (some ⟨B, 0, none⟩) 3 3] w1 (Re w1 (.int .i64 0))))
  (HT : Hid (∀ w1, Calls Tryz.prog 60 #[.agg #[.bool n0, .string s0, .string d0, .bool n1, .string s1, .string d1], .agg #[.bool n2, .string s2, .string d2, .bool n3, .string s3, .string d3], .agg #[.bool n4, .string s4, .string d4, .bool n5, .string s5, .string d5]] w1 (Re w1 (.tuple #[.agg #[.bool false, .slice none 0 0, .bool false, .slice none 0 0, .bool false, .slice none 0 0], .bool false])))) :
  Calls Tryz.prog 22 #[.agg #[.bool n0, .string s0, .string d0, .bool n1, .string s1, .string d1], .agg #[.bool n2, .string s2, .string d2, .bool n3, .string s3, .string d3], .agg #[.bool n4, .string s4, .string d4, .bool n5, .string s5, .string d5]] w (Re w (.tuple #[.agg #[.bool false, .string { data := #[] }, .string { data := #[] }, .bool false, .string { data := #[] }, .string { data := #[] }], .int .i64 6])) := by
 go_enter Tryz.func22, Tryz.ntmps22
 go_wp2_with fail
 obtain ⟨w0, hw, ka, kb, kc, kr, kl, bb⟩ := mk5 w [.bool n0, .string s0, .string d0, .bool n1, .string s1, .string d1] [.bool n2, .string s2, .string d2, .bool n3, .string s3, .string d3] [.bool n4, .string s4, .string d4, .bool n5, .string s5, .string d5] [.bool false, .string { data := #[] }, .string { data := #[] }, .bool false, .string { data := #[] }, .string { data := #[] }] [.bool n0, .string s0, .string d0, .bool n1, .string s1, .string d1, .bool n2, .string s2, .string d2, .bool n3, .string s3, .string d3, .bool n4, .string s4, .string d4, .bool n5, .string s5, .string d5] 28 28 28 28 28
 rw [← hw]
 clear hw
 go_fit (HC.out _ _ bb kl)
 rintro e w1 ⟨rfl, b1⟩
 replace ka := ka.below b1
 replace kb := kb.below b1
 replace kc := kc.below b1
 replace kr := kr.below b1
 replace bb := Below.after bb b1
 clear b1 kl
 obtain ⟨za0, za1, za2, za3, za4, za5⟩ := xk6 ka
 obtain ⟨zb0, zb1, zb2, zb3, zb4, zb5⟩ := xk6 kb
 obtain ⟨zc0, zc1, zc2, zc3, zc4, zc5⟩ := xk6 kc
 go_wp2_with fail
 clear za0 za1 za2 za3 za4 za5 zb0 zb1 zb2 zb3 zb4 zb5 zc0 zc1 zc2 zc3 zc4 zc5
 go_fit (HT.out _)
 rintro e w2 ⟨rfl, b1⟩
 replace kr := kr.below b1
 replace bb := Below.after bb b1
 clear b1
 have kr' := kr.alloc (.cells #[.bool false, .slice none 0 0, .bool false, .slice none 0 0, .bool false, .slice none 0 0] 74)
 obtain ⟨e0, e1, e2, e3, e4, e5⟩ := xk6 kr'
 have f0 := Cel.frozen kr' 0
 have f1 := Cel.frozen kr' 1
 have f2 := Cel.frozen kr' 2
 have f3 := Cel.frozen kr' 3
 have f4 := Cel.frozen kr' 4
 have f5 := Cel.frozen kr' 5
 go_wp2
 replace kr := kr'
 replace bb := Below.after bb (bel_al w2 (.cells #[.bool false, .slice none 0 0, .bool false, .slice none 0 0, .bool false, .slice none 0 0] 74))
 exact post_p1 (p := 6) (u := 7) (v := .int .i64 6) (by kernel_rfl) rfl rfl rfl (kr.set6 _ _ _ _ _ _) ⟨rfl, bset6 bb (by omega) _ _ _ _ _ _⟩
open Go.RowKit
theorem cCen_ok (n0 n1 n2 n3 n4 n5 : Bool) (s0 d0 s1 d1 s2 d2 s3 d3 s4 d4 s5 d5 : ByteArray) (cx cy : Rat) (rN tN : Bool) (rS rD tS tD : ByteArray) (w : World) (hT : Tab w)
  (HC : Hid (∀ (w1 : World) (B : Nat), Below w.heap.size w w1 → Cel w1 B [.bool n0, .string s0, .string d0, .bool n1, .string s1, .string d1, .bool n2, .string s2, .string d2, .bool n3, .string s3, .string d3, .bool n4, .string s4, .string d4, .bool n5, .string s5, .string d5] 28 → Calls Tryz.prog 45 #[.slice (some ⟨B, 0, none⟩) 3 3] w1 (Re w1 (.int .i64 0))))
  (HT : Hid (∀ w1, Calls Tryz.prog 60 #[.agg #[.bool n0, .string s0, .string d0, .bool n1, .string s1, .string d1], .agg #[.bool n2, .string s2, .string d2, .bool n3, .string s3, .string d3], .agg #[.bool n4, .string s4, .string d4, .bool n5, .string s5, .string d5]] w1 fun e w' => ∃ m0 a0 l0 c0 m1 a1 l1 c1 m2 a2 l2 c2 X Y U, e = .returned (.tuple #[.agg #[.bool m0, .slice a0 l0 c0, .bool m1, .slice a1 l1 c1, .bool m2, .slice a2 l2 c2], .bool true]) ∧ NV w' m0 (.slice a0 l0 c0) X 319 ∧ NV w' m1 (.slice a1 l1 c1) Y 319 ∧ NV w' m2 (.slice a2 l2 c2) U 212 ∧ Gm.Way X Y U cx cy ∧ Below w1.heap.size w1 w'))
  (HP : Hid (∀ w1, Below w.heap.size w w1 → Calls Tryz.prog 53 #[.agg #[.bool n0, .string s0, .string d0, .bool n1, .string s1, .string d1], .agg #[.bool (nfZ cx.num), .string (sfZ cx.num), .string (strOf cx.den), .bool (nfZ cy.num), .string (sfZ cy.num), .string (strOf cy.den)]] w1 (Re w1 (.tuple #[.agg #[.bool rN, .string rS, .string rD, .bool tN, .string tS, .string tD], .int .i64 0])))) :
  Calls Tryz.prog 22 #[.agg #[.bool n0, .string s0, .string d0, .bool n1, .string s1, .string d1], .agg #[.bool n2, .string s2, .string d2, .bool n3, .string s3, .string d3], .agg #[.bool n4, .string s4, .string d4, .bool n5, .string s5, .string d5]] w (Re w (.tuple #[.agg #[.bool rN, .string rS, .string rD, .bool tN, .string tS, .string tD], .int .i64 0])) := by
 go_enter Tryz.func22, Tryz.ntmps22
 go_wp2_with fail
 obtain ⟨w0, hw, ka, kb, kc, kr, kl, bb⟩ := mk5 w [.bool n0, .string s0, .string d0, .bool n1, .string s1, .string d1] [.bool n2, .string s2, .string d2, .bool n3, .string s3, .string d3] [.bool n4, .string s4, .string d4, .bool n5, .string s5, .string d5] [.bool false, .string { data := #[] }, .string { data := #[] }, .bool false, .string { data := #[] }, .string { data := #[] }] [.bool n0, .string s0, .string d0, .bool n1, .string s1, .string d1, .bool n2, .string s2, .string d2, .bool n3, .string s3, .string d3, .bool n4, .string s4, .string d4, .bool n5, .string s5, .string d5] 28 28 28 28 28
 rw [← hw]
 clear hw
 go_fit (HC.out _ _ bb kl)
 rintro e w1 ⟨rfl, b1⟩
 replace ka := ka.below b1
 replace kb := kb.below b1
 replace kc := kc.below b1
 replace kr := kr.below b1
 replace bb := Below.after bb b1
 clear b1 kl
 have tr := kr.lt
 obtain ⟨za0, za1, za2, za3, za4, za5⟩ := xk6 ka
 obtain ⟨zb0, zb1, zb2, zb3, zb4, zb5⟩ := xk6 kb
 obtain ⟨zc0, zc1, zc2, zc3, zc4, zc5⟩ := xk6 kc
 go_wp2_with fail
 clear za0 za1 za2 za3 za4 za5 zb0 zb1 zb2 zb3 zb4 zb5 zc0 zc1 zc2 zc3 zc4 zc5
 go_fit (HT.out _)
 rintro e w2 ⟨m0, a0, l0, c0, m1, a1, l1, c1, m2, a2, l2, c2, X, Y, U, rfl, nx, ny, nu, wy, b1⟩
 have sz := b1.size
 replace ka := ka.below b1
 replace kb := kb.below b1
 replace kc := kc.below b1
 replace kr := kr.below b1
 replace bb := Below.after bb b1
 clear b1
 go_wp2_with fail
 obtain ⟨w3, hw, ky, b1⟩ := mk1 w2 [.bool m0, .slice a0 l0 c0, .bool m1, .slice a1 l1 c1, .bool m2, .slice a2 l2 c2] 74
 rw [← hw]
 clear hw
 have sz := b1.size
 replace ka := ka.below b1
 replace kb := kb.below b1
 replace kc := kc.below b1
 replace kr := kr.below b1
 replace nx := nx.below b1
 replace ny := ny.below b1
 replace nu := nu.below b1
 replace bb := Below.after bb b1
 clear b1
 have ty := ky.lt
 have HM1 : Hid (∀ w1, Below w.heap.size w w1 → Calls Tryz.prog 61 #[.agg #[.bool (nfZ X), .string (sfZ X)], .agg #[.bool (nfZ U), .string (sfZ U)]] w1 (Re w1 (.tuple #[.agg #[.bool (nfZ cx.num), .string (sfZ cx.num), .string (strOf cx.den)], .int .i64 0]))) := fun w1 b => make_way w1 (hT.below b) (nx.bd (by omega)) (nu.bd (by omega)) wy.1 wy.2.1
 have HM2 : Hid (∀ w1, Below w.heap.size w w1 → Calls Tryz.prog 61 #[.agg #[.bool (nfZ Y), .string (sfZ Y)], .agg #[.bool (nfZ U), .string (sfZ U)]] w1 (Re w1 (.tuple #[.agg #[.bool (nfZ cy.num), .string (sfZ cy.num), .string (strOf cy.den)], .int .i64 0]))) := fun w1 b => make_way w1 (hT.below b) (ny.bd (by omega)) (nu.bd (by omega)) wy.1 wy.2.2
 clear wy hT HC HT
 have mk : Hid (∀ w', SB w3 w' → xc6 w' w2.heap.size (.bool m0) (.slice a0 l0 c0) (.bool m1) (.slice a1 l1 c1) (.bool m2) (.slice a2 l2 c2)) := fun w' h => xk6 (ky.below h)
 go_cut [11, 12] from 34 to 43 (fun v y12 wx => ∃ gc, v = .pointer (some ⟨gc, 0, none⟩) ∧ y12 = .int .i64 0 ∧ w3.heap.size ≤ gc ∧ Cel wx gc [.bool (nfZ cx.num), .string (sfZ cx.num), .string (strOf cx.den)] 26 ∧ Below w3.heap.size w3 wx)
 case first =>
  clear HP HM2
  refine wp_region_held_drew (S := SB w3) (by kernel_rfl) (bdrew _) (fun bc => ?_)
  refine WA.start (n := 13) (by kernel_rfl) ?_
  refine WA.tk 0 rfl ?_
  refine WA.tl 1 rfl ?_
  refine WA.tk 3 rfl ?_
  refine WA.tl 4 rfl ?_
  refine WA.gen (i := 10) (s := 11) undef (Pt w3 [.bool false, .string { data := #[] }, .string { data := #[] }] 26) (fun b x hz => ?_)
  simp only [Act.put, List.setIfInBounds_toArray, List.set_cons_zero, List.set_cons_succ]
  revert b x
  refine WA.one 13 27 2 10 rfl rfl bc ?_
  clear bc
  intro b x w' hz bx bc K hK
  clear bx
  simp only [List.getElem_toArray, List.getElem_cons_succ, List.getElem_cons_zero]
  go_simp
  go_fit (nint_any _ _ X 319 _ (by omega) (nx.below bc))
  rintro e wn ⟨rfl, bn⟩
  replace bc := Below.after bc bn
  try go_wp2_with fail
  refine hK.out _ _ bc (fun _ => ?_)
  replace hz := fun h => (hz h).below bn
  clear hK K bn
  revert b x
  refine WA.one 13 31 5 10 rfl rfl bc ?_
  clear bc
  intro b x w' hz bx bc K hK
  clear bx
  simp only [List.getElem_toArray, List.getElem_cons_succ, List.getElem_cons_zero]
  go_simp
  go_fit (nint_any _ _ U 212 _ (by omega) (nu.below bc))
  rintro e wn ⟨rfl, bn⟩
  replace bc := Below.after bc bn
  try go_wp2_with fail
  refine hK.out _ _ bc (fun _ => ?_)
  replace hz := fun h => (hz h).below bn
  clear hK K bn
  revert b x
  refine WA.one 13 63 6 10 rfl rfl bc ?_
  clear bc
  intro b x w' hz bx bc K hK
  clear bx
  simp only [List.getElem_toArray, List.getElem_cons_succ, List.getElem_cons_zero]
  go_simp
  go_fit (HM1.out _ ?_)
  ·exact Below.after bb bc
  rintro e wn ⟨rfl, bn⟩
  replace bc := Below.after bc bn
  try go_wp2_with fail
  refine hK.out _ _ bc (fun _ => ?_)
  replace hz := fun h => (hz h).below bn
  clear hK K bn
  refine WA.tk 7 rfl ?_
  refine WA.tk 8 rfl ?_
  refine WA.tk 9 rfl ?_
  revert b x
  refine WA.fin 10 rfl bc ?_
  clear bc
  intro x w' hz bx bc
  obtain ⟨g0, rfl, h0, k0⟩ := hz
  clear bx
  obtain ⟨e0, e1, e2⟩ := xk3 k0
  have f0 := Cel.frozen k0 0
  have f1 := Cel.frozen k0 1
  have f2 := Cel.frozen k0 2
  refine WA.call 11 rfl (fun K hK => ?_)
  simp only [List.getElem_toArray, List.getElem_cons_succ, List.getElem_cons_zero]
  go_simp
  try go_wp2_with fail
  clear e0 f0 e1 f1 e2 f2
  replace bc := (bset (bset (bset bc h0 0 (.bool (nfZ cx.num))) h0 1 (.string (sfZ cx.num))) h0 2 (.string (strOf cx.den)))
  refine hK.out _ _ bc (fun _ => ?_)
  clear hK K
  replace k0 := (Cel.set (Cel.set (Cel.set k0 0 (.bool (nfZ cx.num))) 1 (.string (sfZ cx.num))) 2 (.string (strOf cx.den)))
  refine WA.tk 12 rfl ?_
  refine WA.done (by kernel_rfl) ?_
  go_wp2_with fail
  go_meet
  exact ⟨_, rfl, rfl, h0, k0, bc⟩
 case rest =>
 obtain ⟨gp, rfl, rfl, lp, kp, b1⟩ := hcut
 clear mk; have sz := b1.size
 replace ka := ka.below b1
 replace kb := kb.below b1
 replace kc := kc.below b1
 replace kr := kr.below b1
 replace ky := ky.below b1
 replace bb := Below.after bb b1
 replace ny := ny.below b1
 replace nu := nu.below b1
 clear b1
 have tp := kp.lt
 clear HM1 nx
 go_wp2_with fail
 have mk : Hid (∀ w', SB wc w' → xc6 w' w2.heap.size (.bool m0) (.slice a0 l0 c0) (.bool m1) (.slice a1 l1 c1) (.bool m2) (.slice a2 l2 c2)) := fun w' h => xk6 (ky.below h)
 go_cut [13, 14] from 44 to 53 (fun v y14 wx => ∃ gc, v = .pointer (some ⟨gc, 0, none⟩) ∧ y14 = .int .i64 0 ∧ wc.heap.size ≤ gc ∧ Cel wx gc [.bool (nfZ cy.num), .string (sfZ cy.num), .string (strOf cy.den)] 26 ∧ Below wc.heap.size wc wx)
 case first =>
  clear HP
  refine wp_region_held_drew (S := SB wc) (by kernel_rfl) (bdrew _) (fun bc => ?_)
  refine WA.start (n := 13) (by kernel_rfl) ?_
  refine WA.tk 0 rfl ?_
  refine WA.tl 1 rfl ?_
  refine WA.tk 3 rfl ?_
  refine WA.tl 4 rfl ?_
  refine WA.gen (i := 10) (s := 13) undef (Pt wc [.bool false, .string { data := #[] }, .string { data := #[] }] 26) (fun b x hz => ?_)
  simp only [Act.put, List.setIfInBounds_toArray, List.set_cons_zero, List.set_cons_succ]
  revert b x
  refine WA.one 13 27 2 10 rfl rfl bc ?_
  clear bc
  intro b x w' hz bx bc K hK
  clear bx
  simp only [List.getElem_toArray, List.getElem_cons_succ, List.getElem_cons_zero]
  go_simp
  go_fit (nint_any _ _ Y 319 _ (by omega) (ny.below bc))
  rintro e wn ⟨rfl, bn⟩
  replace bc := Below.after bc bn
  try go_wp2_with fail
  refine hK.out _ _ bc (fun _ => ?_)
  replace hz := fun h => (hz h).below bn
  clear hK K bn
  revert b x
  refine WA.one 13 31 5 10 rfl rfl bc ?_
  clear bc
  intro b x w' hz bx bc K hK
  clear bx
  simp only [List.getElem_toArray, List.getElem_cons_succ, List.getElem_cons_zero]
  go_simp
  go_fit (nint_any _ _ U 212 _ (by omega) (nu.below bc))
  rintro e wn ⟨rfl, bn⟩
  replace bc := Below.after bc bn
  try go_wp2_with fail
  refine hK.out _ _ bc (fun _ => ?_)
  replace hz := fun h => (hz h).below bn
  clear hK K bn
  revert b x
  refine WA.one 13 63 6 10 rfl rfl bc ?_
  clear bc
  intro b x w' hz bx bc K hK
  clear bx
  simp only [List.getElem_toArray, List.getElem_cons_succ, List.getElem_cons_zero]
  go_simp
  go_fit (HM2.out _ ?_)
  ·exact Below.after bb bc
  rintro e wn ⟨rfl, bn⟩
  replace bc := Below.after bc bn
  try go_wp2_with fail
  refine hK.out _ _ bc (fun _ => ?_)
  replace hz := fun h => (hz h).below bn
  clear hK K bn
  refine WA.tk 7 rfl ?_
  refine WA.tk 8 rfl ?_
  refine WA.tk 9 rfl ?_
  revert b x
  refine WA.fin 10 rfl bc ?_
  clear bc
  intro x w' hz bx bc
  obtain ⟨g0, rfl, h0, k0⟩ := hz
  clear bx
  obtain ⟨e0, e1, e2⟩ := xk3 k0
  have f0 := Cel.frozen k0 0
  have f1 := Cel.frozen k0 1
  have f2 := Cel.frozen k0 2
  refine WA.call 11 rfl (fun K hK => ?_)
  simp only [List.getElem_toArray, List.getElem_cons_succ, List.getElem_cons_zero]
  go_simp
  try go_wp2_with fail
  clear e0 f0 e1 f1 e2 f2
  replace bc := (bset (bset (bset bc h0 0 (.bool (nfZ cy.num))) h0 1 (.string (sfZ cy.num))) h0 2 (.string (strOf cy.den)))
  refine hK.out _ _ bc (fun _ => ?_)
  clear hK K
  replace k0 := (Cel.set (Cel.set (Cel.set k0 0 (.bool (nfZ cy.num))) 1 (.string (sfZ cy.num))) 2 (.string (strOf cy.den)))
  refine WA.tk 12 rfl ?_
  refine WA.done (by kernel_rfl) ?_
  go_wp2_with fail
  go_meet
  exact ⟨_, rfl, rfl, h0, k0, bc⟩
 case rest =>
 obtain ⟨gq, rfl, rfl, lq, kq, b1⟩ := hcut
 clear mk; have sz := b1.size
 replace ka := ka.below b1
 replace kb := kb.below b1
 replace kc := kc.below b1
 replace kr := kr.below b1
 replace ky := ky.below b1
 replace kp := kp.below b1
 replace bb := Below.after bb b1
 clear b1
 have tq := kq.lt
 clear HM2 ny nu
 obtain ⟨ca_0, ca_1, ca_2, ca_3, ca_4, ca_5⟩ := xk6 ka
 obtain ⟨cp_6, cp_7, cp_8⟩ := xk3 kp
 obtain ⟨cq_9, cq_10, cq_11⟩ := xk3 kq
 go_wp2_with fail
 clear ca_0 ca_1 ca_2 ca_3 ca_4 ca_5 cp_6 cp_7 cp_8 cq_9 cq_10 cq_11
 go_fit (HP.out _ bb)
 rintro e w5 ⟨rfl, b1⟩
 replace kr := kr.below b1
 replace bb := Below.after bb b1
 clear b1
 obtain ⟨e0, e1, e2, e3, e4, e5⟩ := xk6 kr
 have f0 := Cel.frozen kr 0
 have f1 := Cel.frozen kr 1
 have f2 := Cel.frozen kr 2
 have f3 := Cel.frozen kr 3
 have f4 := Cel.frozen kr 4
 have f5 := Cel.frozen kr 5
 go_wp2
 exact post_p1 (p := 6) (u := 7) (v := .int .i64 0) (by kernel_rfl) rfl rfl rfl (kr.set6 _ _ _ _ _ _) ⟨rfl, bset6 bb (by omega) _ _ _ _ _ _⟩
end Go.Proofs.YtiiigiggcbbgjaaGreatDoor
