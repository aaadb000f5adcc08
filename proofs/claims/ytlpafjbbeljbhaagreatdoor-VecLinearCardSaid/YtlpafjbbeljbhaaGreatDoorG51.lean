/-
  gussetref04: Points.
  Rational numbers in their one form: how long sums and products get; the reference's calls over them.
-/
import Derived.Test.YtlpafjbbeljbhaaGreatDoorG38
import Derived.Test.YtlpafjbbeljbhaaGreatDoorG41
import Derived.Test.YtlpafjbbeljbhaaGreatDoorG50
namespace Go.Proofs.YtlpafjbbeljbhaaGreatDoor
open Go.RowKit

/-- Points in a row. -/
def RdP (w : World) (a : Option Addr) (n : Nat) (N : Nat → Bool) (S D : Nat → ByteArray) (N' : Nat → Bool) (S' D' : Nat → ByteArray) : Prop :=
 ∀ j, j < n → ∃ b off, a = some ⟨b, off, none⟩ ∧ w.cell? ⟨b, off + j * 6, none⟩ = some (.bool (N j)) ∧ w.cell? ⟨b, off + j * 6 + 1, none⟩ = some (.string (S j)) ∧ w.cell? ⟨b, off + j * 6 + 2, none⟩ = some (.string (D j)) ∧ w.cell? ⟨b, off + j * 6 + 3, none⟩ = some (.bool (N' j)) ∧ w.cell? ⟨b, off + j * 6 + 4, none⟩ = some (.string (S' j)) ∧ w.cell? ⟨b, off + j * 6 + 5, none⟩ = some (.string (D' j))
theorem RdP.below {w w' : World} {a : Option Addr} {n : Nat} {N N' : Nat → Bool} {S D S' D' : Nat → ByteArray} (h : RdP w a n N S D N' S' D') (hb : Below w.heap.size w w') : RdP w' a n N S D N' S' D' := by
 intro j hj
 obtain ⟨b, off, rfl, h0, h1, h2, h3, h4, h5⟩ := h j hj
 exact ⟨b, off, rfl, cell_below h0 hb, cell_below h1 hb, cell_below h2 hb, cell_below h3 hb, cell_below h4 hb, cell_below h5 hb⟩
set_option maxRecDepth 100000 in
set_option maxHeartbeats 2000000 in
theorem rpoints_walk (a : Option Addr) (n cap : Nat) (N N' : Nat → Bool) (S D S' D' : Nat → ByteArray) (c : Nat → Nat) (w : World) (hn : n ≤ 1000000) (h : RdP w a n N S D N' S' D')
  (HC : Hid (∀ (j : Nat) (w1 : World), j < n → Calls Tryz.prog 17 #[.agg #[.bool (N j), .string (S j), .string (D j), .bool (N' j), .string (S' j), .string (D' j)]] w1 fun e w' => e = .returned (.int .i64 (c j : Nat)) ∧ Below w1.heap.size w1 w')) :
  Calls Tryz.prog 11 #[.slice a n cap] w fun e w' => e = .returned (.int .i64 (firstE c n : Nat)) ∧ Below w.heap.size w w' := by
 replace h := shut h
 go_enter Tryz.func11, Tryz.ntmps11
 go_wp2
 go_loopw [3] (fun i wr => Below w.heap.size w wr ∧ ∃ k : Nat, k ≤ n ∧ i = .int .i64 k ∧ firstE c k = 0) (fun i _ => n - (intOf i).toNat)
 case atStart => exact ⟨Below.refl _ _, 0, by omega, rfl, rfl⟩
 case round =>
  obtain ⟨bb, k, hk, rfl, hz⟩ := hrel
  by_cases hkn : k < n
  ·obtain ⟨b, off, rfl, h0, h1, h2, h3, h4, h5⟩ := h.out.below bb k hkn
   go_wp2_with fail
   go_fit (HC.out k _ hkn)
   rintro e w1 ⟨rfl, b1⟩
   replace bb := Below.after bb b1
   clear b1 h0 h1 h2 h3 h4 h5
   by_cases hc : c k = 0
   ·have hs : firstE c (k + 1) = 0 := by unfold firstE; rw [if_pos hz, hc]
    replace hs := shut hs
    replace hz := shut hz
    rw [hc]
    go_wp2
    exact ⟨⟨bb, k + 1, by omega, by go_num, hs.out⟩, by simp [intOf]; omega⟩
   ·have hs := firstE_stop hz hc n hkn
    replace hs := shut hs
    replace hz := shut hz
    go_wp2
    go_ret
    exact ⟨by rw [hs.out]; rfl, bb⟩
  ·obtain rfl : k = n := by omega
   replace hz := shut hz
   go_wp2
   go_ret
   exact ⟨by rw [hz.out]; rfl, bb⟩
theorem rdp_2 {w : World} {B : Nat} {t : TypeId} {n0 n1 n2 n3 : Bool} {s0 d0 s1 d1 s2 d2 s3 d3 : ByteArray} (h : Cel w B [.bool n0, .string s0, .string d0, .bool n1, .string s1, .string d1, .bool n2, .string s2, .string d2, .bool n3, .string s3, .string d3] t) : RdP w (some ⟨B, 0, none⟩) 2 (f2 n0 n2) (f2 s0 s2) (f2 d0 d2) (f2 n1 n3) (f2 s1 s3) (f2 d1 d3) := by
 intro j hj
 refine ⟨B, 0, rfl, ?_⟩
 match j, hj with
 | 0, _ => exact ⟨h.cell 0, h.cell 1, h.cell 2, h.cell 3, h.cell 4, h.cell 5⟩
 | 1, _ => exact ⟨h.cell 6, h.cell 7, h.cell 8, h.cell 9, h.cell 10, h.cell 11⟩
theorem rpoints2 (B : Nat) (n0 n1 n2 n3 : Bool) (s0 d0 s1 d1 s2 d2 s3 d3 : ByteArray) (w : World) (h : Cel w B [.bool n0, .string s0, .string d0, .bool n1, .string s1, .string d1, .bool n2, .string s2, .string d2, .bool n3, .string s3, .string d3] 28) (z0 : s0.size ≤ 80 ∧ d0.size ≤ 80) (z1 : s1.size ≤ 80 ∧ d1.size ≤ 80) (z2 : s2.size ≤ 80 ∧ d2.size ≤ 80) (z3 : s3.size ≤ 80 ∧ d3.size ≤ 80) :
  Calls Tryz.prog 11 #[.slice (some ⟨B, 0, none⟩) 2 2] w fun e w' => e = .returned (.int .i64 (two (twoq n0 s0 d0 n1 s1 d1) (twoq n2 s2 d2 n3 s3 d3) : Nat)) ∧ Below w.heap.size w w' := by
 refine rpoints_walk (some ⟨B, 0, none⟩) 2 2 _ _ _ _ _ _ (f2 (twoq n0 s0 d0 n1 s1 d1) (twoq n2 s2 d2 n3 s3 d3)) w (by omega) (rdp_2 h) (fun j w1 hj => ?_)
 match j, hj with
 | 0, _ => exact rchk4_any n0 n1 s0 d0 s1 d1 w1 (by omega) (by omega) (by omega) (by omega)
 | 1, _ => exact rchk4_any n2 n3 s2 d2 s3 d3 w1 (by omega) (by omega) (by omega) (by omega)
theorem rdp_3 {w : World} {B : Nat} {t : TypeId} {n0 n1 n2 n3 n4 n5 : Bool} {s0 d0 s1 d1 s2 d2 s3 d3 s4 d4 s5 d5 : ByteArray} (h : Cel w B [.bool n0, .string s0, .string d0, .bool n1, .string s1, .string d1, .bool n2, .string s2, .string d2, .bool n3, .string s3, .string d3, .bool n4, .string s4, .string d4, .bool n5, .string s5, .string d5] t) : RdP w (some ⟨B, 0, none⟩) 3 (f4 n0 n2 n4 n4) (f4 s0 s2 s4 s4) (f4 d0 d2 d4 d4) (f4 n1 n3 n5 n5) (f4 s1 s3 s5 s5) (f4 d1 d3 d5 d5) := by
 intro j hj
 refine ⟨B, 0, rfl, ?_⟩
 match j, hj with
 | 0, _ => exact ⟨h.cell 0, h.cell 1, h.cell 2, h.cell 3, h.cell 4, h.cell 5⟩
 | 1, _ => exact ⟨h.cell 6, h.cell 7, h.cell 8, h.cell 9, h.cell 10, h.cell 11⟩
 | 2, _ => exact ⟨h.cell 12, h.cell 13, h.cell 14, h.cell 15, h.cell 16, h.cell 17⟩
theorem rpoints3 (B : Nat) (n0 n1 n2 n3 n4 n5 : Bool) (s0 d0 s1 d1 s2 d2 s3 d3 s4 d4 s5 d5 : ByteArray) (w : World) (h : Cel w B [.bool n0, .string s0, .string d0, .bool n1, .string s1, .string d1, .bool n2, .string s2, .string d2, .bool n3, .string s3, .string d3, .bool n4, .string s4, .string d4, .bool n5, .string s5, .string d5] 28) (z0 : s0.size ≤ 80 ∧ d0.size ≤ 80) (z1 : s1.size ≤ 80 ∧ d1.size ≤ 80) (z2 : s2.size ≤ 80 ∧ d2.size ≤ 80) (z3 : s3.size ≤ 80 ∧ d3.size ≤ 80) (z4 : s4.size ≤ 80 ∧ d4.size ≤ 80) (z5 : s5.size ≤ 80 ∧ d5.size ≤ 80) :
  Calls Tryz.prog 11 #[.slice (some ⟨B, 0, none⟩) 3 3] w fun e w' => e = .returned (.int .i64 (two (two (twoq n0 s0 d0 n1 s1 d1) (twoq n2 s2 d2 n3 s3 d3)) (twoq n4 s4 d4 n5 s5 d5) : Nat)) ∧ Below w.heap.size w w' := by
 refine rpoints_walk (some ⟨B, 0, none⟩) 3 3 _ _ _ _ _ _ (f4 (twoq n0 s0 d0 n1 s1 d1) (twoq n2 s2 d2 n3 s3 d3) (twoq n4 s4 d4 n5 s5 d5) 0) w (by omega) (rdp_3 h) (fun j w1 hj => ?_)
 match j, hj with
 | 0, _ => exact rchk4_any n0 n1 s0 d0 s1 d1 w1 (by omega) (by omega) (by omega) (by omega)
 | 1, _ => exact rchk4_any n2 n3 s2 d2 s3 d3 w1 (by omega) (by omega) (by omega) (by omega)
 | 2, _ => exact rchk4_any n4 n5 s4 d4 s5 d5 w1 (by omega) (by omega) (by omega) (by omega)
end Go.Proofs.YtlpafjbbeljbhaaGreatDoor
namespace Go.Proofs.YtlpafjbbeljbhaaGreatDoor
open Go.RowKit Go.Shelf

theorem vd_cast (a b : Nat) {k j : Nat} (ha : Bd (a : Int) k) (hb : Bd (b : Int) j) : Bd ((a * b : Nat) : Int) (k + j) := by
 rw [Int.natCast_mul]
 exact ha.mul hb
theorem vq_mk {z : Int} {m k : Nat} (hm : 0 < m) (hz : Bd z k) (hd : Bd (m : Int) k) : Bq (mkRat z m) k := by
 refine ⟨?_, ?_⟩
 ·rw [Q.num_mk hm]
  refine hz.div _ ?_
  rw [← Int.dvd_natAbs, Int.ofNat_dvd]
  exact Nat.gcd_dvd_left _ _
 ·rw [Q.den_mk hm]
  exact hd.nat (Nat.div_le_self _ _)
theorem vq_add {a b : Rat} {k : Nat} (ha : Bq a k) (hb : Bq b k) : Bq (a + b) (k + k + 1) := by
 rw [Rat.add_def']
 exact vq_mk (Nat.mul_pos a.den_pos b.den_pos) ((ha.1.mul hb.2).add (hb.1.mul ha.2)) ((vd_cast _ _ ha.2 hb.2).mono (by omega))
theorem vq_neg {a : Rat} {k : Nat} (ha : Bq a k) : Bq (-a) k := ⟨by rw [Rat.neg_num]; exact ha.1.neg, ha.2⟩
theorem vq_sub {a b : Rat} {k : Nat} (ha : Bq a k) (hb : Bq b k) : Bq (a - b) (k + k + 1) := by
 rw [Rat.sub_eq_add_neg]
 exact vq_add ha (vq_neg hb)
theorem vq_mul {a b : Rat} {k : Nat} (ha : Bq a k) (hb : Bq b k) : Bq (a * b) (k + k + 1) := by
 rw [Rat.mul_def']
 exact vq_mk (Nat.mul_pos a.den_pos b.den_pos) ((ha.1.mul hb.1).mono (by omega)) ((vd_cast _ _ ha.2 hb.2).mono (by omega))
theorem rtimesI (x y : Rat) {K : Nat} (hK : K ≤ 4000) (bx : Bq x K) (bY : Bq y K) (w : World) :
  Calls Tryz.prog 37 #[.agg #[.bool (nfZ (x).num), .string (sfZ (x).num), .string (strOf (x).den)], .agg #[.bool (nfZ (y).num), .string (sfZ (y).num), .string (strOf (y).den)]] w fun e w' => e = .returned (.agg #[.bool (nfZ (x * y).num), .string (sfZ (x * y).num), .string (strOf (x * y).den)]) ∧ Below w.heap.size w w' := by
 have zx := bx.2.size
 have zy := bY.2.size
 have := rtimesq_any (nfZ x.num) (nfZ y.num) (sfZ x.num) (strOf x.den) (sfZ y.num) (strOf y.den) w (okQ_qI x) (okQ_qI y) hK bx.1.size (by simpa using zx) bY.1.size (by simpa using zy)
 rw [show qOf (nfZ x.num) (sfZ x.num) (strOf x.den) = x from qOf_qI x, show qOf (nfZ y.num) (sfZ y.num) (strOf y.den) = y from qOf_qI y] at this
 exact this
theorem rsumI (x y : Rat) {K : Nat} (hK : K ≤ 4000) (bx : Bq x K) (bY : Bq y K) (w : World) :
  Calls Tryz.prog 35 #[.agg #[.bool (nfZ (x).num), .string (sfZ (x).num), .string (strOf (x).den)], .agg #[.bool (nfZ (y).num), .string (sfZ (y).num), .string (strOf (y).den)]] w fun e w' => e = .returned (.agg #[.bool (nfZ (x + y).num), .string (sfZ (x + y).num), .string (strOf (x + y).den)]) ∧ Below w.heap.size w w' := by
 have zx := bx.2.size
 have zy := bY.2.size
 have := rsumq_any (nfZ x.num) (nfZ y.num) (sfZ x.num) (strOf x.den) (sfZ y.num) (strOf y.den) w (okQ_qI x) (okQ_qI y) hK bx.1.size (by simpa using zx) bY.1.size (by simpa using zy)
 rw [show qOf (nfZ x.num) (sfZ x.num) (strOf x.den) = x from qOf_qI x, show qOf (nfZ y.num) (sfZ y.num) (strOf y.den) = y from qOf_qI y] at this
 exact this
theorem rlessI (x y : Rat) {K : Nat} (hK : K ≤ 4000) (bx : Bq x K) (bY : Bq y K) (w : World) :
  Calls Tryz.prog 48 #[.agg #[.bool (nfZ (x).num), .string (sfZ (x).num), .string (strOf (x).den)], .agg #[.bool (nfZ (y).num), .string (sfZ (y).num), .string (strOf (y).den)]] w fun e w' => e = .returned (.agg #[.bool (nfZ (x - y).num), .string (sfZ (x - y).num), .string (strOf (x - y).den)]) ∧ Below w.heap.size w w' := by
 have zx := bx.2.size
 have zy := bY.2.size
 have := rlessq_any (nfZ x.num) (nfZ y.num) (sfZ x.num) (strOf x.den) (sfZ y.num) (strOf y.den) w (okQ_qI x) (okQ_qI y) hK bx.1.size (by simpa using zx) bY.1.size (by simpa using zy)
 rw [show qOf (nfZ x.num) (sfZ x.num) (strOf x.den) = x from qOf_qI x, show qOf (nfZ y.num) (sfZ y.num) (strOf y.den) = y from qOf_qI y] at this
 exact this
theorem okq_eq {n : Bool} {s d : ByteArray} (o : OkQ n s d) : Value.agg #[.bool n, .string s, .string d] = .agg #[.bool (nfZ (qOf n s d).num), .string (sfZ (qOf n s d).num), .string (strOf (qOf n s d).den)] := by
 obtain ⟨a, b, c⟩ := okq_nz o
 rw [a, b, c]
end Go.Proofs.YtlpafjbbeljbhaaGreatDoor
