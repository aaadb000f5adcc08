/-
  gussetref04: Check, Scale; gussetlaw04: VecScales, walked.
  gussetlaw04: VecScales, of any point and number.
  Rational numbers in their one form: how long sums and products get; the reference's calls over them.
  gussetref05: Asked; signs and products of rational numbers in their one form.
  gussetref05: Orient, Disc, Circle of rational numbers.
  Points and numbers in their one form: vec, rat.Div; gussetref04's Scale and Plus, gussetref03's Over.
  Package geom: On and Within of any points of at most 100 bytes; the same of gussetref05.
  gussetref05: Crossing, walked.
  Package geom: Orient, Disc, Circle, Meet of any points of at most 100 bytes.
  gussetlaw05: live.
  gussetlaw05: GeomMeets holds of any points.
-/
import Derived.Test.YtmojdkjpcjfkeaaGreatDoorG46
import Derived.Test.YtmojdkjpcjfkeaaGreatDoorG48
import Derived.Test.YtmojdkjpcjfkeaaGreatDoorG52
import Derived.Test.YtmojdkjpcjfkeaaGreatDoorG53
set_option maxRecDepth 100000
set_option maxHeartbeats 16000000
namespace Go.Proofs.YtmojdkjpcjfkeaaGreatDoor
open Go.RowKit Go.Shelf
theorem rchk4_walk (n0 n1 : Bool) (s0 d0 s1 d1 : ByteArray) (E : Int) (w : World)
  (H1 : Hid (∀ w1, Calls Tryz.prog 95 #[.agg #[.bool n0, .string s0, .string d0], .agg #[.bool n1, .string s1, .string d1]] w1 (Re w1 (.int .i64 E)))) :
  Calls Tryz.prog 48 #[.agg #[.bool n0, .string s0, .string d0, .bool n1, .string s1, .string d1]] w (Re w (.int .i64 E)) := by
 go_enter Tryz.func48, Tryz.ntmps48
 go_wp2_with fail
 go_fit (H1.out _)
 rintro e w1 ⟨rfl, b1⟩
 obtain ⟨ka, b1⟩ := al1 b1
 have sz := b1.size
 have bb := b1
 clear b1
 have ta := ka.lt
 go_wp2
 go_ret
 exact ⟨rfl, bb⟩
theorem rscale_walk (n0 n1 n2 xN yN : Bool) (s0 d0 s1 d1 s2 d2 xS xD yS yD : ByteArray) (w : World)
  (H1 : Hid (∀ w1, Calls Tryz.prog 70 #[.agg #[.bool n0, .string s0, .string d0], .agg #[.bool n2, .string s2, .string d2]] w1 (Re w1 (.agg #[.bool xN, .string xS, .string xD]))))
  (H2 : Hid (∀ w1, Calls Tryz.prog 70 #[.agg #[.bool n1, .string s1, .string d1], .agg #[.bool n2, .string s2, .string d2]] w1 (Re w1 (.agg #[.bool yN, .string yS, .string yD])))) :
  Calls Tryz.prog 29 #[.agg #[.bool n0, .string s0, .string d0, .bool n1, .string s1, .string d1], .agg #[.bool n2, .string s2, .string d2]] w (Re w (.agg #[.bool xN, .string xS, .string xD, .bool yN, .string yS, .string yD])) := by
 go_enter Tryz.func29, Tryz.ntmps29
 go_wp2_with fail
 obtain ⟨w1, hw, ka, kk, kr, b1⟩ := mk3 w [.bool n0, .string s0, .string d0, .bool n1, .string s1, .string d1] [.bool n2, .string s2, .string d2] [.bool false, .string { data := #[] }, .string { data := #[] }, .bool false, .string { data := #[] }, .string { data := #[] }] 28 26 28
 rw [← hw]
 clear hw
 have sz := b1.size
 have ta := ka.lt
 have tk := kk.lt
 have tr := kr.lt
 have bb := b1
 clear b1
 have qa : w.heap.size ≠ w.heap.size + 1 + 1 := by omega
 have qk : w.heap.size + 1 ≠ w.heap.size + 1 + 1 := by omega
 have mkS : Hid (∀ w', Cel w' (w.heap.size) [.bool n0, .string s0, .string d0, .bool n1, .string s1, .string d1] 28 → Cel w' (w.heap.size + 1) [.bool n2, .string s2, .string d2] 26 → (xc6 w' w.heap.size (.bool n0) (.string s0) (.string d0) (.bool n1) (.string s1) (.string d1) ∧ xc3 w' (w.heap.size + 1) (.bool n2) (.string s2) (.string d2))) := fun w' ha hk => ⟨xk6 ha, xk3 hk⟩
 go_region_held3 (fun w' => xc6 w' w.heap.size (.bool n0) (.string s0) (.string d0) (.bool n1) (.string s1) (.string d1) ∧ xc3 w' (w.heap.size + 1) (.bool n2) (.string s2) (.string d2)) (first | with_reducible exact mkS.out _ ka kk | with_reducible exact mkS.out _ (ka.alloc _) (kk.alloc _) | with_reducible exact mkS.out _ (Cel.other (Cel.other (Cel.other (Cel.other (Cel.other (Cel.other ka qa 0 _) qa 1 _) qa 2 _) qa 3 _) qa 4 _) qa 5 _) (Cel.other (Cel.other (Cel.other (Cel.other (Cel.other (Cel.other kk qk 0 _) qk 1 _) qk 2 _) qk 3 _) qk 4 _) qk 5 _) | exact mkS.out _ ka kk) (first | (go_at_call 70; go_fit (H1.out _); rintro e wn ⟨rfl, bn⟩; replace ka := ka.below (un bn); replace kk := kk.below (un bn); replace kr := kr.below (un bn); replace bb := Below.after bb (un bn)) | (go_at_call 70; go_fit (H2.out _); rintro e wn ⟨rfl, bn⟩; replace ka := ka.below (un bn); replace kk := kk.below (un bn); replace kr := kr.below (un bn); replace bb := Below.after bb (un bn); have e0 := cel6_0 kr; have f0 := Cel.frozen kr 0; have e1 := cel6_1 kr; have f1 := Cel.frozen kr 1; have e2 := cel6_2 kr; have f2 := Cel.frozen kr 2; have e3 := cel6_3 kr; have f3 := Cel.frozen kr 3; have e4 := cel6_4 kr; have f4 := Cel.frozen kr 4; have e5 := cel6_5 kr; have f5 := Cel.frozen kr 5))
 go_wp2
 exact post_p (p := 4) (by kernel_rfl) rfl rfl (kr.set6 _ _ _ _ _ _) ⟨rfl, bset6 bb (by omega) _ _ _ _ _ _⟩
end Go.Proofs.YtmojdkjpcjfkeaaGreatDoor
namespace Go.Proofs.YtmojdkjpcjfkeaaGreatDoor
open Go.RowKit Go.Shelf
theorem rchk4_any (n0 n1 : Bool) (s0 d0 s1 d1 : ByteArray) (w : World) (z0 : s0.size ≤ 8000) (y0 : d0.size ≤ 8000) (z1 : s1.size ≤ 8000) (y1 : d1.size ≤ 8000) :
  Calls Tryz.prog 48 #[.agg #[.bool n0, .string s0, .string d0, .bool n1, .string s1, .string d1]] w (Re w (.int .i64 (twoq n0 s0 d0 n1 s1 d1 : Nat))) :=
 rchk4_walk n0 n1 s0 d0 s1 d1 _ w (fun w1 => bothq_any n0 n1 s0 d0 s1 d1 w1 z0 y0 z1 y1)
end Go.Proofs.YtmojdkjpcjfkeaaGreatDoor
namespace Go.Proofs.YtmojdkjpcjfkeaaGreatDoor
open Go.RowKit Go.Shelf
theorem rtimesI (x y : Rat) {K : Nat} (hK : K ≤ 4000) (bx : Bq x K) (bY : Bq y K) (w : World) :
  Calls Tryz.prog 70 #[.agg #[.bool (nfZ (x).num), .string (sfZ (x).num), .string (strOf (x).den)], .agg #[.bool (nfZ (y).num), .string (sfZ (y).num), .string (strOf (y).den)]] w (Re w (.agg #[.bool (nfZ (x * y).num), .string (sfZ (x * y).num), .string (strOf (x * y).den)])) := by
 have zx := bx.2.size
 have zy := bY.2.size
 have := rtimesq_any (nfZ x.num) (nfZ y.num) (sfZ x.num) (strOf x.den) (sfZ y.num) (strOf y.den) w (okQ_qI x) (okQ_qI y) hK bx.1.size (by simpa using zx) bY.1.size (by simpa using zy)
 rw [show qOf (nfZ x.num) (sfZ x.num) (strOf x.den) = x from qOf_qI x, show qOf (nfZ y.num) (sfZ y.num) (strOf y.den) = y from qOf_qI y] at this
 exact this
theorem rsumI (x y : Rat) {K : Nat} (hK : K ≤ 4000) (bx : Bq x K) (bY : Bq y K) (w : World) :
  Calls Tryz.prog 35 #[.agg #[.bool (nfZ (x).num), .string (sfZ (x).num), .string (strOf (x).den)], .agg #[.bool (nfZ (y).num), .string (sfZ (y).num), .string (strOf (y).den)]] w (Re w (.agg #[.bool (nfZ (x + y).num), .string (sfZ (x + y).num), .string (strOf (x + y).den)])) := by
 have zx := bx.2.size
 have zy := bY.2.size
 have := rsumq_any (nfZ x.num) (nfZ y.num) (sfZ x.num) (strOf x.den) (sfZ y.num) (strOf y.den) w (okQ_qI x) (okQ_qI y) hK bx.1.size (by simpa using zx) bY.1.size (by simpa using zy)
 rw [show qOf (nfZ x.num) (sfZ x.num) (strOf x.den) = x from qOf_qI x, show qOf (nfZ y.num) (sfZ y.num) (strOf y.den) = y from qOf_qI y] at this
 exact this
theorem rlessI (x y : Rat) {K : Nat} (hK : K ≤ 4000) (bx : Bq x K) (bY : Bq y K) (w : World) :
  Calls Tryz.prog 74 #[.agg #[.bool (nfZ (x).num), .string (sfZ (x).num), .string (strOf (x).den)], .agg #[.bool (nfZ (y).num), .string (sfZ (y).num), .string (strOf (y).den)]] w (Re w (.agg #[.bool (nfZ (x - y).num), .string (sfZ (x - y).num), .string (strOf (x - y).den)])) := by
 have zx := bx.2.size
 have zy := bY.2.size
 have := rlessq_any (nfZ x.num) (nfZ y.num) (sfZ x.num) (strOf x.den) (sfZ y.num) (strOf y.den) w (okQ_qI x) (okQ_qI y) hK bx.1.size (by simpa using zx) bY.1.size (by simpa using zy)
 rw [show qOf (nfZ x.num) (sfZ x.num) (strOf x.den) = x from qOf_qI x, show qOf (nfZ y.num) (sfZ y.num) (strOf y.den) = y from qOf_qI y] at this
 exact this
open Go.RowKit
theorem rlong_no (n : Bool) (s d : ByteArray) (w : World) (z : s.size ≤ 100 ∧ d.size ≤ 100) :
  Calls Tryz.prog 47 #[.agg #[.bool n, .string s, .string d]] w (Re w (.bool false)) := by
 have i0 : ¬ (100 : Int) < s.size := by omega
 have i1 : ¬ (100 : Int) < d.size := by omega
 go_enter Tryz.func47, Tryz.ntmps47
 go_wp2
 go_ret
 exact ⟨rfl, bel_al _ _⟩
theorem asked_walk (a : Option Addr) (n cap : Nat) (N N' : Nat → Bool) (S D S' D' : Nat → ByteArray) (c : Nat → Nat) (w : World) (hn : n ≤ 1000000) (h : RdPt w a n N S D N' S' D')
  (HZ : Hid (∀ k, k < n → (S k).size ≤ 100 ∧ (D k).size ≤ 100 ∧ (S' k).size ≤ 100 ∧ (D' k).size ≤ 100))
  (HC : Hid (∀ (k : Nat) (w1 : World), k < n → Calls Tryz.prog 48 #[.agg #[.bool (N k), .string (S k), .string (D k), .bool (N' k), .string (S' k), .string (D' k)]] w1 (Re w1 (.int .i64 (c k : Nat))))) :
  Calls Tryz.prog 13 #[.slice a n cap] w (Re w (.int .i64 (firstE c n : Nat))) := by
 replace h := shut h
 go_enter Tryz.func13, Tryz.ntmps13
 go_wp2
 go_loopw [3] (fun i wr => Below w.heap.size w wr ∧ ∃ k : Nat, k ≤ n ∧ i = .int .i64 k ∧ firstE c k = 0) (fun i _ => n - (intOf i).toNat)
 case atStart => exact ⟨Below.refl _ _, 0, by omega, rfl, rfl⟩
 case round =>
  obtain ⟨bb, k, hk, rfl, hz⟩ := hrel
  by_cases hkn : k < n
  ·obtain ⟨b, off, rfl, h0, h1, h2, h3, h4, h5⟩ := h.out.below bb k hkn
   go_wp2_with fail
   go_fit (rlong_no _ _ _ _ ⟨(HZ.out k hkn).1, (HZ.out k hkn).2.1⟩)
   rintro e w1 ⟨rfl, b1⟩
   replace bb := Below.after bb b1
   replace h0 := cell_below h0 b1
   replace h1 := cell_below h1 b1
   replace h2 := cell_below h2 b1
   replace h3 := cell_below h3 b1
   replace h4 := cell_below h4 b1
   replace h5 := cell_below h5 b1
   clear b1
   go_wp2_with fail
   go_fit (rlong_no _ _ _ _ ⟨(HZ.out k hkn).2.2.1, (HZ.out k hkn).2.2.2⟩)
   rintro e w2 ⟨rfl, b1⟩
   replace bb := Below.after bb b1
   replace h0 := cell_below h0 b1
   replace h1 := cell_below h1 b1
   replace h2 := cell_below h2 b1
   replace h3 := cell_below h3 b1
   replace h4 := cell_below h4 b1
   replace h5 := cell_below h5 b1
   clear b1
   go_wp2_with fail
   go_fit (HC.out k _ hkn)
   rintro e w3 ⟨rfl, b1⟩
   replace bb := Below.after bb b1
   clear b1 h0 h1 h2 h3 h4 h5
   by_cases hc : c k = 0
   ·have hs : firstE c (k + 1) = 0 := by unfold firstE; rw [if_pos hz, hc]
    replace hs := shut hs
    replace hz := shut hz
    rw [hc]
    go_wp2
    exact ⟨⟨bb, k + 1, by omega, by go_num, hs.out⟩, by simp [intOf]; omega⟩
   ·have hs := firstE_stop hz hc n hkn
    replace hs := shut hs
    replace hz := shut hz
    go_wp2
    go_ret
    exact ⟨by rw [hs.out]; rfl, bb⟩
  ·obtain rfl : k = n := by omega
   replace hz := shut hz
   go_wp2
   go_ret
   exact ⟨by rw [hz.out]; rfl, bb⟩
theorem asked4 (B : Nat) (n0 n1 n2 n3 n4 n5 n6 n7 : Bool) (s0 d0 s1 d1 s2 d2 s3 d3 s4 d4 s5 d5 s6 d6 s7 d7 : ByteArray) (w : World) (h : Cel w B [.bool n0, .string s0, .string d0, .bool n1, .string s1, .string d1, .bool n2, .string s2, .string d2, .bool n3, .string s3, .string d3, .bool n4, .string s4, .string d4, .bool n5, .string s5, .string d5, .bool n6, .string s6, .string d6, .bool n7, .string s7, .string d7] 28) (z0 : s0.size ≤ 100 ∧ d0.size ≤ 100) (z1 : s1.size ≤ 100 ∧ d1.size ≤ 100) (z2 : s2.size ≤ 100 ∧ d2.size ≤ 100) (z3 : s3.size ≤ 100 ∧ d3.size ≤ 100) (z4 : s4.size ≤ 100 ∧ d4.size ≤ 100) (z5 : s5.size ≤ 100 ∧ d5.size ≤ 100) (z6 : s6.size ≤ 100 ∧ d6.size ≤ 100) (z7 : s7.size ≤ 100 ∧ d7.size ≤ 100) :
  Calls Tryz.prog 13 #[.slice (some ⟨B, 0, none⟩) 4 4] w (Re w (.int .i64 (two (two (two (twoq n0 s0 d0 n1 s1 d1) (twoq n2 s2 d2 n3 s3 d3)) (twoq n4 s4 d4 n5 s5 d5)) (twoq n6 s6 d6 n7 s7 d7) : Nat))) := by
 refine asked_walk (some ⟨B, 0, none⟩) 4 4 _ _ _ _ _ _ (f4 (twoq n0 s0 d0 n1 s1 d1) (twoq n2 s2 d2 n3 s3 d3) (twoq n4 s4 d4 n5 s5 d5) (twoq n6 s6 d6 n7 s7 d7)) w (by omega) (rdpt_4 h) (fun j hj => ?_) (fun j w1 hj => ?_)
 ·match j, hj with
  | 0, _ => exact ⟨z0.1, z0.2, z1.1, z1.2⟩
  | 1, _ => exact ⟨z2.1, z2.2, z3.1, z3.2⟩
  | 2, _ => exact ⟨z4.1, z4.2, z5.1, z5.2⟩
  | 3, _ => exact ⟨z6.1, z6.2, z7.1, z7.2⟩
 ·match j, hj with
  | 0, _ => exact rchk4_any n0 n1 s0 d0 s1 d1 w1 (by omega) (by omega) (by omega) (by omega)
  | 1, _ => exact rchk4_any n2 n3 s2 d2 s3 d3 w1 (by omega) (by omega) (by omega) (by omega)
  | 2, _ => exact rchk4_any n4 n5 s4 d4 s5 d5 w1 (by omega) (by omega) (by omega) (by omega)
  | 3, _ => exact rchk4_any n6 n7 s6 d6 s7 d7 w1 (by omega) (by omega) (by omega) (by omega)
theorem rsignI (x : Rat) (w : World) : Calls Tryz.prog 50 #[.agg #[.bool (nfZ (x).num), .string (sfZ (x).num), .string (strOf (x).den)]] w (Re w (.int .i64 (Gm.sg x))) := by
 rcases Gm.sg_cases x with ⟨h, e⟩ | ⟨h, e⟩ | ⟨h, e⟩
 ·rw [e, h]
  exact rsign_zero _ w
 ·rw [e]
  have hp := Gm.num_pos h
  have h1 : nfZ x.num = false := by unfold nfZ; exact decide_eq_false (by omega)
  have h2 : (sfZ x.num).toList.isEmpty = false := by
   unfold sfZ
   rw [strOf_empty]
   exact decide_eq_false (by omega)
  rw [h1]
  exact rsign_pos _ _ h2 w
 ·rw [e]
  have hp := Gm.num_pos (q := -x) (by grind)
  rw [Rat.neg_num] at hp
  have h1 : nfZ x.num = true := by unfold nfZ; exact decide_eq_true (by omega)
  rw [h1]
  exact rsign_neg _ _ w
theorem rminusP (x y x' y' : Rat) {K : Nat} (hK : K ≤ 4000) (b0 : Bq x K) (b1 : Bq y K) (b2 : Bq x' K) (b3 : Bq y' K) (w : World) : Calls Tryz.prog 30 #[.agg #[.bool (nfZ (x).num), .string (sfZ (x).num), .string (strOf (x).den), .bool (nfZ (y).num), .string (sfZ (y).num), .string (strOf (y).den)], .agg #[.bool (nfZ (x').num), .string (sfZ (x').num), .string (strOf (x').den), .bool (nfZ (y').num), .string (sfZ (y').num), .string (strOf (y').den)]] w (Re w (.agg #[.bool (nfZ (x - x').num), .string (sfZ (x - x').num), .string (strOf (x - x').den), .bool (nfZ (y - y').num), .string (sfZ (y - y').num), .string (strOf (y - y').den)])) :=
 rminus4_walk _ _ _ _ _ _ _ _ _ _ _ _ _ _ _ _ _ _ w (fun w1 => rlessI x x' hK b0 b2 w1) (fun w1 => rlessI y y' hK b1 b3 w1)
theorem rcrossP (x y x' y' : Rat) {K : Nat} (hK : K + K + 1 ≤ 4000) (b0 : Bq x K) (b1 : Bq y K) (b2 : Bq x' K) (b3 : Bq y' K) (w : World) : Calls Tryz.prog 49 #[.agg #[.bool (nfZ (x).num), .string (sfZ (x).num), .string (strOf (x).den), .bool (nfZ (y).num), .string (sfZ (y).num), .string (strOf (y).den)], .agg #[.bool (nfZ (x').num), .string (sfZ (x').num), .string (strOf (x').den), .bool (nfZ (y').num), .string (sfZ (y').num), .string (strOf (y').den)]] w (Re w (.agg #[.bool (nfZ (x * y' - y * x').num), .string (sfZ (x * y' - y * x').num), .string (strOf (x * y' - y * x').den)])) :=
 rcross4_walk _ _ _ _ _ _ _ _ _ _ _ _ _ _ _ _ _ _ _ _ _ w (fun w1 => rtimesI x y' (K := K) (by omega) b0 b3 w1) (fun w1 => rtimesI y x' (K := K) (by omega) b1 b2 w1) (fun w1 => rlessI (x * y') (y * x') hK (vq_mul b0 b3) (vq_mul b1 b2) w1)
theorem rdotP (x y x' y' : Rat) {K : Nat} (hK : K + K + 1 ≤ 4000) (b0 : Bq x K) (b1 : Bq y K) (b2 : Bq x' K) (b3 : Bq y' K) (w : World) : Calls Tryz.prog 66 #[.agg #[.bool (nfZ (x).num), .string (sfZ (x).num), .string (strOf (x).den), .bool (nfZ (y).num), .string (sfZ (y).num), .string (strOf (y).den)], .agg #[.bool (nfZ (x').num), .string (sfZ (x').num), .string (strOf (x').den), .bool (nfZ (y').num), .string (sfZ (y').num), .string (strOf (y').den)]] w (Re w (.agg #[.bool (nfZ (x * x' + y * y').num), .string (sfZ (x * x' + y * y').num), .string (strOf (x * x' + y * y').den)])) :=
 rdot4_walk _ _ _ _ _ _ _ _ _ _ _ _ _ _ _ _ _ _ _ _ _ w (fun w1 => rtimesI x x' (K := K) (by omega) b0 b2 w1) (fun w1 => rtimesI y y' (K := K) (by omega) b1 b3 w1) (fun w1 => rsumI (x * x') (y * y') hK (vq_mul b0 b2) (vq_mul b1 b3) w1)
open Go.RowKit
theorem rorientI (x0 y0 x1 y1 x2 y2 : Rat) {K : Nat} (hK : K ≤ 100) (b0 : Bq x0 K) (e0 : Bq y0 K) (b1 : Bq x1 K) (e1 : Bq y1 K) (b2 : Bq x2 K) (e2 : Bq y2 K) (w : World) : Calls Tryz.prog 26 #[.agg #[.bool (nfZ (x0).num), .string (sfZ (x0).num), .string (strOf (x0).den), .bool (nfZ (y0).num), .string (sfZ (y0).num), .string (strOf (y0).den)], .agg #[.bool (nfZ (x1).num), .string (sfZ (x1).num), .string (strOf (x1).den), .bool (nfZ (y1).num), .string (sfZ (y1).num), .string (strOf (y1).den)], .agg #[.bool (nfZ (x2).num), .string (sfZ (x2).num), .string (strOf (x2).den), .bool (nfZ (y2).num), .string (sfZ (y2).num), .string (strOf (y2).den)]] w (Re w (.int .i64 (Gm.sg (Gm.cr x0 y0 x1 y1 x2 y2)))) :=
 rorient_walk _ _ _ _ _ _ _ _ _ _ _ _ _ _ _ _ _ _ _ _ _ _ _ _ _ _ _ _ _ _ _ _ _ _ w (fun w1 => rminusP x1 y1 x0 y0 (K := K) (by omega) b1 e1 b0 e0 w1) (fun w1 => rminusP x2 y2 x0 y0 (K := K) (by omega) b2 e2 b0 e0 w1) (fun w1 => rcrossP (x1 - x0) (y1 - y0) (x2 - x0) (y2 - y0) (K := (K + K + 1)) (by omega) (vq_sub b1 b0) (vq_sub e1 e0) (vq_sub b2 b0) (vq_sub e2 e0) w1) (fun w1 => rsignI _ w1)
theorem sg_wneg (r : Rat) : IntKind.i64.wrap (-(Gm.sg r)) = -(Gm.sg r) := by
 rw [IntKind.wrap_i64]
 rcases sg_small r with h | h | h <;> rw [h] <;> rfl
theorem rdiscI (x0 y0 x1 y1 x2 y2 : Rat) {K : Nat} (hK : K ≤ 100) (b0 : Bq x0 K) (e0 : Bq y0 K) (b1 : Bq x1 K) (e1 : Bq y1 K) (b2 : Bq x2 K) (e2 : Bq y2 K) (w : World) : Calls Tryz.prog 96 #[.agg #[.bool (nfZ (x0).num), .string (sfZ (x0).num), .string (strOf (x0).den), .bool (nfZ (y0).num), .string (sfZ (y0).num), .string (strOf (y0).den)], .agg #[.bool (nfZ (x1).num), .string (sfZ (x1).num), .string (strOf (x1).den), .bool (nfZ (y1).num), .string (sfZ (y1).num), .string (strOf (y1).den)], .agg #[.bool (nfZ (x2).num), .string (sfZ (x2).num), .string (strOf (x2).den), .bool (nfZ (y2).num), .string (sfZ (y2).num), .string (strOf (y2).den)]] w (Re w (.int .i64 (-(Gm.sg (Gm.dt x0 y0 x1 y1 x2 y2))))) :=
 rdisc_walk _ _ _ _ _ _ _ _ _ _ _ _ _ _ _ _ _ _ _ _ _ _ _ _ _ _ _ _ _ _ _ _ _ _ w (sg_wneg _) (fun w1 => rminusP x0 y0 x2 y2 (K := K) (by omega) b0 e0 b2 e2 w1) (fun w1 => rminusP x1 y1 x2 y2 (K := K) (by omega) b1 e1 b2 e2 w1) (fun w1 => rdotP (x0 - x2) (y0 - y2) (x1 - x2) (y1 - y2) (K := (K + K + 1)) (by omega) (vq_sub b0 b2) (vq_sub e0 e2) (vq_sub b1 b2) (vq_sub e1 e2) w1) (fun w1 => rsignI _ w1)
theorem okq_form {n : Bool} {s d : ByteArray} (o : OkQ n s d) : ∃ x : Rat, n = nfZ x.num ∧ s = sfZ x.num ∧ d = strOf x.den := by
 have h : nfZ (qOf n s d).num = n ∧ sfZ (qOf n s d).num = s ∧ strOf (qOf n s d).den = d := o.parts
 exact ⟨qOf n s d, h.1.symm, h.2.1.symm, h.2.2.symm⟩
theorem qOf_one (x : Rat) : qOf (nfZ x.num) (sfZ x.num) (strOf x.den) = x := qOf_qI x
open Go.RowKit
theorem vq_inv {a : Rat} {k : Nat} (ha : Bq a k) : Bq a⁻¹ k := by
 show Bq (Rat.inv a) k
 unfold Rat.inv
 split
 ·exact ⟨by show (-(a.den : Int)).natAbs < _; rw [Int.natAbs_neg]; exact ha.2, by show ((a.num.natAbs : Nat) : Int).natAbs < _; rw [Int.natAbs_natCast]; exact ha.1⟩
 ·split
  ·exact ⟨ha.2, by show ((a.num.natAbs : Nat) : Int).natAbs < _; rw [Int.natAbs_natCast]; exact ha.1⟩
  ·exact ha
theorem vq_div {a b : Rat} {k : Nat} (ha : Bq a k) (hb : Bq b k) : Bq (a / b) (k + k + 1) := by
 rw [Rat.div_def]
 exact vq_mul ha (vq_inv hb)
theorem bq_sz {x : Rat} {K M : Nat} (hK : K ≤ M) (b : Bq x K) : (sfZ x.num).size ≤ M ∧ (strOf x.den).size ≤ M := by
 have h1 : (sfZ x.num).size ≤ K := b.1.size
 have h2 := b.2.size
 simp at h2
 omega
theorem chk_can8 (x : Rat) {K : Nat} (hK : K ≤ 4000) (b : Bq x K) : chkq (nfZ x.num) (sfZ x.num) (strOf x.den) = 0 :=
 chkq_ok (okQ_qI x) (by have := (bq_sz (M := 4000) hK b).1; omega) (by have := (bq_sz (M := 4000) hK b).2; omega)
theorem nat_pos {x : Rat} (h : ¬ x = 0) : 0 < natOf (sfZ x.num) := by
 have e : natOf (sfZ x.num) = x.num.natAbs := natOf_strOf _
 have : ¬ x.num = 0 := fun q => h (Rat.num_eq_zero.1 q)
 omega
theorem nat_zero {x : Rat} (h : x = 0) : natOf (sfZ x.num) = 0 := by
 have e : natOf (sfZ x.num) = x.num.natAbs := natOf_strOf _
 rw [e, h]; rfl
theorem vplusI (x y x' y' : Rat) {K : Nat} (hK : K ≤ 4000) (b0 : Bq x K) (b1 : Bq y K) (b2 : Bq x' K) (b3 : Bq y' K) (w : World) (hT : Tab w) : Calls Tryz.prog 46 #[.agg #[.bool (nfZ (x).num), .string (sfZ (x).num), .string (strOf (x).den), .bool (nfZ (y).num), .string (sfZ (y).num), .string (strOf (y).den)], .agg #[.bool (nfZ (x').num), .string (sfZ (x').num), .string (strOf (x').den), .bool (nfZ (y').num), .string (sfZ (y').num), .string (strOf (y').den)]] w (Re w (.tuple #[.agg #[.bool (nfZ (x + x').num), .string (sfZ (x + x').num), .string (strOf (x + x').den), .bool (nfZ (y + y').num), .string (sfZ (y + y').num), .string (strOf (y + y').den)], .int .i64 0])) := by
 have := vplus_ok (nfZ (x).num) (nfZ (y).num) (nfZ (x').num) (nfZ (y').num) (sfZ (x).num) (strOf (x).den) (sfZ (y).num) (strOf (y).den) (sfZ (x').num) (strOf (x').den) (sfZ (y').num) (strOf (y').den) w hT (two_zero.2 ⟨twoq_zero.2 ⟨chk_can8 x (by omega) b0, chk_can8 y (by omega) b1⟩, twoq_zero.2 ⟨chk_can8 x' (by omega) b2, chk_can8 y' (by omega) b3⟩⟩) (bq_sz hK b0) (bq_sz hK b1) (bq_sz hK b2) (bq_sz hK b3)
 simp only [qOf_one] at this
 exact this
theorem vminusI (x y x' y' : Rat) {K : Nat} (hK : K ≤ 4000) (b0 : Bq x K) (b1 : Bq y K) (b2 : Bq x' K) (b3 : Bq y' K) (w : World) (hT : Tab w) : Calls Tryz.prog 42 #[.agg #[.bool (nfZ (x).num), .string (sfZ (x).num), .string (strOf (x).den), .bool (nfZ (y).num), .string (sfZ (y).num), .string (strOf (y).den)], .agg #[.bool (nfZ (x').num), .string (sfZ (x').num), .string (strOf (x').den), .bool (nfZ (y').num), .string (sfZ (y').num), .string (strOf (y').den)]] w (Re w (.tuple #[.agg #[.bool (nfZ (x - x').num), .string (sfZ (x - x').num), .string (strOf (x - x').den), .bool (nfZ (y - y').num), .string (sfZ (y - y').num), .string (strOf (y - y').den)], .int .i64 0])) := by
 have := vminus_ok (nfZ (x).num) (nfZ (y).num) (nfZ (x').num) (nfZ (y').num) (sfZ (x).num) (strOf (x).den) (sfZ (y).num) (strOf (y).den) (sfZ (x').num) (strOf (x').den) (sfZ (y').num) (strOf (y').den) w hT (two_zero.2 ⟨twoq_zero.2 ⟨chk_can8 x (by omega) b0, chk_can8 y (by omega) b1⟩, twoq_zero.2 ⟨chk_can8 x' (by omega) b2, chk_can8 y' (by omega) b3⟩⟩) (bq_sz hK b0) (bq_sz hK b1) (bq_sz hK b2) (bq_sz hK b3)
 simp only [qOf_one] at this
 exact this
theorem vcrossI (x y x' y' : Rat) {K : Nat} (hK : K ≤ 170) (b0 : Bq x K) (b1 : Bq y K) (b2 : Bq x' K) (b3 : Bq y' K) (w : World) (hT : Tab w) : Calls Tryz.prog 43 #[.agg #[.bool (nfZ (x).num), .string (sfZ (x).num), .string (strOf (x).den), .bool (nfZ (y).num), .string (sfZ (y).num), .string (strOf (y).den)], .agg #[.bool (nfZ (x').num), .string (sfZ (x').num), .string (strOf (x').den), .bool (nfZ (y').num), .string (sfZ (y').num), .string (strOf (y').den)]] w (Re w (.tuple #[.agg #[.bool (nfZ (x * y' - y * x').num), .string (sfZ (x * y' - y * x').num), .string (strOf (x * y' - y * x').den)], .int .i64 0])) := by
 have := vCross_ok (nfZ (x).num) (nfZ (y).num) (nfZ (x').num) (nfZ (y').num) (sfZ (x).num) (strOf (x).den) (sfZ (y).num) (strOf (y).den) (sfZ (x').num) (strOf (x').den) (sfZ (y').num) (strOf (y').den) w hT (two_zero.2 ⟨twoq_zero.2 ⟨chk_can8 x (by omega) b0, chk_can8 y (by omega) b1⟩, twoq_zero.2 ⟨chk_can8 x' (by omega) b2, chk_can8 y' (by omega) b3⟩⟩) (bq_sz hK b0) (bq_sz hK b1) (bq_sz hK b2) (bq_sz hK b3)
 simp only [qOf_one] at this
 exact this
theorem vscaleI (x y k : Rat) {K : Nat} (hK : K ≤ 4000) (b0 : Bq x K) (b1 : Bq y K) (b2 : Bq k K) (w : World) (hT : Tab w) : Calls Tryz.prog 45 #[.agg #[.bool (nfZ (x).num), .string (sfZ (x).num), .string (strOf (x).den), .bool (nfZ (y).num), .string (sfZ (y).num), .string (strOf (y).den)], .agg #[.bool (nfZ (k).num), .string (sfZ (k).num), .string (strOf (k).den)]] w (Re w (.tuple #[.agg #[.bool (nfZ (x * k).num), .string (sfZ (x * k).num), .string (strOf (x * k).den), .bool (nfZ (y * k).num), .string (sfZ (y * k).num), .string (strOf (y * k).den)], .int .i64 0])) := by
 have := vscale_ok (nfZ (x).num) (nfZ (y).num) (nfZ (k).num) (sfZ (x).num) (strOf (x).den) (sfZ (y).num) (strOf (y).den) (sfZ (k).num) (strOf (k).den) w hT (two_zero.2 ⟨twoq_zero.2 ⟨chk_can8 x hK b0, chk_can8 y hK b1⟩, twoq_zero.2 ⟨chk_can8 k hK b2, chk_can8 k hK b2⟩⟩) (bq_sz hK b0) (bq_sz hK b1) (bq_sz hK b2)
 simp only [qOf_one] at this
 exact this
theorem qdivI (x y : Rat) {K : Nat} (hK : K ≤ 4000) (b0 : Bq x K) (b1 : Bq y K) (h : ¬ y = 0) (w : World) (hT : Tab w) : Calls Tryz.prog 44 #[.agg #[.bool (nfZ (x).num), .string (sfZ (x).num), .string (strOf (x).den)], .agg #[.bool (nfZ (y).num), .string (sfZ (y).num), .string (strOf (y).den)]] w (Re w (.tuple #[.agg #[.bool (nfZ (x / y).num), .string (sfZ (x / y).num), .string (strOf (x / y).den)], .int .i64 0])) := by
 have := qdiv_ok (nfZ (x).num) (nfZ (y).num) (sfZ (x).num) (strOf (x).den) (sfZ (y).num) (strOf (y).den) w hT (twoq_zero.2 ⟨chk_can8 x hK b0, chk_can8 y hK b1⟩) hK (bq_sz (Nat.le_refl _) b0).1 (bq_sz (Nat.le_refl _) b0).2 (bq_sz (Nat.le_refl _) b1).1 (bq_sz (Nat.le_refl _) b1).2 (nat_pos h)
 simp only [qOf_one] at this
 exact this
theorem qdivI0 (x y : Rat) {K : Nat} (hK : K ≤ 4000) (b0 : Bq x K) (b1 : Bq y K) (h : y = 0) (w : World) (hT : Tab w) : Calls Tryz.prog 44 #[.agg #[.bool (nfZ (x).num), .string (sfZ (x).num), .string (strOf (x).den)], .agg #[.bool (nfZ (y).num), .string (sfZ (y).num), .string (strOf (y).den)]] w (Re w (.tuple #[.agg #[.bool false, .string { data := #[] }, .string { data := #[] }], .int .i64 3])) :=
 qdiv_zero (nfZ (x).num) (nfZ (y).num) (sfZ (x).num) (strOf (x).den) (sfZ (y).num) (strOf (y).den) w hT (twoq_zero.2 ⟨chk_can8 x hK b0, chk_can8 y hK b1⟩) (nat_zero h)
theorem roverI (x y : Rat) {K : Nat} (hK : K ≤ 4000) (b0 : Bq x K) (b1 : Bq y K) (h : ¬ y = 0) (w : World) : Calls Tryz.prog 51 #[.agg #[.bool (nfZ (x).num), .string (sfZ (x).num), .string (strOf (x).den)], .agg #[.bool (nfZ (y).num), .string (sfZ (y).num), .string (strOf (y).den)]] w (Re w (.agg #[.bool (nfZ (x / y).num), .string (sfZ (x / y).num), .string (strOf (x / y).den)])) := by
 have := roverq_any (nfZ (x).num) (nfZ (y).num) (sfZ (x).num) (strOf (x).den) (sfZ (y).num) (strOf (y).den) w (okQ_qI x) hK (bq_sz (Nat.le_refl _) b0).1 (bq_sz (Nat.le_refl _) b0).2 (bq_sz (Nat.le_refl _) b1).1 (bq_sz (Nat.le_refl _) b1).2 (nat_pos h)
 simp only [qOf_one] at this
 exact this
theorem rscaleP (x y k : Rat) {K : Nat} (hK : K ≤ 4000) (b0 : Bq x K) (b1 : Bq y K) (b2 : Bq k K) (w : World) : Calls Tryz.prog 29 #[.agg #[.bool (nfZ (x).num), .string (sfZ (x).num), .string (strOf (x).den), .bool (nfZ (y).num), .string (sfZ (y).num), .string (strOf (y).den)], .agg #[.bool (nfZ (k).num), .string (sfZ (k).num), .string (strOf (k).den)]] w (Re w (.agg #[.bool (nfZ (x * k).num), .string (sfZ (x * k).num), .string (strOf (x * k).den), .bool (nfZ (y * k).num), .string (sfZ (y * k).num), .string (strOf (y * k).den)])) :=
 rscale_walk _ _ _ _ _ _ _ _ _ _ _ _ _ _ _ w (fun w1 => rtimesI x k hK b0 b2 w1) (fun w1 => rtimesI y k hK b1 b2 w1)
theorem rplusP (x y x' y' : Rat) {K : Nat} (hK : K ≤ 4000) (b0 : Bq x K) (b1 : Bq y K) (b2 : Bq x' K) (b3 : Bq y' K) (w : World) : Calls Tryz.prog 28 #[.agg #[.bool (nfZ (x).num), .string (sfZ (x).num), .string (strOf (x).den), .bool (nfZ (y).num), .string (sfZ (y).num), .string (strOf (y).den)], .agg #[.bool (nfZ (x').num), .string (sfZ (x').num), .string (strOf (x').den), .bool (nfZ (y').num), .string (sfZ (y').num), .string (strOf (y').den)]] w (Re w (.agg #[.bool (nfZ (x + x').num), .string (sfZ (x + x').num), .string (strOf (x + x').den), .bool (nfZ (y + y').num), .string (sfZ (y + y').num), .string (strOf (y + y').den)])) :=
 rplus4_walk _ _ _ _ _ _ _ _ _ _ _ _ _ _ _ _ _ _ w (fun w1 => rsumI x x' hK b0 b2 w1) (fun w1 => rsumI y y' hK b1 b3 w1)
open Go.RowKit
def onB (c t : Rat) : Bool := decide (Gm.sg c = 0) && decide (0 ≤ -(Gm.sg t))
theorem ron_off (n0 n1 n2 n3 n4 n5 : Bool) (s0 d0 s1 d1 s2 d2 s3 d3 s4 d4 s5 d5 : ByteArray) (G : Int) (w : World) (hG : ¬ G = 0)
  (H1 : Hid (∀ w1, Calls Tryz.prog 26 #[.agg #[.bool n0, .string s0, .string d0, .bool n1, .string s1, .string d1], .agg #[.bool n2, .string s2, .string d2, .bool n3, .string s3, .string d3], .agg #[.bool n4, .string s4, .string d4, .bool n5, .string s5, .string d5]] w1 (Re w1 (.int .i64 (G))))) :
  Calls Tryz.prog 52 #[.agg #[.bool n0, .string s0, .string d0, .bool n1, .string s1, .string d1], .agg #[.bool n2, .string s2, .string d2, .bool n3, .string s3, .string d3], .agg #[.bool n4, .string s4, .string d4, .bool n5, .string s5, .string d5]] w (Re w (.bool false)) := by
 go_enter Tryz.func52, Tryz.ntmps52
 go_wp2_with fail
 obtain ⟨w0, hw, ka, kb, kc, bb⟩ := mk3 w [.bool n0, .string s0, .string d0, .bool n1, .string s1, .string d1] [.bool n2, .string s2, .string d2, .bool n3, .string s3, .string d3] [.bool n4, .string s4, .string d4, .bool n5, .string s5, .string d5] 28 28 28
 rw [← hw]
 clear hw
 go_fit (H1.out _)
 rintro e w2 ⟨rfl, b1⟩
 replace ka := ka.below b1
 replace kb := kb.below b1
 replace kc := kc.below b1
 replace bb := Below.after bb b1
 clear b1
 go_wp2
 go_ret
 exact ⟨rfl, bb⟩
theorem ron_in (n0 n1 n2 n3 n4 n5 : Bool) (s0 d0 s1 d1 s2 d2 s3 d3 s4 d4 s5 d5 : ByteArray) (G T : Int) (w : World) (hG : G = 0)
  (H1 : Hid (∀ w1, Calls Tryz.prog 26 #[.agg #[.bool n0, .string s0, .string d0, .bool n1, .string s1, .string d1], .agg #[.bool n2, .string s2, .string d2, .bool n3, .string s3, .string d3], .agg #[.bool n4, .string s4, .string d4, .bool n5, .string s5, .string d5]] w1 (Re w1 (.int .i64 (G)))))
  (H2 : Hid (∀ w1, Calls Tryz.prog 96 #[.agg #[.bool n0, .string s0, .string d0, .bool n1, .string s1, .string d1], .agg #[.bool n2, .string s2, .string d2, .bool n3, .string s3, .string d3], .agg #[.bool n4, .string s4, .string d4, .bool n5, .string s5, .string d5]] w1 (Re w1 (.int .i64 (T))))) :
  Calls Tryz.prog 52 #[.agg #[.bool n0, .string s0, .string d0, .bool n1, .string s1, .string d1], .agg #[.bool n2, .string s2, .string d2, .bool n3, .string s3, .string d3], .agg #[.bool n4, .string s4, .string d4, .bool n5, .string s5, .string d5]] w (Re w (.bool (decide (0 ≤ T)))) := by
 go_enter Tryz.func52, Tryz.ntmps52
 go_wp2_with fail
 obtain ⟨w0, hw, ka, kb, kc, bb⟩ := mk3 w [.bool n0, .string s0, .string d0, .bool n1, .string s1, .string d1] [.bool n2, .string s2, .string d2, .bool n3, .string s3, .string d3] [.bool n4, .string s4, .string d4, .bool n5, .string s5, .string d5] 28 28 28
 rw [← hw]
 clear hw
 go_fit (H1.out _)
 rintro e w2 ⟨rfl, b1⟩
 replace ka := ka.below b1
 replace kb := kb.below b1
 replace kc := kc.below b1
 replace bb := Below.after bb b1
 clear b1
 obtain ⟨ca0, ca1, ca2, ca3, ca4, ca5⟩ := xk6 ka
 obtain ⟨cb0, cb1, cb2, cb3, cb4, cb5⟩ := xk6 kb
 obtain ⟨cc0, cc1, cc2, cc3, cc4, cc5⟩ := xk6 kc
 go_wp2_with fail
 go_fit (H2.out _)
 rintro e w3 ⟨rfl, b1⟩
 replace bb := Below.after bb b1
 clear b1
 clear ca0 ca1 ca2 ca3 ca4 ca5 cb0 cb1 cb2 cb3 cb4 cb5 cc0 cc1 cc2 cc3 cc4 cc5
 go_wp2
 go_ret
 exact ⟨rfl, bb⟩
theorem ronI (x0 y0 x1 y1 x2 y2 : Rat) {K : Nat} (hK : K ≤ 100) (b0 : Bq x0 K) (e0 : Bq y0 K) (b1 : Bq x1 K) (e1 : Bq y1 K) (b2 : Bq x2 K) (e2 : Bq y2 K) (w : World) : Calls Tryz.prog 52 #[.agg #[.bool (nfZ (x0).num), .string (sfZ (x0).num), .string (strOf (x0).den), .bool (nfZ (y0).num), .string (sfZ (y0).num), .string (strOf (y0).den)], .agg #[.bool (nfZ (x1).num), .string (sfZ (x1).num), .string (strOf (x1).den), .bool (nfZ (y1).num), .string (sfZ (y1).num), .string (strOf (y1).den)], .agg #[.bool (nfZ (x2).num), .string (sfZ (x2).num), .string (strOf (x2).den), .bool (nfZ (y2).num), .string (sfZ (y2).num), .string (strOf (y2).den)]] w (Re w (.bool (onB (Gm.cr x0 y0 x1 y1 x2 y2) (Gm.dt x0 y0 x1 y1 x2 y2)))) := by
 unfold onB
 by_cases h0 : Gm.sg (Gm.cr x0 y0 x1 y1 x2 y2) = 0
 ·rw [decide_eq_true h0, Bool.true_and]
  exact ron_in _ _ _ _ _ _ _ _ _ _ _ _ _ _ _ _ _ _ _ _ w h0 (fun w1 => rorientI x0 y0 x1 y1 x2 y2 hK b0 e0 b1 e1 b2 e2 w1) (fun w1 => rdiscI x0 y0 x1 y1 x2 y2 hK b0 e0 b1 e1 b2 e2 w1)
 ·rw [decide_eq_false h0, Bool.false_and]
  exact ron_off _ _ _ _ _ _ _ _ _ _ _ _ _ _ _ _ _ _ _ w h0 (fun w1 => rorientI x0 y0 x1 y1 x2 y2 hK b0 e0 b1 e1 b2 e2 w1)
open Go.RowKit
theorem rcrs_flat (n0 n1 n2 n3 n4 n5 n6 n7 n10 n11 n12 n13 n14 : Bool) (s0 d0 s1 d1 s2 d2 s3 d3 s4 d4 s5 d5 s6 d6 s7 d7 s10 d10 s11 d11 s12 d12 s13 d13 s14 d14 : ByteArray)  (w : World)
  (H1 : Hid (∀ w1, Calls Tryz.prog 30 #[.agg #[.bool n2, .string s2, .string d2, .bool n3, .string s3, .string d3], .agg #[.bool n0, .string s0, .string d0, .bool n1, .string s1, .string d1]] w1 (Re w1 (.agg #[.bool n10, .string s10, .string d10, .bool n11, .string s11, .string d11]))))
  (H2 : Hid (∀ w1, Calls Tryz.prog 30 #[.agg #[.bool n6, .string s6, .string d6, .bool n7, .string s7, .string d7], .agg #[.bool n4, .string s4, .string d4, .bool n5, .string s5, .string d5]] w1 (Re w1 (.agg #[.bool n12, .string s12, .string d12, .bool n13, .string s13, .string d13]))))
  (H3 : Hid (∀ w1, Calls Tryz.prog 49 #[.agg #[.bool n10, .string s10, .string d10, .bool n11, .string s11, .string d11], .agg #[.bool n12, .string s12, .string d12, .bool n13, .string s13, .string d13]] w1 (Re w1 (.agg #[.bool n14, .string s14, .string d14]))))
  (H4 : Hid (∀ w1, Calls Tryz.prog 50 #[.agg #[.bool n14, .string s14, .string d14]] w1 (Re w1 (.int .i64 0)))) :
  Calls Tryz.prog 14 #[.agg #[.bool n0, .string s0, .string d0, .bool n1, .string s1, .string d1], .agg #[.bool n2, .string s2, .string d2, .bool n3, .string s3, .string d3], .agg #[.bool n4, .string s4, .string d4, .bool n5, .string s5, .string d5], .agg #[.bool n6, .string s6, .string d6, .bool n7, .string s7, .string d7]] w (Re w (.tuple #[.agg #[.bool false, .string { data := #[] }, .string { data := #[] }, .bool false, .string { data := #[] }, .string { data := #[] }], .bool false])) := by
 go_enter Tryz.func14, Tryz.ntmps14
 go_wp2_with fail
 obtain ⟨w1, hw, ka, kb, kc, kd, kr, b1⟩ := mk5 w [.bool n0, .string s0, .string d0, .bool n1, .string s1, .string d1] [.bool n2, .string s2, .string d2, .bool n3, .string s3, .string d3] [.bool n4, .string s4, .string d4, .bool n5, .string s5, .string d5] [.bool n6, .string s6, .string d6, .bool n7, .string s7, .string d7] [.bool false, .string { data := #[] }, .string { data := #[] }, .bool false, .string { data := #[] }, .string { data := #[] }] 28 28 28 28 28
 rw [← hw]
 clear hw
 have sz := b1.size
 have ta := ka.lt
 have tb := kb.lt
 have tc := kc.lt
 have td := kd.lt
 have tr := kr.lt
 have bb := b1
 clear b1
 go_fit (H1.out _)
 rintro e w2 ⟨rfl, b1⟩
 have sz := b1.size
 replace ka := ka.below b1
 replace kb := kb.below b1
 replace kc := kc.below b1
 replace kd := kd.below b1
 replace kr := kr.below b1
 replace bb := Below.after bb b1
 clear b1
 obtain ⟨cc_0, cc_1, cc_2, cc_3, cc_4, cc_5⟩ := xk6 (kc.alloc (.cells #[.bool n10, .string s10, .string d10, .bool n11, .string s11, .string d11] 28))
 obtain ⟨cd_6, cd_7, cd_8, cd_9, cd_10, cd_11⟩ := xk6 (kd.alloc (.cells #[.bool n10, .string s10, .string d10, .bool n11, .string s11, .string d11] 28))
 go_wp2_with fail
 clear cc_0 cc_1 cc_2 cc_3 cc_4 cc_5 cd_6 cd_7 cd_8 cd_9 cd_10 cd_11
 go_fit (H2.out _)
 rintro e w3 ⟨rfl, b1⟩
 obtain ⟨ku, b1⟩ := al1 b1
 have sz := b1.size
 replace ka := ka.below b1
 replace kb := kb.below b1
 replace kc := kc.below b1
 replace kd := kd.below b1
 replace kr := kr.below b1
 replace bb := Below.after bb b1
 clear b1
 have tu := ku.lt
 obtain ⟨cu_0, cu_1, cu_2, cu_3, cu_4, cu_5⟩ := xk6 (ku.alloc (.cells #[.bool n12, .string s12, .string d12, .bool n13, .string s13, .string d13] 28))
 go_wp2_with fail
 clear cu_0 cu_1 cu_2 cu_3 cu_4 cu_5
 go_fit (H3.out _)
 rintro e w4 ⟨rfl, b1⟩
 obtain ⟨kv, b1⟩ := al1 b1
 have sz := b1.size
 replace ka := ka.below b1
 replace kb := kb.below b1
 replace kc := kc.below b1
 replace kd := kd.below b1
 replace kr := kr.below b1
 replace ku := ku.below b1
 replace bb := Below.after bb b1
 clear b1
 have tv := kv.lt
 go_wp2_with fail
 go_fit (H4.out _)
 rintro e w5 ⟨rfl, b1⟩
 obtain ⟨kn, b1⟩ := al1 b1
 have sz := b1.size
 replace ka := ka.below b1
 replace kb := kb.below b1
 replace kc := kc.below b1
 replace kd := kd.below b1
 replace kr := kr.below b1
 replace ku := ku.below b1
 replace kv := kv.below b1
 replace bb := Below.after bb b1
 clear b1
 have tn := kn.lt
 have cr_0 := cel6_0 kr
 have fr_1 := Cel.frozen kr 0
 have cr_2 := cel6_1 kr
 have fr_3 := Cel.frozen kr 1
 have cr_4 := cel6_2 kr
 have fr_5 := Cel.frozen kr 2
 have cr_6 := cel6_3 kr
 have fr_7 := Cel.frozen kr 3
 have cr_8 := cel6_4 kr
 have fr_9 := Cel.frozen kr 4
 have cr_10 := cel6_5 kr
 have fr_11 := Cel.frozen kr 5
 go_wp2
 exact post_p1 (p := 8) (u := 9) (v := .bool false) (by kernel_rfl) rfl rfl rfl (kr.set6 _ _ _ _ _ _) ⟨rfl, bset6 bb (by omega) _ _ _ _ _ _⟩
open Go.RowKit
theorem gMeet_bad (n0 n1 n2 n3 n4 n5 n6 n7 : Bool) (s0 d0 s1 d1 s2 d2 s3 d3 s4 d4 s5 d5 s6 d6 s7 d7 : ByteArray) (E : Int) (w : World) (hE : ¬ E = 0)
  (HC : Hid (∀ (w1 : World) (B : Nat), Below w.heap.size w w1 → Cel w1 B [.bool n0, .string s0, .string d0, .bool n1, .string s1, .string d1, .bool n2, .string s2, .string d2, .bool n3, .string s3, .string d3, .bool n4, .string s4, .string d4, .bool n5, .string s5, .string d5, .bool n6, .string s6, .string d6, .bool n7, .string s7, .string d7] 28 → Calls Tryz.prog 40 #[.slice (some ⟨B, 0, none⟩) 4 4] w1 (Re w1 (.int .i64 E)))) :
  Calls Tryz.prog 11 #[.agg #[.bool n0, .string s0, .string d0, .bool n1, .string s1, .string d1], .agg #[.bool n2, .string s2, .string d2, .bool n3, .string s3, .string d3], .agg #[.bool n4, .string s4, .string d4, .bool n5, .string s5, .string d5], .agg #[.bool n6, .string s6, .string d6, .bool n7, .string s7, .string d7]] w (Re w (.tuple #[.int .i64 0, .int .i64 E])) := by
 go_enter Tryz.func11, Tryz.ntmps11
 go_wp2_with fail
 obtain ⟨w0, hw, ka, kb, kc, kd, kl, bb⟩ := mk5 w [.bool n0, .string s0, .string d0, .bool n1, .string s1, .string d1] [.bool n2, .string s2, .string d2, .bool n3, .string s3, .string d3] [.bool n4, .string s4, .string d4, .bool n5, .string s5, .string d5] [.bool n6, .string s6, .string d6, .bool n7, .string s7, .string d7] [.bool n0, .string s0, .string d0, .bool n1, .string s1, .string d1, .bool n2, .string s2, .string d2, .bool n3, .string s3, .string d3, .bool n4, .string s4, .string d4, .bool n5, .string s5, .string d5, .bool n6, .string s6, .string d6, .bool n7, .string s7, .string d7] 28 28 28 28 28
 rw [← hw]
 clear hw
 go_fit (HC.out _ _ bb kl)
 rintro e w1 ⟨rfl, b1⟩
 replace ka := ka.below b1
 replace kb := kb.below b1
 replace kc := kc.below b1
 replace kd := kd.below b1
 replace bb := Below.after bb b1
 clear b1 kl
 go_wp2
 go_ret2
 exact ⟨rfl, bb⟩
theorem gMeet_ok (n0 n1 n2 n3 n4 n5 n6 n7 : Bool) (s0 d0 s1 d1 s2 d2 s3 d3 s4 d4 s5 d5 s6 d6 s7 d7 : ByteArray) (G : Int) (w : World)
  (HC : Hid (∀ (w1 : World) (B : Nat), Below w.heap.size w w1 → Cel w1 B [.bool n0, .string s0, .string d0, .bool n1, .string s1, .string d1, .bool n2, .string s2, .string d2, .bool n3, .string s3, .string d3, .bool n4, .string s4, .string d4, .bool n5, .string s5, .string d5, .bool n6, .string s6, .string d6, .bool n7, .string s7, .string d7] 28 → Calls Tryz.prog 40 #[.slice (some ⟨B, 0, none⟩) 4 4] w1 (Re w1 (.int .i64 0))))
  (H1 : Hid (∀ w1, Calls Tryz.prog 41 #[.agg #[.bool n0, .string s0, .string d0, .bool n1, .string s1, .string d1], .agg #[.bool n2, .string s2, .string d2, .bool n3, .string s3, .string d3], .agg #[.bool n4, .string s4, .string d4, .bool n5, .string s5, .string d5], .agg #[.bool n6, .string s6, .string d6, .bool n7, .string s7, .string d7]] w1 (Re w1 (.int .i64 (G))))) :
  Calls Tryz.prog 11 #[.agg #[.bool n0, .string s0, .string d0, .bool n1, .string s1, .string d1], .agg #[.bool n2, .string s2, .string d2, .bool n3, .string s3, .string d3], .agg #[.bool n4, .string s4, .string d4, .bool n5, .string s5, .string d5], .agg #[.bool n6, .string s6, .string d6, .bool n7, .string s7, .string d7]] w (Re w (.tuple #[.int .i64 G, .int .i64 0])) := by
 go_enter Tryz.func11, Tryz.ntmps11
 go_wp2_with fail
 obtain ⟨w0, hw, ka, kb, kc, kd, kl, bb⟩ := mk5 w [.bool n0, .string s0, .string d0, .bool n1, .string s1, .string d1] [.bool n2, .string s2, .string d2, .bool n3, .string s3, .string d3] [.bool n4, .string s4, .string d4, .bool n5, .string s5, .string d5] [.bool n6, .string s6, .string d6, .bool n7, .string s7, .string d7] [.bool n0, .string s0, .string d0, .bool n1, .string s1, .string d1, .bool n2, .string s2, .string d2, .bool n3, .string s3, .string d3, .bool n4, .string s4, .string d4, .bool n5, .string s5, .string d5, .bool n6, .string s6, .string d6, .bool n7, .string s7, .string d7] 28 28 28 28 28
 rw [← hw]
 clear hw
 go_fit (HC.out _ _ bb kl)
 rintro e w1 ⟨rfl, b1⟩
 replace ka := ka.below b1
 replace kb := kb.below b1
 replace kc := kc.below b1
 replace kd := kd.below b1
 replace bb := Below.after bb b1
 clear b1 kl
 obtain ⟨ca0, ca1, ca2, ca3, ca4, ca5⟩ := xk6 ka
 obtain ⟨cb0, cb1, cb2, cb3, cb4, cb5⟩ := xk6 kb
 obtain ⟨cc0, cc1, cc2, cc3, cc4, cc5⟩ := xk6 kc
 obtain ⟨cd0, cd1, cd2, cd3, cd4, cd5⟩ := xk6 kd
 go_wp2_with fail
 go_fit (H1.out _)
 rintro e w2 ⟨rfl, b1⟩
 replace bb := Below.after bb b1
 clear ca0 ca1 ca2 ca3 ca4 ca5 cb0 cb1 cb2 cb3 cb4 cb5 cc0 cc1 cc2 cc3 cc4 cc5 cd0 cd1 cd2 cd3 cd4 cd5
 go_wp2
 go_ret2
 exact ⟨rfl, bb⟩
theorem sg_wrap (r s : Rat) : IntKind.i64.wrap (Gm.sg r * Gm.sg s) = Gm.sg r * Gm.sg s := by
 rw [IntKind.wrap_i64]
 rcases sg_small r with h | h | h <;> rcases sg_small s with h' | h' | h' <;> rw [h, h'] <;> rfl
theorem gCircle_er (n0 n1 n2 n3 n4 n5 n6 n7 : Bool) (s0 d0 s1 d1 s2 d2 s3 d3 s4 d4 s5 d5 s6 d6 s7 d7 : ByteArray) (w : World) (hT : Tab w) (z0 : s0.size ≤ 100 ∧ d0.size ≤ 100) (z1 : s1.size ≤ 100 ∧ d1.size ≤ 100) (z2 : s2.size ≤ 100 ∧ d2.size ≤ 100) (z3 : s3.size ≤ 100 ∧ d3.size ≤ 100) (z4 : s4.size ≤ 100 ∧ d4.size ≤ 100) (z5 : s5.size ≤ 100 ∧ d5.size ≤ 100) (z6 : s6.size ≤ 100 ∧ d6.size ≤ 100) (z7 : s7.size ≤ 100 ∧ d7.size ≤ 100) (hE : ¬ two (two (two (twoq n0 s0 d0 n1 s1 d1) (twoq n2 s2 d2 n3 s3 d3)) (twoq n4 s4 d4 n5 s5 d5)) (twoq n6 s6 d6 n7 s7 d7) = 0) :
  Calls Tryz.prog 37 #[.agg #[.bool n0, .string s0, .string d0, .bool n1, .string s1, .string d1], .agg #[.bool n2, .string s2, .string d2, .bool n3, .string s3, .string d3], .agg #[.bool n4, .string s4, .string d4, .bool n5, .string s5, .string d5], .agg #[.bool n6, .string s6, .string d6, .bool n7, .string s7, .string d7]] w (Re w (.tuple #[.int .i64 0, .int .i64 (two (two (two (twoq n0 s0 d0 n1 s1 d1) (twoq n2 s2 d2 n3 s3 d3)) (twoq n4 s4 d4 n5 s5 d5)) (twoq n6 s6 d6 n7 s7 d7) : Nat)])) :=
 gCircle_bad n0 n1 n2 n3 n4 n5 n6 n7 s0 d0 s1 d1 s2 d2 s3 d3 s4 d4 s5 d5 s6 d6 s7 d7 _ w (by omega) (fun w1 B b h => scheck4 B n0 n1 n2 n3 n4 n5 n6 n7 s0 d0 s1 d1 s2 d2 s3 d3 s4 d4 s5 d5 s6 d6 s7 d7 w1 (hT.below b) h z0 z1 z2 z3 z4 z5 z6 z7)
theorem gMeet_er (n0 n1 n2 n3 n4 n5 n6 n7 : Bool) (s0 d0 s1 d1 s2 d2 s3 d3 s4 d4 s5 d5 s6 d6 s7 d7 : ByteArray) (w : World) (hT : Tab w) (z0 : s0.size ≤ 100 ∧ d0.size ≤ 100) (z1 : s1.size ≤ 100 ∧ d1.size ≤ 100) (z2 : s2.size ≤ 100 ∧ d2.size ≤ 100) (z3 : s3.size ≤ 100 ∧ d3.size ≤ 100) (z4 : s4.size ≤ 100 ∧ d4.size ≤ 100) (z5 : s5.size ≤ 100 ∧ d5.size ≤ 100) (z6 : s6.size ≤ 100 ∧ d6.size ≤ 100) (z7 : s7.size ≤ 100 ∧ d7.size ≤ 100) (hE : ¬ two (two (two (twoq n0 s0 d0 n1 s1 d1) (twoq n2 s2 d2 n3 s3 d3)) (twoq n4 s4 d4 n5 s5 d5)) (twoq n6 s6 d6 n7 s7 d7) = 0) :
  Calls Tryz.prog 11 #[.agg #[.bool n0, .string s0, .string d0, .bool n1, .string s1, .string d1], .agg #[.bool n2, .string s2, .string d2, .bool n3, .string s3, .string d3], .agg #[.bool n4, .string s4, .string d4, .bool n5, .string s5, .string d5], .agg #[.bool n6, .string s6, .string d6, .bool n7, .string s7, .string d7]] w (Re w (.tuple #[.int .i64 0, .int .i64 (two (two (two (twoq n0 s0 d0 n1 s1 d1) (twoq n2 s2 d2 n3 s3 d3)) (twoq n4 s4 d4 n5 s5 d5)) (twoq n6 s6 d6 n7 s7 d7) : Nat)])) :=
 gMeet_bad n0 n1 n2 n3 n4 n5 n6 n7 s0 d0 s1 d1 s2 d2 s3 d3 s4 d4 s5 d5 s6 d6 s7 d7 _ w (by omega) (fun w1 B b h => scheck4 B n0 n1 n2 n3 n4 n5 n6 n7 s0 d0 s1 d1 s2 d2 s3 d3 s4 d4 s5 d5 s6 d6 s7 d7 w1 (hT.below b) h z0 z1 z2 z3 z4 z5 z6 z7)
theorem gOrient_an (n0 n1 n2 n3 n4 n5 : Bool) (s0 d0 s1 d1 s2 d2 s3 d3 s4 d4 s5 d5 : ByteArray) (w : World) (hT : Tab w) (z0 : s0.size ≤ 100 ∧ d0.size ≤ 100) (z1 : s1.size ≤ 100 ∧ d1.size ≤ 100) (z2 : s2.size ≤ 100 ∧ d2.size ≤ 100) (z3 : s3.size ≤ 100 ∧ d3.size ≤ 100) (z4 : s4.size ≤ 100 ∧ d4.size ≤ 100) (z5 : s5.size ≤ 100 ∧ d5.size ≤ 100) (hE : two (two (twoq n0 s0 d0 n1 s1 d1) (twoq n2 s2 d2 n3 s3 d3)) (twoq n4 s4 d4 n5 s5 d5) = 0) :
  Calls Tryz.prog 39 #[.agg #[.bool n0, .string s0, .string d0, .bool n1, .string s1, .string d1], .agg #[.bool n2, .string s2, .string d2, .bool n3, .string s3, .string d3], .agg #[.bool n4, .string s4, .string d4, .bool n5, .string s5, .string d5]] w (Re w (.tuple #[.int .i64 (Gm.sg (Gm.cr (qOf n0 s0 d0) (qOf n1 s1 d1) (qOf n2 s2 d2) (qOf n3 s3 d3) (qOf n4 s4 d4) (qOf n5 s5 d5))), .int .i64 0])) := by
 have hE' := hE
 have ho : OkQ n0 s0 d0 ∧ OkQ n1 s1 d1 ∧ OkQ n2 s2 d2 ∧ OkQ n3 s3 d3 ∧ OkQ n4 s4 d4 ∧ OkQ n5 s5 d5 := by
  simp only [two_zero, twoq_zero] at hE
  obtain ⟨⟨⟨a0, a1⟩, a2, a3⟩, a4, a5⟩ := hE
  exact ⟨(chkq_zero a0).1, (chkq_zero a1).1, (chkq_zero a2).1, (chkq_zero a3).1, (chkq_zero a4).1, (chkq_zero a5).1⟩
 obtain ⟨o0, o1, o2, o3, o4, o5⟩ := ho
 exact gOrient_ok n0 n1 n2 n3 n4 n5 s0 d0 s1 d1 s2 d2 s3 d3 s4 d4 s5 d5 _ w (fun w1 B b h => by have := scheck3 B n0 n1 n2 n3 n4 n5 s0 d0 s1 d1 s2 d2 s3 d3 s4 d4 s5 d5 w1 (hT.below b) h z0 z1 z2 z3 z4 z5; rwa [hE'] at this) (fun w1 => sturn_any n0 n1 n2 n3 n4 n5 s0 d0 s1 d1 s2 d2 s3 d3 s4 d4 s5 d5 w1 o0 o1 o2 o3 o4 o5 z0 z1 z2 z3 z4 z5)
theorem gCircle_an (n0 n1 n2 n3 n4 n5 n6 n7 : Bool) (s0 d0 s1 d1 s2 d2 s3 d3 s4 d4 s5 d5 s6 d6 s7 d7 : ByteArray) (w : World) (hT : Tab w) (z0 : s0.size ≤ 100 ∧ d0.size ≤ 100) (z1 : s1.size ≤ 100 ∧ d1.size ≤ 100) (z2 : s2.size ≤ 100 ∧ d2.size ≤ 100) (z3 : s3.size ≤ 100 ∧ d3.size ≤ 100) (z4 : s4.size ≤ 100 ∧ d4.size ≤ 100) (z5 : s5.size ≤ 100 ∧ d5.size ≤ 100) (z6 : s6.size ≤ 100 ∧ d6.size ≤ 100) (z7 : s7.size ≤ 100 ∧ d7.size ≤ 100) (hE : two (two (two (twoq n0 s0 d0 n1 s1 d1) (twoq n2 s2 d2 n3 s3 d3)) (twoq n4 s4 d4 n5 s5 d5)) (twoq n6 s6 d6 n7 s7 d7) = 0) :
  Calls Tryz.prog 37 #[.agg #[.bool n0, .string s0, .string d0, .bool n1, .string s1, .string d1], .agg #[.bool n2, .string s2, .string d2, .bool n3, .string s3, .string d3], .agg #[.bool n4, .string s4, .string d4, .bool n5, .string s5, .string d5], .agg #[.bool n6, .string s6, .string d6, .bool n7, .string s7, .string d7]] w (Re w (if Gm.sg (Gm.cr (qOf n0 s0 d0) (qOf n1 s1 d1) (qOf n2 s2 d2) (qOf n3 s3 d3) (qOf n4 s4 d4) (qOf n5 s5 d5)) = 0 then .tuple #[.int .i64 0, .int .i64 6] else .tuple #[.int .i64 (Gm.sg (Gm.cr (qOf n0 s0 d0) (qOf n1 s1 d1) (qOf n2 s2 d2) (qOf n3 s3 d3) (qOf n4 s4 d4) (qOf n5 s5 d5)) * Gm.sg (Gm.ci (qOf n0 s0 d0) (qOf n1 s1 d1) (qOf n2 s2 d2) (qOf n3 s3 d3) (qOf n4 s4 d4) (qOf n5 s5 d5) (qOf n6 s6 d6) (qOf n7 s7 d7))), .int .i64 0])) := by
 have hE' := hE
 have ho : OkQ n0 s0 d0 ∧ OkQ n1 s1 d1 ∧ OkQ n2 s2 d2 ∧ OkQ n3 s3 d3 ∧ OkQ n4 s4 d4 ∧ OkQ n5 s5 d5 ∧ OkQ n6 s6 d6 ∧ OkQ n7 s7 d7 := by
  simp only [two_zero, twoq_zero] at hE
  obtain ⟨⟨⟨⟨a0, a1⟩, a2, a3⟩, a4, a5⟩, a6, a7⟩ := hE
  exact ⟨(chkq_zero a0).1, (chkq_zero a1).1, (chkq_zero a2).1, (chkq_zero a3).1, (chkq_zero a4).1, (chkq_zero a5).1, (chkq_zero a6).1, (chkq_zero a7).1⟩
 obtain ⟨o0, o1, o2, o3, o4, o5, o6, o7⟩ := ho
 by_cases h0 : Gm.sg (Gm.cr (qOf n0 s0 d0) (qOf n1 s1 d1) (qOf n2 s2 d2) (qOf n3 s3 d3) (qOf n4 s4 d4) (qOf n5 s5 d5)) = 0
 ·rw [if_pos h0]
  exact gCircle_flat n0 n1 n2 n3 n4 n5 n6 n7 s0 d0 s1 d1 s2 d2 s3 d3 s4 d4 s5 d5 s6 d6 s7 d7 w (fun w1 B b h => by have := scheck4 B n0 n1 n2 n3 n4 n5 n6 n7 s0 d0 s1 d1 s2 d2 s3 d3 s4 d4 s5 d5 s6 d6 s7 d7 w1 (hT.below b) h z0 z1 z2 z3 z4 z5 z6 z7; rwa [hE'] at this) (fun w1 => by have := sturn_any n0 n1 n2 n3 n4 n5 s0 d0 s1 d1 s2 d2 s3 d3 s4 d4 s5 d5 w1 o0 o1 o2 o3 o4 o5 z0 z1 z2 z3 z4 z5; rwa [h0] at this)
 ·rw [if_neg h0]
  exact gCircle_ok n0 n1 n2 n3 n4 n5 n6 n7 s0 d0 s1 d1 s2 d2 s3 d3 s4 d4 s5 d5 s6 d6 s7 d7 _ _ w h0 (sg_wrap _ _) (fun w1 B b h => by have := scheck4 B n0 n1 n2 n3 n4 n5 n6 n7 s0 d0 s1 d1 s2 d2 s3 d3 s4 d4 s5 d5 s6 d6 s7 d7 w1 (hT.below b) h z0 z1 z2 z3 z4 z5 z6 z7; rwa [hE'] at this) (fun w1 => sturn_any n0 n1 n2 n3 n4 n5 s0 d0 s1 d1 s2 d2 s3 d3 s4 d4 s5 d5 w1 o0 o1 o2 o3 o4 o5 z0 z1 z2 z3 z4 z5) (fun w1 => scircle_any n0 n1 n2 n3 n4 n5 n6 n7 s0 d0 s1 d1 s2 d2 s3 d3 s4 d4 s5 d5 s6 d6 s7 d7 w1 o0 o1 o2 o3 o4 o5 o6 o7 z0 z1 z2 z3 z4 z5 z6 z7)
theorem gMeet_an (n0 n1 n2 n3 n4 n5 n6 n7 : Bool) (s0 d0 s1 d1 s2 d2 s3 d3 s4 d4 s5 d5 s6 d6 s7 d7 : ByteArray) (w : World) (hT : Tab w) (z0 : s0.size ≤ 100 ∧ d0.size ≤ 100) (z1 : s1.size ≤ 100 ∧ d1.size ≤ 100) (z2 : s2.size ≤ 100 ∧ d2.size ≤ 100) (z3 : s3.size ≤ 100 ∧ d3.size ≤ 100) (z4 : s4.size ≤ 100 ∧ d4.size ≤ 100) (z5 : s5.size ≤ 100 ∧ d5.size ≤ 100) (z6 : s6.size ≤ 100 ∧ d6.size ≤ 100) (z7 : s7.size ≤ 100 ∧ d7.size ≤ 100) (hE : two (two (two (twoq n0 s0 d0 n1 s1 d1) (twoq n2 s2 d2 n3 s3 d3)) (twoq n4 s4 d4 n5 s5 d5)) (twoq n6 s6 d6 n7 s7 d7) = 0) :
  Calls Tryz.prog 11 #[.agg #[.bool n0, .string s0, .string d0, .bool n1, .string s1, .string d1], .agg #[.bool n2, .string s2, .string d2, .bool n3, .string s3, .string d3], .agg #[.bool n4, .string s4, .string d4, .bool n5, .string s5, .string d5], .agg #[.bool n6, .string s6, .string d6, .bool n7, .string s7, .string d7]] w (Re w (.tuple #[.int .i64 (mt (Gm.sg (Gm.cr (qOf n0 s0 d0) (qOf n1 s1 d1) (qOf n2 s2 d2) (qOf n3 s3 d3) (qOf n4 s4 d4) (qOf n5 s5 d5))) (Gm.sg (Gm.cr (qOf n0 s0 d0) (qOf n1 s1 d1) (qOf n2 s2 d2) (qOf n3 s3 d3) (qOf n6 s6 d6) (qOf n7 s7 d7))) (Gm.sg (Gm.cr (qOf n4 s4 d4) (qOf n5 s5 d5) (qOf n6 s6 d6) (qOf n7 s7 d7) (qOf n0 s0 d0) (qOf n1 s1 d1))) (Gm.sg (Gm.cr (qOf n4 s4 d4) (qOf n5 s5 d5) (qOf n6 s6 d6) (qOf n7 s7 d7) (qOf n2 s2 d2) (qOf n3 s3 d3))) (-(Gm.sg (Gm.dt (qOf n0 s0 d0) (qOf n1 s1 d1) (qOf n2 s2 d2) (qOf n3 s3 d3) (qOf n4 s4 d4) (qOf n5 s5 d5)))) (-(Gm.sg (Gm.dt (qOf n0 s0 d0) (qOf n1 s1 d1) (qOf n2 s2 d2) (qOf n3 s3 d3) (qOf n6 s6 d6) (qOf n7 s7 d7)))) (-(Gm.sg (Gm.dt (qOf n4 s4 d4) (qOf n5 s5 d5) (qOf n6 s6 d6) (qOf n7 s7 d7) (qOf n0 s0 d0) (qOf n1 s1 d1)))) (-(Gm.sg (Gm.dt (qOf n4 s4 d4) (qOf n5 s5 d5) (qOf n6 s6 d6) (qOf n7 s7 d7) (qOf n2 s2 d2) (qOf n3 s3 d3))))), .int .i64 0])) := by
 have hE' := hE
 have ho : OkQ n0 s0 d0 ∧ OkQ n1 s1 d1 ∧ OkQ n2 s2 d2 ∧ OkQ n3 s3 d3 ∧ OkQ n4 s4 d4 ∧ OkQ n5 s5 d5 ∧ OkQ n6 s6 d6 ∧ OkQ n7 s7 d7 := by
  simp only [two_zero, twoq_zero] at hE
  obtain ⟨⟨⟨⟨a0, a1⟩, a2, a3⟩, a4, a5⟩, a6, a7⟩ := hE
  exact ⟨(chkq_zero a0).1, (chkq_zero a1).1, (chkq_zero a2).1, (chkq_zero a3).1, (chkq_zero a4).1, (chkq_zero a5).1, (chkq_zero a6).1, (chkq_zero a7).1⟩
 obtain ⟨o0, o1, o2, o3, o4, o5, o6, o7⟩ := ho
 exact gMeet_ok n0 n1 n2 n3 n4 n5 n6 n7 s0 d0 s1 d1 s2 d2 s3 d3 s4 d4 s5 d5 s6 d6 s7 d7 _ w (fun w1 B b h => by have := scheck4 B n0 n1 n2 n3 n4 n5 n6 n7 s0 d0 s1 d1 s2 d2 s3 d3 s4 d4 s5 d5 s6 d6 s7 d7 w1 (hT.below b) h z0 z1 z2 z3 z4 z5 z6 z7; rwa [hE'] at this) (fun w1 => meeting_walk n0 n1 n2 n3 n4 n5 n6 n7 s0 d0 s1 d1 s2 d2 s3 d3 s4 d4 s5 d5 s6 d6 s7 d7 _ _ _ _ _ _ _ _ w1 (sg_wrap _ _) (sg_wrap _ _) (fun w1 => sturn_any n0 n1 n2 n3 n4 n5 s0 d0 s1 d1 s2 d2 s3 d3 s4 d4 s5 d5 w1 o0 o1 o2 o3 o4 o5 z0 z1 z2 z3 z4 z5) (fun w1 => sturn_any n0 n1 n2 n3 n6 n7 s0 d0 s1 d1 s2 d2 s3 d3 s6 d6 s7 d7 w1 o0 o1 o2 o3 o6 o7 z0 z1 z2 z3 z6 z7) (fun w1 => sturn_any n4 n5 n6 n7 n0 n1 s4 d4 s5 d5 s6 d6 s7 d7 s0 d0 s1 d1 w1 o4 o5 o6 o7 o0 o1 z4 z5 z6 z7 z0 z1) (fun w1 => sturn_any n4 n5 n6 n7 n2 n3 s4 d4 s5 d5 s6 d6 s7 d7 s2 d2 s3 d3 w1 o4 o5 o6 o7 o2 o3 z4 z5 z6 z7 z2 z3) (fun w1 => about_any n0 n1 n2 n3 n4 n5 s0 d0 s1 d1 s2 d2 s3 d3 s4 d4 s5 d5 w1 o0 o1 o2 o3 o4 o5 z0 z1 z2 z3 z4 z5) (fun w1 => about_any n0 n1 n2 n3 n6 n7 s0 d0 s1 d1 s2 d2 s3 d3 s6 d6 s7 d7 w1 o0 o1 o2 o3 o6 o7 z0 z1 z2 z3 z6 z7) (fun w1 => about_any n4 n5 n6 n7 n0 n1 s4 d4 s5 d5 s6 d6 s7 d7 s0 d0 s1 d1 w1 o4 o5 o6 o7 o0 o1 z4 z5 z6 z7 z0 z1) (fun w1 => about_any n4 n5 n6 n7 n2 n3 s4 d4 s5 d5 s6 d6 s7 d7 s2 d2 s3 d3 w1 o4 o5 o6 o7 o2 o3 z4 z5 z6 z7 z2 z3))
open Go.RowKit
theorem live5_walk (n10 n11 n12 n13 n14 n15 n16 n17 n18 n19 n20 n21 n22 n23 : Bool) (s10 d10 s11 d11 s12 d12 s13 d13 s14 d14 s15 d15 s16 d16 s17 d17 s18 d18 s19 d19 s20 d20 s21 d21 s22 d22 s23 d23 : ByteArray) (w : World)
  (A00 : Hid (∀ w1, Calls Tryz.prog 38 #[.int .i64 0, .int .i64 0] w1 (Re w1 (.agg #[.bool n10, .string s10, .string d10, .bool n11, .string s11, .string d11]))))
  (A20 : Hid (∀ w1, Calls Tryz.prog 38 #[.int .i64 2, .int .i64 0] w1 (Re w1 (.agg #[.bool n12, .string s12, .string d12, .bool n13, .string s13, .string d13]))))
  (A02 : Hid (∀ w1, Calls Tryz.prog 38 #[.int .i64 0, .int .i64 2] w1 (Re w1 (.agg #[.bool n14, .string s14, .string d14, .bool n15, .string s15, .string d15]))))
  (A11 : Hid (∀ w1, Calls Tryz.prog 38 #[.int .i64 1, .int .i64 1] w1 (Re w1 (.agg #[.bool n16, .string s16, .string d16, .bool n17, .string s17, .string d17]))))
  (A22 : Hid (∀ w1, Calls Tryz.prog 38 #[.int .i64 2, .int .i64 2] w1 (Re w1 (.agg #[.bool n18, .string s18, .string d18, .bool n19, .string s19, .string d19]))))
  (A10 : Hid (∀ w1, Calls Tryz.prog 38 #[.int .i64 1, .int .i64 0] w1 (Re w1 (.agg #[.bool n20, .string s20, .string d20, .bool n21, .string s21, .string d21]))))
  (A01 : Hid (∀ w1, Calls Tryz.prog 38 #[.int .i64 0, .int .i64 1] w1 (Re w1 (.agg #[.bool n22, .string s22, .string d22, .bool n23, .string s23, .string d23]))))
  (C1 : Hid (∀ w1, Below w.heap.size w w1 → Calls Tryz.prog 37 #[.agg #[.bool n10, .string s10, .string d10, .bool n11, .string s11, .string d11], .agg #[.bool n12, .string s12, .string d12, .bool n13, .string s13, .string d13], .agg #[.bool n14, .string s14, .string d14, .bool n15, .string s15, .string d15], .agg #[.bool n16, .string s16, .string d16, .bool n17, .string s17, .string d17]] w1 (Re w1 (.tuple #[.int .i64 1, .int .i64 0]))))
  (C2 : Hid (∀ w1, Below w.heap.size w w1 → Calls Tryz.prog 11 #[.agg #[.bool n10, .string s10, .string d10, .bool n11, .string s11, .string d11], .agg #[.bool n18, .string s18, .string d18, .bool n19, .string s19, .string d19], .agg #[.bool n14, .string s14, .string d14, .bool n15, .string s15, .string d15], .agg #[.bool n12, .string s12, .string d12, .bool n13, .string s13, .string d13]] w1 (Re w1 (.tuple #[.int .i64 1, .int .i64 0]))))
  (C3 : Hid (∀ w1, Below w.heap.size w w1 → Calls Tryz.prog 37 #[.agg #[.bool n10, .string s10, .string d10, .bool n11, .string s11, .string d11], .agg #[.bool n20, .string s20, .string d20, .bool n21, .string s21, .string d21], .agg #[.bool n12, .string s12, .string d12, .bool n13, .string s13, .string d13], .agg #[.bool n16, .string s16, .string d16, .bool n17, .string s17, .string d17]] w1 (Re w1 (.tuple #[.int .i64 0, .int .i64 6]))))
  (C4 : Hid (∀ w1, Below w.heap.size w w1 → Calls Tryz.prog 39 #[.agg #[.bool n10, .string s10, .string d10, .bool n11, .string s11, .string d11], .agg #[.bool n20, .string s20, .string d20, .bool n21, .string s21, .string d21], .agg #[.bool n22, .string s22, .string d22, .bool n23, .string s23, .string d23]] w1 (Re w1 (.tuple #[.int .i64 1, .int .i64 0])))) :
  Calls Tryz.prog 10 #[] w (Re w (.bool true)) := by
 go_enter Tryz.func10, Tryz.ntmps10
 have bb := Below.refl w.heap.size w
 go_wp2_with fail
 go_fit (A00.out _)
 rintro e w1 ⟨rfl, b1⟩
 replace bb := Below.after bb b1
 clear b1
 go_wp2_with fail
 go_fit (A20.out _)
 rintro e w2 ⟨rfl, b1⟩
 replace bb := Below.after bb b1
 clear b1
 go_wp2_with fail
 go_fit (A02.out _)
 rintro e w3 ⟨rfl, b1⟩
 replace bb := Below.after bb b1
 clear b1
 go_wp2_with fail
 go_fit (A11.out _)
 rintro e w4 ⟨rfl, b1⟩
 replace bb := Below.after bb b1
 clear b1
 go_wp2_with fail
 go_fit (C1.out _ bb)
 rintro e w5 ⟨rfl, b1⟩
 replace bb := Below.after bb b1
 clear b1
 go_wp2_with fail
 go_fit (A00.out _)
 rintro e w6 ⟨rfl, b1⟩
 replace bb := Below.after bb b1
 clear b1
 go_wp2_with fail
 go_fit (A22.out _)
 rintro e w7 ⟨rfl, b1⟩
 replace bb := Below.after bb b1
 clear b1
 go_wp2_with fail
 go_fit (A02.out _)
 rintro e w8 ⟨rfl, b1⟩
 replace bb := Below.after bb b1
 clear b1
 go_wp2_with fail
 go_fit (A20.out _)
 rintro e w9 ⟨rfl, b1⟩
 replace bb := Below.after bb b1
 clear b1
 go_wp2_with fail
 go_fit (C2.out _ bb)
 rintro e w10 ⟨rfl, b1⟩
 replace bb := Below.after bb b1
 clear b1
 go_wp2_with fail
 go_fit (A00.out _)
 rintro e w11 ⟨rfl, b1⟩
 replace bb := Below.after bb b1
 clear b1
 go_wp2_with fail
 go_fit (A10.out _)
 rintro e w12 ⟨rfl, b1⟩
 replace bb := Below.after bb b1
 clear b1
 go_wp2_with fail
 go_fit (A20.out _)
 rintro e w13 ⟨rfl, b1⟩
 replace bb := Below.after bb b1
 clear b1
 go_wp2_with fail
 go_fit (A11.out _)
 rintro e w14 ⟨rfl, b1⟩
 replace bb := Below.after bb b1
 clear b1
 go_wp2_with fail
 go_fit (C3.out _ bb)
 rintro e w15 ⟨rfl, b1⟩
 replace bb := Below.after bb b1
 clear b1
 go_wp2_with fail
 go_fit (A00.out _)
 rintro e w16 ⟨rfl, b1⟩
 replace bb := Below.after bb b1
 clear b1
 go_wp2_with fail
 go_fit (A10.out _)
 rintro e w17 ⟨rfl, b1⟩
 replace bb := Below.after bb b1
 clear b1
 go_wp2_with fail
 go_fit (A01.out _)
 rintro e w18 ⟨rfl, b1⟩
 replace bb := Below.after bb b1
 clear b1
 go_wp2_with fail
 go_fit (C4.out _ bb)
 rintro e w19 ⟨rfl, b1⟩
 replace bb := Below.after bb b1
 clear b1
 go_wp2
 go_ret
 exact ⟨rfl, bb⟩
theorem sz5_int (z : Int) (h1 : -200 ≤ z) (h2 : z ≤ 200) : (sfZ z).size ≤ 100 ∧ (⟨#[1]⟩ : ByteArray).size ≤ 100 := by
 refine ⟨Nat.le_trans (Bd.size (k := 1) ?_) (by omega), by decide⟩
 unfold Bd
 simp
 omega
theorem live5_any (w : World) (hT : Tab w) : Calls Tryz.prog 10 #[] w (Re w (.bool true)) := by
 refine live5_walk (nfZ 0) (nfZ 0) (nfZ 2) (nfZ 0) (nfZ 0) (nfZ 2) (nfZ 1) (nfZ 1) (nfZ 2) (nfZ 2) (nfZ 1) (nfZ 0) (nfZ 0) (nfZ 1) (sfZ 0) ⟨#[1]⟩ (sfZ 0) ⟨#[1]⟩ (sfZ 2) ⟨#[1]⟩ (sfZ 0) ⟨#[1]⟩ (sfZ 0) ⟨#[1]⟩ (sfZ 2) ⟨#[1]⟩ (sfZ 1) ⟨#[1]⟩ (sfZ 1) ⟨#[1]⟩ (sfZ 2) ⟨#[1]⟩ (sfZ 2) ⟨#[1]⟩ (sfZ 1) ⟨#[1]⟩ (sfZ 0) ⟨#[1]⟩ (sfZ 0) ⟨#[1]⟩ (sfZ 1) ⟨#[1]⟩ w ?_ ?_ ?_ ?_ ?_ ?_ ?_ ?_ ?_ ?_ ?_
 ·exact fun w1 => lat5_any 0 0 (by omega) (by omega) (by omega) (by omega) w1
 ·exact fun w1 => lat5_any 2 0 (by omega) (by omega) (by omega) (by omega) w1
 ·exact fun w1 => lat5_any 0 2 (by omega) (by omega) (by omega) (by omega) w1
 ·exact fun w1 => lat5_any 1 1 (by omega) (by omega) (by omega) (by omega) w1
 ·exact fun w1 => lat5_any 2 2 (by omega) (by omega) (by omega) (by omega) w1
 ·exact fun w1 => lat5_any 1 0 (by omega) (by omega) (by omega) (by omega) w1
 ·exact fun w1 => lat5_any 0 1 (by omega) (by omega) (by omega) (by omega) w1
 ·intro w1 b
  have := gCircle_an (nfZ 0) (nfZ 0) (nfZ 2) (nfZ 0) (nfZ 0) (nfZ 2) (nfZ 1) (nfZ 1) (sfZ 0) ⟨#[1]⟩ (sfZ 0) ⟨#[1]⟩ (sfZ 2) ⟨#[1]⟩ (sfZ 0) ⟨#[1]⟩ (sfZ 0) ⟨#[1]⟩ (sfZ 2) ⟨#[1]⟩ (sfZ 1) ⟨#[1]⟩ (sfZ 1) ⟨#[1]⟩ w1 (hT.below b) (sz5_int 0 (by omega) (by omega)) (sz5_int 0 (by omega) (by omega)) (sz5_int 2 (by omega) (by omega)) (sz5_int 0 (by omega) (by omega)) (sz5_int 0 (by omega) (by omega)) (sz5_int 2 (by omega) (by omega)) (sz5_int 1 (by omega) (by omega)) (sz5_int 1 (by omega) (by omega)) (two_zero.2 ⟨(two_zero.2 ⟨(two_zero.2 ⟨(twoq_zero.2 ⟨chk_int 0 (by omega) (by omega), chk_int 0 (by omega) (by omega)⟩), twoq_zero.2 ⟨chk_int 2 (by omega) (by omega), chk_int 0 (by omega) (by omega)⟩⟩), twoq_zero.2 ⟨chk_int 0 (by omega) (by omega), chk_int 2 (by omega) (by omega)⟩⟩), twoq_zero.2 ⟨chk_int 1 (by omega) (by omega), chk_int 1 (by omega) (by omega)⟩⟩)
  simp only [qOf_int] at this
  rw [if_neg (show ¬ Gm.sg (Gm.cr ((0 : Int) : Rat) ((0 : Int) : Rat) ((2 : Int) : Rat) ((0 : Int) : Rat) ((0 : Int) : Rat) ((2 : Int) : Rat)) = 0 by decide +kernel), show Gm.sg (Gm.cr ((0 : Int) : Rat) ((0 : Int) : Rat) ((2 : Int) : Rat) ((0 : Int) : Rat) ((0 : Int) : Rat) ((2 : Int) : Rat)) = 1 by decide +kernel, show Gm.sg (Gm.ci ((0 : Int) : Rat) ((0 : Int) : Rat) ((2 : Int) : Rat) ((0 : Int) : Rat) ((0 : Int) : Rat) ((2 : Int) : Rat) ((1 : Int) : Rat) ((1 : Int) : Rat)) = 1 by decide +kernel] at this
  exact this
 ·intro w1 b
  have := gMeet_an (nfZ 0) (nfZ 0) (nfZ 2) (nfZ 2) (nfZ 0) (nfZ 2) (nfZ 2) (nfZ 0) (sfZ 0) ⟨#[1]⟩ (sfZ 0) ⟨#[1]⟩ (sfZ 2) ⟨#[1]⟩ (sfZ 2) ⟨#[1]⟩ (sfZ 0) ⟨#[1]⟩ (sfZ 2) ⟨#[1]⟩ (sfZ 2) ⟨#[1]⟩ (sfZ 0) ⟨#[1]⟩ w1 (hT.below b) (sz5_int 0 (by omega) (by omega)) (sz5_int 0 (by omega) (by omega)) (sz5_int 2 (by omega) (by omega)) (sz5_int 2 (by omega) (by omega)) (sz5_int 0 (by omega) (by omega)) (sz5_int 2 (by omega) (by omega)) (sz5_int 2 (by omega) (by omega)) (sz5_int 0 (by omega) (by omega)) (two_zero.2 ⟨(two_zero.2 ⟨(two_zero.2 ⟨(twoq_zero.2 ⟨chk_int 0 (by omega) (by omega), chk_int 0 (by omega) (by omega)⟩), twoq_zero.2 ⟨chk_int 2 (by omega) (by omega), chk_int 2 (by omega) (by omega)⟩⟩), twoq_zero.2 ⟨chk_int 0 (by omega) (by omega), chk_int 2 (by omega) (by omega)⟩⟩), twoq_zero.2 ⟨chk_int 2 (by omega) (by omega), chk_int 0 (by omega) (by omega)⟩⟩)
  simp only [qOf_int] at this
  rw [show mt (Gm.sg (Gm.cr ((0 : Int) : Rat) ((0 : Int) : Rat) ((2 : Int) : Rat) ((2 : Int) : Rat) ((0 : Int) : Rat) ((2 : Int) : Rat))) (Gm.sg (Gm.cr ((0 : Int) : Rat) ((0 : Int) : Rat) ((2 : Int) : Rat) ((2 : Int) : Rat) ((2 : Int) : Rat) ((0 : Int) : Rat))) (Gm.sg (Gm.cr ((0 : Int) : Rat) ((2 : Int) : Rat) ((2 : Int) : Rat) ((0 : Int) : Rat) ((0 : Int) : Rat) ((0 : Int) : Rat))) (Gm.sg (Gm.cr ((0 : Int) : Rat) ((2 : Int) : Rat) ((2 : Int) : Rat) ((0 : Int) : Rat) ((2 : Int) : Rat) ((2 : Int) : Rat))) (-(Gm.sg (Gm.dt ((0 : Int) : Rat) ((0 : Int) : Rat) ((2 : Int) : Rat) ((2 : Int) : Rat) ((0 : Int) : Rat) ((2 : Int) : Rat)))) (-(Gm.sg (Gm.dt ((0 : Int) : Rat) ((0 : Int) : Rat) ((2 : Int) : Rat) ((2 : Int) : Rat) ((2 : Int) : Rat) ((0 : Int) : Rat)))) (-(Gm.sg (Gm.dt ((0 : Int) : Rat) ((2 : Int) : Rat) ((2 : Int) : Rat) ((0 : Int) : Rat) ((0 : Int) : Rat) ((0 : Int) : Rat)))) (-(Gm.sg (Gm.dt ((0 : Int) : Rat) ((2 : Int) : Rat) ((2 : Int) : Rat) ((0 : Int) : Rat) ((2 : Int) : Rat) ((2 : Int) : Rat)))) = 1 by decide +kernel] at this
  exact this
 ·intro w1 b
  have := gCircle_an (nfZ 0) (nfZ 0) (nfZ 1) (nfZ 0) (nfZ 2) (nfZ 0) (nfZ 1) (nfZ 1) (sfZ 0) ⟨#[1]⟩ (sfZ 0) ⟨#[1]⟩ (sfZ 1) ⟨#[1]⟩ (sfZ 0) ⟨#[1]⟩ (sfZ 2) ⟨#[1]⟩ (sfZ 0) ⟨#[1]⟩ (sfZ 1) ⟨#[1]⟩ (sfZ 1) ⟨#[1]⟩ w1 (hT.below b) (sz5_int 0 (by omega) (by omega)) (sz5_int 0 (by omega) (by omega)) (sz5_int 1 (by omega) (by omega)) (sz5_int 0 (by omega) (by omega)) (sz5_int 2 (by omega) (by omega)) (sz5_int 0 (by omega) (by omega)) (sz5_int 1 (by omega) (by omega)) (sz5_int 1 (by omega) (by omega)) (two_zero.2 ⟨(two_zero.2 ⟨(two_zero.2 ⟨(twoq_zero.2 ⟨chk_int 0 (by omega) (by omega), chk_int 0 (by omega) (by omega)⟩), twoq_zero.2 ⟨chk_int 1 (by omega) (by omega), chk_int 0 (by omega) (by omega)⟩⟩), twoq_zero.2 ⟨chk_int 2 (by omega) (by omega), chk_int 0 (by omega) (by omega)⟩⟩), twoq_zero.2 ⟨chk_int 1 (by omega) (by omega), chk_int 1 (by omega) (by omega)⟩⟩)
  simp only [qOf_int] at this
  rw [if_pos (show Gm.sg (Gm.cr ((0 : Int) : Rat) ((0 : Int) : Rat) ((1 : Int) : Rat) ((0 : Int) : Rat) ((2 : Int) : Rat) ((0 : Int) : Rat)) = 0 by decide +kernel)] at this
  exact this
 ·intro w1 b
  have := gOrient_an (nfZ 0) (nfZ 0) (nfZ 1) (nfZ 0) (nfZ 0) (nfZ 1) (sfZ 0) ⟨#[1]⟩ (sfZ 0) ⟨#[1]⟩ (sfZ 1) ⟨#[1]⟩ (sfZ 0) ⟨#[1]⟩ (sfZ 0) ⟨#[1]⟩ (sfZ 1) ⟨#[1]⟩ w1 (hT.below b) (sz5_int 0 (by omega) (by omega)) (sz5_int 0 (by omega) (by omega)) (sz5_int 1 (by omega) (by omega)) (sz5_int 0 (by omega) (by omega)) (sz5_int 0 (by omega) (by omega)) (sz5_int 1 (by omega) (by omega)) (two_zero.2 ⟨(two_zero.2 ⟨(twoq_zero.2 ⟨chk_int 0 (by omega) (by omega), chk_int 0 (by omega) (by omega)⟩), twoq_zero.2 ⟨chk_int 1 (by omega) (by omega), chk_int 0 (by omega) (by omega)⟩⟩), twoq_zero.2 ⟨chk_int 0 (by omega) (by omega), chk_int 1 (by omega) (by omega)⟩⟩)
  simp only [qOf_int] at this
  rw [show Gm.sg (Gm.cr ((0 : Int) : Rat) ((0 : Int) : Rat) ((1 : Int) : Rat) ((0 : Int) : Rat) ((0 : Int) : Rat) ((1 : Int) : Rat)) = 1 by decide +kernel] at this
  exact this
open Go.RowKit
theorem mt_rmt {C D A B tC tD tA tB : Int} (h3 : A = 0 → 0 ≤ tA → C * D ≤ 0) (h4 : B = 0 → 0 ≤ tB → C * D ≤ 0) : mt C D A B tC tD tA tB = rmt (decide (C = 0) && decide (0 ≤ tC)) (decide (D = 0) && decide (0 ≤ tD)) (decide (A = 0) && decide (0 ≤ tA)) (decide (B = 0) && decide (0 ≤ tB)) C D A B := by
 unfold mt rmt
 simp only [Bool.or_eq_true, Bool.and_eq_true, decide_eq_true_eq, or_assoc]
 by_cases h : 0 < C * D
 ·rw [if_pos h, if_neg, if_neg (fun q => by omega)]
  rintro (⟨a, -⟩ | ⟨a, -⟩ | ⟨a, b⟩ | ⟨a, b⟩)
  ·rw [a, Int.zero_mul] at h; omega
  ·rw [a, Int.mul_zero] at h; omega
  ·have := h3 a b; omega
  ·have := h4 a b; omega
 ·rw [if_neg h]
theorem rmeetI (r0 r1 r2 r3 r4 r5 r6 r7 : Rat) {K : Nat} (hK : K ≤ 60) (B0 : Bq r0 K) (B1 : Bq r1 K) (B2 : Bq r2 K) (B3 : Bq r3 K) (B4 : Bq r4 K) (B5 : Bq r5 K) (B6 : Bq r6 K) (B7 : Bq r7 K) (w : World) : Calls Tryz.prog 15 #[.agg #[.bool (nfZ (r0).num), .string (sfZ (r0).num), .string (strOf (r0).den), .bool (nfZ (r1).num), .string (sfZ (r1).num), .string (strOf (r1).den)], .agg #[.bool (nfZ (r2).num), .string (sfZ (r2).num), .string (strOf (r2).den), .bool (nfZ (r3).num), .string (sfZ (r3).num), .string (strOf (r3).den)], .agg #[.bool (nfZ (r4).num), .string (sfZ (r4).num), .string (strOf (r4).den), .bool (nfZ (r5).num), .string (sfZ (r5).num), .string (strOf (r5).den)], .agg #[.bool (nfZ (r6).num), .string (sfZ (r6).num), .string (strOf (r6).den), .bool (nfZ (r7).num), .string (sfZ (r7).num), .string (strOf (r7).den)]] w (Re w (.int .i64 (mt (Gm.sg (Gm.cr r0 r1 r2 r3 r4 r5)) (Gm.sg (Gm.cr r0 r1 r2 r3 r6 r7)) (Gm.sg (Gm.cr r4 r5 r6 r7 r0 r1)) (Gm.sg (Gm.cr r4 r5 r6 r7 r2 r3)) (-(Gm.sg (Gm.dt r0 r1 r2 r3 r4 r5))) (-(Gm.sg (Gm.dt r0 r1 r2 r3 r6 r7))) (-(Gm.sg (Gm.dt r4 r5 r6 r7 r0 r1))) (-(Gm.sg (Gm.dt r4 r5 r6 r7 r2 r3)))))) := by
 rw [mt_rmt (fun a b => Gm.on_sides a b) (fun a b => Gm.on_sides' a b)]
 exact rmeet_walk (nfZ (r0).num) (nfZ (r1).num) (nfZ (r2).num) (nfZ (r3).num) (nfZ (r4).num) (nfZ (r5).num) (nfZ (r6).num) (nfZ (r7).num) (sfZ (r0).num) (strOf (r0).den) (sfZ (r1).num) (strOf (r1).den) (sfZ (r2).num) (strOf (r2).den) (sfZ (r3).num) (strOf (r3).den) (sfZ (r4).num) (strOf (r4).den) (sfZ (r5).num) (strOf (r5).den) (sfZ (r6).num) (strOf (r6).den) (sfZ (r7).num) (strOf (r7).den) _ _ _ _ _ _ _ _ w (sg_wrap _ _) (sg_wrap _ _) (shut (sg_small _)) (shut (sg_small _)) (fun w1 => ronI r0 r1 r2 r3 r4 r5 (K := K) (by omega) B0 B1 B2 B3 B4 B5 w1) (fun w1 => ronI r0 r1 r2 r3 r6 r7 (K := K) (by omega) B0 B1 B2 B3 B6 B7 w1) (fun w1 => ronI r4 r5 r6 r7 r0 r1 (K := K) (by omega) B4 B5 B6 B7 B0 B1 w1) (fun w1 => ronI r4 r5 r6 r7 r2 r3 (K := K) (by omega) B4 B5 B6 B7 B2 B3 w1) (fun w1 => rorientI r0 r1 r2 r3 r4 r5 (K := K) (by omega) B0 B1 B2 B3 B4 B5 w1) (fun w1 => rorientI r0 r1 r2 r3 r6 r7 (K := K) (by omega) B0 B1 B2 B3 B6 B7 w1) (fun w1 => rorientI r4 r5 r6 r7 r0 r1 (K := K) (by omega) B4 B5 B6 B7 B0 B1 w1) (fun w1 => rorientI r4 r5 r6 r7 r2 r3 (K := K) (by omega) B4 B5 B6 B7 B2 B3 w1)
theorem gCrossI (r0 r1 r2 r3 r4 r5 r6 r7 : Rat) {K : Nat} (hK : K ≤ 60) (B0 : Bq r0 K) (B1 : Bq r1 K) (B2 : Bq r2 K) (B3 : Bq r3 K) (B4 : Bq r4 K) (B5 : Bq r5 K) (B6 : Bq r6 K) (B7 : Bq r7 K) (hN : ¬ ((r2 - r0) * (r7 - r5) - (r3 - r1) * (r6 - r4)) = 0) (w : World) (hT : Tab w) : Calls Tryz.prog 12 #[.agg #[.bool (nfZ (r0).num), .string (sfZ (r0).num), .string (strOf (r0).den), .bool (nfZ (r1).num), .string (sfZ (r1).num), .string (strOf (r1).den)], .agg #[.bool (nfZ (r2).num), .string (sfZ (r2).num), .string (strOf (r2).den), .bool (nfZ (r3).num), .string (sfZ (r3).num), .string (strOf (r3).den)], .agg #[.bool (nfZ (r4).num), .string (sfZ (r4).num), .string (strOf (r4).den), .bool (nfZ (r5).num), .string (sfZ (r5).num), .string (strOf (r5).den)], .agg #[.bool (nfZ (r6).num), .string (sfZ (r6).num), .string (strOf (r6).den), .bool (nfZ (r7).num), .string (sfZ (r7).num), .string (strOf (r7).den)]] w (Re w (.tuple #[.agg #[.bool (nfZ (r0 + (r2 - r0) * (((r4 - r0) * (r7 - r5) - (r5 - r1) * (r6 - r4)) / ((r2 - r0) * (r7 - r5) - (r3 - r1) * (r6 - r4)))).num), .string (sfZ (r0 + (r2 - r0) * (((r4 - r0) * (r7 - r5) - (r5 - r1) * (r6 - r4)) / ((r2 - r0) * (r7 - r5) - (r3 - r1) * (r6 - r4)))).num), .string (strOf (r0 + (r2 - r0) * (((r4 - r0) * (r7 - r5) - (r5 - r1) * (r6 - r4)) / ((r2 - r0) * (r7 - r5) - (r3 - r1) * (r6 - r4)))).den), .bool (nfZ (r1 + (r3 - r1) * (((r4 - r0) * (r7 - r5) - (r5 - r1) * (r6 - r4)) / ((r2 - r0) * (r7 - r5) - (r3 - r1) * (r6 - r4)))).num), .string (sfZ (r1 + (r3 - r1) * (((r4 - r0) * (r7 - r5) - (r5 - r1) * (r6 - r4)) / ((r2 - r0) * (r7 - r5) - (r3 - r1) * (r6 - r4)))).num), .string (strOf (r1 + (r3 - r1) * (((r4 - r0) * (r7 - r5) - (r5 - r1) * (r6 - r4)) / ((r2 - r0) * (r7 - r5) - (r3 - r1) * (r6 - r4)))).den)], .int .i64 0])) :=
 gCross_ok (nfZ (r0).num) (nfZ (r1).num) (nfZ (r2).num) (nfZ (r3).num) (nfZ (r4).num) (nfZ (r5).num) (nfZ (r6).num) (nfZ (r7).num) (sfZ (r0).num) (strOf (r0).den) (sfZ (r1).num) (strOf (r1).den) (sfZ (r2).num) (strOf (r2).den) (sfZ (r3).num) (strOf (r3).den) (sfZ (r4).num) (strOf (r4).den) (sfZ (r5).num) (strOf (r5).den) (sfZ (r6).num) (strOf (r6).den) (sfZ (r7).num) (strOf (r7).den) _ _ _ _ _ _ _ _ _ _ _ _ _ _ _ _ _ _ _ _ _ _ _ _ _ _ _ _ _ _ _ _ _ _ _ _ _ _ _ w (fun w1 B b h => by have := scheck4 B (nfZ (r0).num) (nfZ (r1).num) (nfZ (r2).num) (nfZ (r3).num) (nfZ (r4).num) (nfZ (r5).num) (nfZ (r6).num) (nfZ (r7).num) (sfZ (r0).num) (strOf (r0).den) (sfZ (r1).num) (strOf (r1).den) (sfZ (r2).num) (strOf (r2).den) (sfZ (r3).num) (strOf (r3).den) (sfZ (r4).num) (strOf (r4).den) (sfZ (r5).num) (strOf (r5).den) (sfZ (r6).num) (strOf (r6).den) (sfZ (r7).num) (strOf (r7).den) w1 (hT.below b) h (bq_sz (K := K) (by omega) B0) (bq_sz (K := K) (by omega) B1) (bq_sz (K := K) (by omega) B2) (bq_sz (K := K) (by omega) B3) (bq_sz (K := K) (by omega) B4) (bq_sz (K := K) (by omega) B5) (bq_sz (K := K) (by omega) B6) (bq_sz (K := K) (by omega) B7); rwa [(two_zero.2 ⟨two_zero.2 ⟨two_zero.2 ⟨twoq_zero.2 ⟨chk_can8 r0 (K := K) (by omega) B0, chk_can8 r1 (K := K) (by omega) B1⟩, twoq_zero.2 ⟨chk_can8 r2 (K := K) (by omega) B2, chk_can8 r3 (K := K) (by omega) B3⟩⟩, twoq_zero.2 ⟨chk_can8 r4 (K := K) (by omega) B4, chk_can8 r5 (K := K) (by omega) B5⟩⟩, twoq_zero.2 ⟨chk_can8 r6 (K := K) (by omega) B6, chk_can8 r7 (K := K) (by omega) B7⟩⟩)] at this) (fun w1 b => vminusI r2 r3 r0 r1 (K := K) (by omega) B2 B3 B0 B1 w1 (hT.below b)) (fun w1 b => vminusI r6 r7 r4 r5 (K := K) (by omega) B6 B7 B4 B5 w1 (hT.below b)) (fun w1 b => vminusI r4 r5 r0 r1 (K := K) (by omega) B4 B5 B0 B1 w1 (hT.below b)) (fun w1 b => vcrossI (r2 - r0) (r3 - r1) (r6 - r4) (r7 - r5) (K := (K + K + 1)) (by omega) (vq_sub B2 B0) (vq_sub B3 B1) (vq_sub B6 B4) (vq_sub B7 B5) w1 (hT.below b)) (fun w1 b => vcrossI (r4 - r0) (r5 - r1) (r6 - r4) (r7 - r5) (K := (K + K + 1)) (by omega) (vq_sub B4 B0) (vq_sub B5 B1) (vq_sub B6 B4) (vq_sub B7 B5) w1 (hT.below b)) (fun w1 b => qdivI ((r4 - r0) * (r7 - r5) - (r5 - r1) * (r6 - r4)) ((r2 - r0) * (r7 - r5) - (r3 - r1) * (r6 - r4)) (K := ((K + K + 1) + (K + K + 1) + 1 + ((K + K + 1) + (K + K + 1) + 1) + 1)) (by omega) (vq_sub (vq_mul (vq_sub B4 B0) (vq_sub B7 B5)) (vq_mul (vq_sub B5 B1) (vq_sub B6 B4))) (vq_sub (vq_mul (vq_sub B2 B0) (vq_sub B7 B5)) (vq_mul (vq_sub B3 B1) (vq_sub B6 B4))) hN w1 (hT.below b)) (fun w1 b => vscaleI (r2 - r0) (r3 - r1) (((r4 - r0) * (r7 - r5) - (r5 - r1) * (r6 - r4)) / ((r2 - r0) * (r7 - r5) - (r3 - r1) * (r6 - r4))) (K := (((K + K + 1) + (K + K + 1) + 1 + ((K + K + 1) + (K + K + 1) + 1) + 1) + ((K + K + 1) + (K + K + 1) + 1 + ((K + K + 1) + (K + K + 1) + 1) + 1) + 1)) (by omega) (Bq.mono (vq_sub B2 B0) (by omega)) (Bq.mono (vq_sub B3 B1) (by omega)) (vq_div (vq_sub (vq_mul (vq_sub B4 B0) (vq_sub B7 B5)) (vq_mul (vq_sub B5 B1) (vq_sub B6 B4))) (vq_sub (vq_mul (vq_sub B2 B0) (vq_sub B7 B5)) (vq_mul (vq_sub B3 B1) (vq_sub B6 B4)))) w1 (hT.below b)) (fun w1 b => vplusI r0 r1 ((r2 - r0) * (((r4 - r0) * (r7 - r5) - (r5 - r1) * (r6 - r4)) / ((r2 - r0) * (r7 - r5) - (r3 - r1) * (r6 - r4)))) ((r3 - r1) * (((r4 - r0) * (r7 - r5) - (r5 - r1) * (r6 - r4)) / ((r2 - r0) * (r7 - r5) - (r3 - r1) * (r6 - r4)))) (K := ((((K + K + 1) + (K + K + 1) + 1 + ((K + K + 1) + (K + K + 1) + 1) + 1) + ((K + K + 1) + (K + K + 1) + 1 + ((K + K + 1) + (K + K + 1) + 1) + 1) + 1) + (((K + K + 1) + (K + K + 1) + 1 + ((K + K + 1) + (K + K + 1) + 1) + 1) + ((K + K + 1) + (K + K + 1) + 1 + ((K + K + 1) + (K + K + 1) + 1) + 1) + 1) + 1)) (by omega) (Bq.mono B0 (by omega)) (Bq.mono B1 (by omega)) (vq_mul (Bq.mono (vq_sub B2 B0) (by omega)) (vq_div (vq_sub (vq_mul (vq_sub B4 B0) (vq_sub B7 B5)) (vq_mul (vq_sub B5 B1) (vq_sub B6 B4))) (vq_sub (vq_mul (vq_sub B2 B0) (vq_sub B7 B5)) (vq_mul (vq_sub B3 B1) (vq_sub B6 B4))))) (vq_mul (Bq.mono (vq_sub B3 B1) (by omega)) (vq_div (vq_sub (vq_mul (vq_sub B4 B0) (vq_sub B7 B5)) (vq_mul (vq_sub B5 B1) (vq_sub B6 B4))) (vq_sub (vq_mul (vq_sub B2 B0) (vq_sub B7 B5)) (vq_mul (vq_sub B3 B1) (vq_sub B6 B4))))) w1 (hT.below b))
theorem gCrossI0 (r0 r1 r2 r3 r4 r5 r6 r7 : Rat) {K : Nat} (hK : K ≤ 60) (B0 : Bq r0 K) (B1 : Bq r1 K) (B2 : Bq r2 K) (B3 : Bq r3 K) (B4 : Bq r4 K) (B5 : Bq r5 K) (B6 : Bq r6 K) (B7 : Bq r7 K) (hN : ((r2 - r0) * (r7 - r5) - (r3 - r1) * (r6 - r4)) = 0) (w : World) (hT : Tab w) : Calls Tryz.prog 12 #[.agg #[.bool (nfZ (r0).num), .string (sfZ (r0).num), .string (strOf (r0).den), .bool (nfZ (r1).num), .string (sfZ (r1).num), .string (strOf (r1).den)], .agg #[.bool (nfZ (r2).num), .string (sfZ (r2).num), .string (strOf (r2).den), .bool (nfZ (r3).num), .string (sfZ (r3).num), .string (strOf (r3).den)], .agg #[.bool (nfZ (r4).num), .string (sfZ (r4).num), .string (strOf (r4).den), .bool (nfZ (r5).num), .string (sfZ (r5).num), .string (strOf (r5).den)], .agg #[.bool (nfZ (r6).num), .string (sfZ (r6).num), .string (strOf (r6).den), .bool (nfZ (r7).num), .string (sfZ (r7).num), .string (strOf (r7).den)]] w (Re w (.tuple #[.agg #[.bool false, .string { data := #[] }, .string { data := #[] }, .bool false, .string { data := #[] }, .string { data := #[] }], .int .i64 6])) :=
 gCross_flat (nfZ (r0).num) (nfZ (r1).num) (nfZ (r2).num) (nfZ (r3).num) (nfZ (r4).num) (nfZ (r5).num) (nfZ (r6).num) (nfZ (r7).num) (sfZ (r0).num) (strOf (r0).den) (sfZ (r1).num) (strOf (r1).den) (sfZ (r2).num) (strOf (r2).den) (sfZ (r3).num) (strOf (r3).den) (sfZ (r4).num) (strOf (r4).den) (sfZ (r5).num) (strOf (r5).den) (sfZ (r6).num) (strOf (r6).den) (sfZ (r7).num) (strOf (r7).den) _ _ _ _ _ _ _ _ _ _ _ _ _ _ _ _ _ _ _ _ _ _ _ _ 3 (by omega) w (fun w1 B b h => by have := scheck4 B (nfZ (r0).num) (nfZ (r1).num) (nfZ (r2).num) (nfZ (r3).num) (nfZ (r4).num) (nfZ (r5).num) (nfZ (r6).num) (nfZ (r7).num) (sfZ (r0).num) (strOf (r0).den) (sfZ (r1).num) (strOf (r1).den) (sfZ (r2).num) (strOf (r2).den) (sfZ (r3).num) (strOf (r3).den) (sfZ (r4).num) (strOf (r4).den) (sfZ (r5).num) (strOf (r5).den) (sfZ (r6).num) (strOf (r6).den) (sfZ (r7).num) (strOf (r7).den) w1 (hT.below b) h (bq_sz (K := K) (by omega) B0) (bq_sz (K := K) (by omega) B1) (bq_sz (K := K) (by omega) B2) (bq_sz (K := K) (by omega) B3) (bq_sz (K := K) (by omega) B4) (bq_sz (K := K) (by omega) B5) (bq_sz (K := K) (by omega) B6) (bq_sz (K := K) (by omega) B7); rwa [(two_zero.2 ⟨two_zero.2 ⟨two_zero.2 ⟨twoq_zero.2 ⟨chk_can8 r0 (K := K) (by omega) B0, chk_can8 r1 (K := K) (by omega) B1⟩, twoq_zero.2 ⟨chk_can8 r2 (K := K) (by omega) B2, chk_can8 r3 (K := K) (by omega) B3⟩⟩, twoq_zero.2 ⟨chk_can8 r4 (K := K) (by omega) B4, chk_can8 r5 (K := K) (by omega) B5⟩⟩, twoq_zero.2 ⟨chk_can8 r6 (K := K) (by omega) B6, chk_can8 r7 (K := K) (by omega) B7⟩⟩)] at this) (fun w1 b => vminusI r2 r3 r0 r1 (K := K) (by omega) B2 B3 B0 B1 w1 (hT.below b)) (fun w1 b => vminusI r6 r7 r4 r5 (K := K) (by omega) B6 B7 B4 B5 w1 (hT.below b)) (fun w1 b => vminusI r4 r5 r0 r1 (K := K) (by omega) B4 B5 B0 B1 w1 (hT.below b)) (fun w1 b => vcrossI (r2 - r0) (r3 - r1) (r6 - r4) (r7 - r5) (K := (K + K + 1)) (by omega) (vq_sub B2 B0) (vq_sub B3 B1) (vq_sub B6 B4) (vq_sub B7 B5) w1 (hT.below b)) (fun w1 b => vcrossI (r4 - r0) (r5 - r1) (r6 - r4) (r7 - r5) (K := (K + K + 1)) (by omega) (vq_sub B4 B0) (vq_sub B5 B1) (vq_sub B6 B4) (vq_sub B7 B5) w1 (hT.below b)) (fun w1 b => qdivI0 ((r4 - r0) * (r7 - r5) - (r5 - r1) * (r6 - r4)) ((r2 - r0) * (r7 - r5) - (r3 - r1) * (r6 - r4)) (K := ((K + K + 1) + (K + K + 1) + 1 + ((K + K + 1) + (K + K + 1) + 1) + 1)) (by omega) (vq_sub (vq_mul (vq_sub B4 B0) (vq_sub B7 B5)) (vq_mul (vq_sub B5 B1) (vq_sub B6 B4))) (vq_sub (vq_mul (vq_sub B2 B0) (vq_sub B7 B5)) (vq_mul (vq_sub B3 B1) (vq_sub B6 B4))) hN w1 (hT.below b))
theorem rcrossI2 (r0 r1 r2 r3 r4 r5 r6 r7 : Rat) {K : Nat} (hK : K ≤ 60) (B0 : Bq r0 K) (B1 : Bq r1 K) (B2 : Bq r2 K) (B3 : Bq r3 K) (B4 : Bq r4 K) (B5 : Bq r5 K) (B6 : Bq r6 K) (B7 : Bq r7 K) (hN : ¬ ((r2 - r0) * (r7 - r5) - (r3 - r1) * (r6 - r4)) = 0) (w : World) : Calls Tryz.prog 14 #[.agg #[.bool (nfZ (r0).num), .string (sfZ (r0).num), .string (strOf (r0).den), .bool (nfZ (r1).num), .string (sfZ (r1).num), .string (strOf (r1).den)], .agg #[.bool (nfZ (r2).num), .string (sfZ (r2).num), .string (strOf (r2).den), .bool (nfZ (r3).num), .string (sfZ (r3).num), .string (strOf (r3).den)], .agg #[.bool (nfZ (r4).num), .string (sfZ (r4).num), .string (strOf (r4).den), .bool (nfZ (r5).num), .string (sfZ (r5).num), .string (strOf (r5).den)], .agg #[.bool (nfZ (r6).num), .string (sfZ (r6).num), .string (strOf (r6).den), .bool (nfZ (r7).num), .string (sfZ (r7).num), .string (strOf (r7).den)]] w (Re w (.tuple #[.agg #[.bool (nfZ (r0 + (r2 - r0) * (((r4 - r0) * (r7 - r5) - (r5 - r1) * (r6 - r4)) / ((r2 - r0) * (r7 - r5) - (r3 - r1) * (r6 - r4)))).num), .string (sfZ (r0 + (r2 - r0) * (((r4 - r0) * (r7 - r5) - (r5 - r1) * (r6 - r4)) / ((r2 - r0) * (r7 - r5) - (r3 - r1) * (r6 - r4)))).num), .string (strOf (r0 + (r2 - r0) * (((r4 - r0) * (r7 - r5) - (r5 - r1) * (r6 - r4)) / ((r2 - r0) * (r7 - r5) - (r3 - r1) * (r6 - r4)))).den), .bool (nfZ (r1 + (r3 - r1) * (((r4 - r0) * (r7 - r5) - (r5 - r1) * (r6 - r4)) / ((r2 - r0) * (r7 - r5) - (r3 - r1) * (r6 - r4)))).num), .string (sfZ (r1 + (r3 - r1) * (((r4 - r0) * (r7 - r5) - (r5 - r1) * (r6 - r4)) / ((r2 - r0) * (r7 - r5) - (r3 - r1) * (r6 - r4)))).num), .string (strOf (r1 + (r3 - r1) * (((r4 - r0) * (r7 - r5) - (r5 - r1) * (r6 - r4)) / ((r2 - r0) * (r7 - r5) - (r3 - r1) * (r6 - r4)))).den)], .bool true])) :=
 rcrs_ok _ _ _ _ _ _ _ _ _ _ _ _ _ _ _ _ _ _ _ _ _ _ _ _ _ _ _ _ _ _ _ _ _ _ _ _ _ _ _ _ _ _ _ _ _ _ _ _ _ _ _ _ _ _ _ _ _ _ _ _ _ _ _ (Gm.sg ((r2 - r0) * (r7 - r5) - (r3 - r1) * (r6 - r4))) (beq_eq_false_iff_ne.2 (fun h => hN (Gm.sg_eq_zero.1 h))) w (fun w1 => rminusP r2 r3 r0 r1 (K := K) (by omega) B2 B3 B0 B1 w1) (fun w1 => rminusP r6 r7 r4 r5 (K := K) (by omega) B6 B7 B4 B5 w1) (fun w1 => rcrossP (r2 - r0) (r3 - r1) (r6 - r4) (r7 - r5) (K := (K + K + 1)) (by omega) (vq_sub B2 B0) (vq_sub B3 B1) (vq_sub B6 B4) (vq_sub B7 B5) w1) (fun w1 => rsignI _ w1) (fun w1 => rminusP r4 r5 r0 r1 (K := K) (by omega) B4 B5 B0 B1 w1) (fun w1 => rcrossP (r4 - r0) (r5 - r1) (r6 - r4) (r7 - r5) (K := (K + K + 1)) (by omega) (vq_sub B4 B0) (vq_sub B5 B1) (vq_sub B6 B4) (vq_sub B7 B5) w1) (fun w1 => roverI ((r4 - r0) * (r7 - r5) - (r5 - r1) * (r6 - r4)) ((r2 - r0) * (r7 - r5) - (r3 - r1) * (r6 - r4)) (K := ((K + K + 1) + (K + K + 1) + 1 + ((K + K + 1) + (K + K + 1) + 1) + 1)) (by omega) (vq_sub (vq_mul (vq_sub B4 B0) (vq_sub B7 B5)) (vq_mul (vq_sub B5 B1) (vq_sub B6 B4))) (vq_sub (vq_mul (vq_sub B2 B0) (vq_sub B7 B5)) (vq_mul (vq_sub B3 B1) (vq_sub B6 B4))) hN w1) (fun w1 => rscaleP (r2 - r0) (r3 - r1) (((r4 - r0) * (r7 - r5) - (r5 - r1) * (r6 - r4)) / ((r2 - r0) * (r7 - r5) - (r3 - r1) * (r6 - r4))) (K := (((K + K + 1) + (K + K + 1) + 1 + ((K + K + 1) + (K + K + 1) + 1) + 1) + ((K + K + 1) + (K + K + 1) + 1 + ((K + K + 1) + (K + K + 1) + 1) + 1) + 1)) (by omega) (Bq.mono (vq_sub B2 B0) (by omega)) (Bq.mono (vq_sub B3 B1) (by omega)) (vq_div (vq_sub (vq_mul (vq_sub B4 B0) (vq_sub B7 B5)) (vq_mul (vq_sub B5 B1) (vq_sub B6 B4))) (vq_sub (vq_mul (vq_sub B2 B0) (vq_sub B7 B5)) (vq_mul (vq_sub B3 B1) (vq_sub B6 B4)))) w1) (fun w1 => rplusP r0 r1 ((r2 - r0) * (((r4 - r0) * (r7 - r5) - (r5 - r1) * (r6 - r4)) / ((r2 - r0) * (r7 - r5) - (r3 - r1) * (r6 - r4)))) ((r3 - r1) * (((r4 - r0) * (r7 - r5) - (r5 - r1) * (r6 - r4)) / ((r2 - r0) * (r7 - r5) - (r3 - r1) * (r6 - r4)))) (K := ((((K + K + 1) + (K + K + 1) + 1 + ((K + K + 1) + (K + K + 1) + 1) + 1) + ((K + K + 1) + (K + K + 1) + 1 + ((K + K + 1) + (K + K + 1) + 1) + 1) + 1) + (((K + K + 1) + (K + K + 1) + 1 + ((K + K + 1) + (K + K + 1) + 1) + 1) + ((K + K + 1) + (K + K + 1) + 1 + ((K + K + 1) + (K + K + 1) + 1) + 1) + 1) + 1)) (by omega) (Bq.mono B0 (by omega)) (Bq.mono B1 (by omega)) (vq_mul (Bq.mono (vq_sub B2 B0) (by omega)) (vq_div (vq_sub (vq_mul (vq_sub B4 B0) (vq_sub B7 B5)) (vq_mul (vq_sub B5 B1) (vq_sub B6 B4))) (vq_sub (vq_mul (vq_sub B2 B0) (vq_sub B7 B5)) (vq_mul (vq_sub B3 B1) (vq_sub B6 B4))))) (vq_mul (Bq.mono (vq_sub B3 B1) (by omega)) (vq_div (vq_sub (vq_mul (vq_sub B4 B0) (vq_sub B7 B5)) (vq_mul (vq_sub B5 B1) (vq_sub B6 B4))) (vq_sub (vq_mul (vq_sub B2 B0) (vq_sub B7 B5)) (vq_mul (vq_sub B3 B1) (vq_sub B6 B4))))) w1)
theorem rcrossI0 (r0 r1 r2 r3 r4 r5 r6 r7 : Rat) {K : Nat} (hK : K ≤ 60) (B0 : Bq r0 K) (B1 : Bq r1 K) (B2 : Bq r2 K) (B3 : Bq r3 K) (B4 : Bq r4 K) (B5 : Bq r5 K) (B6 : Bq r6 K) (B7 : Bq r7 K) (hN : ((r2 - r0) * (r7 - r5) - (r3 - r1) * (r6 - r4)) = 0) (w : World) : Calls Tryz.prog 14 #[.agg #[.bool (nfZ (r0).num), .string (sfZ (r0).num), .string (strOf (r0).den), .bool (nfZ (r1).num), .string (sfZ (r1).num), .string (strOf (r1).den)], .agg #[.bool (nfZ (r2).num), .string (sfZ (r2).num), .string (strOf (r2).den), .bool (nfZ (r3).num), .string (sfZ (r3).num), .string (strOf (r3).den)], .agg #[.bool (nfZ (r4).num), .string (sfZ (r4).num), .string (strOf (r4).den), .bool (nfZ (r5).num), .string (sfZ (r5).num), .string (strOf (r5).den)], .agg #[.bool (nfZ (r6).num), .string (sfZ (r6).num), .string (strOf (r6).den), .bool (nfZ (r7).num), .string (sfZ (r7).num), .string (strOf (r7).den)]] w (Re w (.tuple #[.agg #[.bool false, .string { data := #[] }, .string { data := #[] }, .bool false, .string { data := #[] }, .string { data := #[] }], .bool false])) :=
 rcrs_flat _ _ _ _ _ _ _ _ _ _ _ _ _ _ _ _ _ _ _ _ _ _ _ _ _ _ _ _ _ _ _ _ _ _ _ _ _ _ _ w (fun w1 => rminusP r2 r3 r0 r1 (K := K) (by omega) B2 B3 B0 B1 w1) (fun w1 => rminusP r6 r7 r4 r5 (K := K) (by omega) B6 B7 B4 B5 w1) (fun w1 => rcrossP (r2 - r0) (r3 - r1) (r6 - r4) (r7 - r5) (K := (K + K + 1)) (by omega) (vq_sub B2 B0) (vq_sub B3 B1) (vq_sub B6 B4) (vq_sub B7 B5) w1) (fun w1 => by have := rsignI ((r2 - r0) * (r7 - r5) - (r3 - r1) * (r6 - r4)) w1; rwa [Gm.sg_eq_zero.2 hN] at this)
theorem meets5_law (n0 n1 n2 n3 n4 n5 n6 n7 : Bool) (s0 d0 s1 d1 s2 d2 s3 d3 s4 d4 s5 d5 s6 d6 s7 d7 : ByteArray) (w : World) (hT : Tab w) :
  Calls Tryz.prog 3 #[.agg #[.bool n0, .string s0, .string d0, .bool n1, .string s1, .string d1, .bool n2, .string s2, .string d2, .bool n3, .string s3, .string d3, .bool n4, .string s4, .string d4, .bool n5, .string s5, .string d5, .bool n6, .string s6, .string d6, .bool n7, .string s7, .string d7]] w (Re w (.bool true)) := by
 have HL : Hid (∀ w1, Below w.heap.size w w1 → Calls Tryz.prog 10 #[] w1 (Re w1 (.bool true))) := fun w1 b => live5_any w1 (hT.below b)
 cases hb : (sh5 s0 d0 && (sh5 s1 d1 && (sh5 s2 d2 && (sh5 s3 d3 && (sh5 s4 d4 && (sh5 s5 d5 && (sh5 s6 d6 && sh5 s7 d7)))))))
 ·exact meets5_l n0 n1 n2 n3 n4 n5 n6 n7 s0 d0 s1 d1 s2 d2 s3 d3 s4 d4 s5 d5 s6 d6 s7 d7 w (fun w1 => by have := small5_any n0 n1 n2 n3 n4 n5 n6 n7 s0 d0 s1 d1 s2 d2 s3 d3 s4 d4 s5 d5 s6 d6 s7 d7 w1; rwa [hb] at this) HL
 have HS : Hid (∀ w1, Calls Tryz.prog 9 #[.agg #[.bool n0, .string s0, .string d0, .bool n1, .string s1, .string d1, .bool n2, .string s2, .string d2, .bool n3, .string s3, .string d3, .bool n4, .string s4, .string d4, .bool n5, .string s5, .string d5, .bool n6, .string s6, .string d6, .bool n7, .string s7, .string d7]] w1 (Re w1 (.bool true))) := fun w1 => by have := small5_any n0 n1 n2 n3 n4 n5 n6 n7 s0 d0 s1 d1 s2 d2 s3 d3 s4 d4 s5 d5 s6 d6 s7 d7 w1; rwa [hb] at this
 simp only [Bool.and_eq_true] at hb
 obtain ⟨h0, h1, h2, h3, h4, h5, h6, h7⟩ := hb
 have y0 : s0.size ≤ 60 ∧ d0.size ≤ 60 := of_decide_eq_true h0
 have z0 : s0.size ≤ 100 ∧ d0.size ≤ 100 := ⟨Nat.le_trans y0.1 (by omega), Nat.le_trans y0.2 (by omega)⟩
 have y1 : s1.size ≤ 60 ∧ d1.size ≤ 60 := of_decide_eq_true h1
 have z1 : s1.size ≤ 100 ∧ d1.size ≤ 100 := ⟨Nat.le_trans y1.1 (by omega), Nat.le_trans y1.2 (by omega)⟩
 have y2 : s2.size ≤ 60 ∧ d2.size ≤ 60 := of_decide_eq_true h2
 have z2 : s2.size ≤ 100 ∧ d2.size ≤ 100 := ⟨Nat.le_trans y2.1 (by omega), Nat.le_trans y2.2 (by omega)⟩
 have y3 : s3.size ≤ 60 ∧ d3.size ≤ 60 := of_decide_eq_true h3
 have z3 : s3.size ≤ 100 ∧ d3.size ≤ 100 := ⟨Nat.le_trans y3.1 (by omega), Nat.le_trans y3.2 (by omega)⟩
 have y4 : s4.size ≤ 60 ∧ d4.size ≤ 60 := of_decide_eq_true h4
 have z4 : s4.size ≤ 100 ∧ d4.size ≤ 100 := ⟨Nat.le_trans y4.1 (by omega), Nat.le_trans y4.2 (by omega)⟩
 have y5 : s5.size ≤ 60 ∧ d5.size ≤ 60 := of_decide_eq_true h5
 have z5 : s5.size ≤ 100 ∧ d5.size ≤ 100 := ⟨Nat.le_trans y5.1 (by omega), Nat.le_trans y5.2 (by omega)⟩
 have y6 : s6.size ≤ 60 ∧ d6.size ≤ 60 := of_decide_eq_true h6
 have z6 : s6.size ≤ 100 ∧ d6.size ≤ 100 := ⟨Nat.le_trans y6.1 (by omega), Nat.le_trans y6.2 (by omega)⟩
 have y7 : s7.size ≤ 60 ∧ d7.size ≤ 60 := of_decide_eq_true h7
 have z7 : s7.size ≤ 100 ∧ d7.size ≤ 100 := ⟨Nat.le_trans y7.1 (by omega), Nat.le_trans y7.2 (by omega)⟩
 clear h0 h1 h2 h3 h4 h5 h6 h7
 by_cases hE : two (two (two (twoq n0 s0 d0 n1 s1 d1) (twoq n2 s2 d2 n3 s3 d3)) (twoq n4 s4 d4 n5 s5 d5)) (twoq n6 s6 d6 n7 s7 d7) = 0
 case neg =>
  refine meets5_bad n0 n1 n2 n3 n4 n5 n6 n7 s0 d0 s1 d1 s2 d2 s3 d3 s4 d4 s5 d5 s6 d6 s7 d7 ((two (two (two (twoq n0 s0 d0 n1 s1 d1) (twoq n2 s2 d2 n3 s3 d3)) (twoq n4 s4 d4 n5 s5 d5)) (twoq n6 s6 d6 n7 s7 d7) : Nat) : Int) w (by omega) HS HL (fun w1 b => gMeet_er n0 n1 n2 n3 n4 n5 n6 n7 s0 d0 s1 d1 s2 d2 s3 d3 s4 d4 s5 d5 s6 d6 s7 d7 w1 (hT.below b) (z0) (z1) (z2) (z3) (z4) (z5) (z6) (z7) hE) (fun w1 b => ?_) (fun w1 B b h => asked4 B n0 n1 n2 n3 n4 n5 n6 n7 s0 d0 s1 d1 s2 d2 s3 d3 s4 d4 s5 d5 s6 d6 s7 d7 w1 h (z0) (z1) (z2) (z3) (z4) (z5) (z6) (z7))
  exact gCross_bad n0 n1 n2 n3 n4 n5 n6 n7 s0 d0 s1 d1 s2 d2 s3 d3 s4 d4 s5 d5 s6 d6 s7 d7 ((two (two (two (twoq n0 s0 d0 n1 s1 d1) (twoq n2 s2 d2 n3 s3 d3)) (twoq n4 s4 d4 n5 s5 d5)) (twoq n6 s6 d6 n7 s7 d7) : Nat) : Int) (by omega) w1 (fun w2 B b2 h => scheck4 B n0 n1 n2 n3 n4 n5 n6 n7 s0 d0 s1 d1 s2 d2 s3 d3 s4 d4 s5 d5 s6 d6 s7 d7 w2 (hT.below (Below.after b b2)) h (z0) (z1) (z2) (z3) (z4) (z5) (z6) (z7))
 have hE' := hE
 rw [two_zero, two_zero, two_zero] at hE
 obtain ⟨⟨⟨tA, tB⟩, tC⟩, tD⟩ := hE
 have wA := twoq_zero.1 tA
 have o0 := (chkq_zero wA.1).1
 have o1 := (chkq_zero wA.2).1
 clear wA
 have wB := twoq_zero.1 tB
 have o2 := (chkq_zero wB.1).1
 have o3 := (chkq_zero wB.2).1
 clear wB
 have wC := twoq_zero.1 tC
 have o4 := (chkq_zero wC.1).1
 have o5 := (chkq_zero wC.2).1
 clear wC
 have wD := twoq_zero.1 tD
 have o6 := (chkq_zero wD.1).1
 have o7 := (chkq_zero wD.2).1
 clear wD
 obtain ⟨r0, rfl, rfl, rfl⟩ := okq_form o0
 have B0 : Bq r0 60 := by have := (okQ_qI r0).bq y0.1 y0.2; rwa [qOf_qI] at this
 clear o0
 obtain ⟨r1, rfl, rfl, rfl⟩ := okq_form o1
 have B1 : Bq r1 60 := by have := (okQ_qI r1).bq y1.1 y1.2; rwa [qOf_qI] at this
 clear o1
 obtain ⟨r2, rfl, rfl, rfl⟩ := okq_form o2
 have B2 : Bq r2 60 := by have := (okQ_qI r2).bq y2.1 y2.2; rwa [qOf_qI] at this
 clear o2
 obtain ⟨r3, rfl, rfl, rfl⟩ := okq_form o3
 have B3 : Bq r3 60 := by have := (okQ_qI r3).bq y3.1 y3.2; rwa [qOf_qI] at this
 clear o3
 obtain ⟨r4, rfl, rfl, rfl⟩ := okq_form o4
 have B4 : Bq r4 60 := by have := (okQ_qI r4).bq y4.1 y4.2; rwa [qOf_qI] at this
 clear o4
 obtain ⟨r5, rfl, rfl, rfl⟩ := okq_form o5
 have B5 : Bq r5 60 := by have := (okQ_qI r5).bq y5.1 y5.2; rwa [qOf_qI] at this
 clear o5
 obtain ⟨r6, rfl, rfl, rfl⟩ := okq_form o6
 have B6 : Bq r6 60 := by have := (okQ_qI r6).bq y6.1 y6.2; rwa [qOf_qI] at this
 clear o6
 obtain ⟨r7, rfl, rfl, rfl⟩ := okq_form o7
 have B7 : Bq r7 60 := by have := (okQ_qI r7).bq y7.1 y7.2; rwa [qOf_qI] at this
 clear o7
 have hM : Hid (∀ w1, Below w.heap.size w w1 → Calls Tryz.prog 11 #[.agg #[.bool (nfZ (r0).num), .string (sfZ (r0).num), .string (strOf (r0).den), .bool (nfZ (r1).num), .string (sfZ (r1).num), .string (strOf (r1).den)], .agg #[.bool (nfZ (r2).num), .string (sfZ (r2).num), .string (strOf (r2).den), .bool (nfZ (r3).num), .string (sfZ (r3).num), .string (strOf (r3).den)], .agg #[.bool (nfZ (r4).num), .string (sfZ (r4).num), .string (strOf (r4).den), .bool (nfZ (r5).num), .string (sfZ (r5).num), .string (strOf (r5).den)], .agg #[.bool (nfZ (r6).num), .string (sfZ (r6).num), .string (strOf (r6).den), .bool (nfZ (r7).num), .string (sfZ (r7).num), .string (strOf (r7).den)]] w1 (Re w1 (.tuple #[.int .i64 (mt (Gm.sg (Gm.cr r0 r1 r2 r3 r4 r5)) (Gm.sg (Gm.cr r0 r1 r2 r3 r6 r7)) (Gm.sg (Gm.cr r4 r5 r6 r7 r0 r1)) (Gm.sg (Gm.cr r4 r5 r6 r7 r2 r3)) (-(Gm.sg (Gm.dt r0 r1 r2 r3 r4 r5))) (-(Gm.sg (Gm.dt r0 r1 r2 r3 r6 r7))) (-(Gm.sg (Gm.dt r4 r5 r6 r7 r0 r1))) (-(Gm.sg (Gm.dt r4 r5 r6 r7 r2 r3)))), .int .i64 (0)]))) := (fun w1 b => by have := gMeet_an (nfZ r0.num) (nfZ r1.num) (nfZ r2.num) (nfZ r3.num) (nfZ r4.num) (nfZ r5.num) (nfZ r6.num) (nfZ r7.num) (sfZ r0.num) (strOf r0.den) (sfZ r1.num) (strOf r1.den) (sfZ r2.num) (strOf r2.den) (sfZ r3.num) (strOf r3.den) (sfZ r4.num) (strOf r4.den) (sfZ r5.num) (strOf r5.den) (sfZ r6.num) (strOf r6.den) (sfZ r7.num) (strOf r7.den) w1 (hT.below b) (z0) (z1) (z2) (z3) (z4) (z5) (z6) (z7) (two_zero.2 ⟨(two_zero.2 ⟨(two_zero.2 ⟨tA, tB⟩), tC⟩), tD⟩); simp only [qOf_one] at this; exact this)
 by_cases hN : ((r2 - r0) * (r7 - r5) - (r3 - r1) * (r6 - r4)) = 0
 ·exact meets5_flat (nfZ (r0).num) (nfZ (r1).num) (nfZ (r2).num) (nfZ (r3).num) (nfZ (r4).num) (nfZ (r5).num) (nfZ (r6).num) (nfZ (r7).num) (sfZ (r0).num) (strOf (r0).den) (sfZ (r1).num) (strOf (r1).den) (sfZ (r2).num) (strOf (r2).den) (sfZ (r3).num) (strOf (r3).den) (sfZ (r4).num) (strOf (r4).den) (sfZ (r5).num) (strOf (r5).den) (sfZ (r6).num) (strOf (r6).den) (sfZ (r7).num) (strOf (r7).den) _ w HS HL hM (fun w1 b => gCrossI0 r0 r1 r2 r3 r4 r5 r6 r7 (K := 60) (by omega) B0 B1 B2 B3 B4 B5 B6 B7 hN w1 (hT.below b)) (fun w1 B b h => by have := asked4 B (nfZ r0.num) (nfZ r1.num) (nfZ r2.num) (nfZ r3.num) (nfZ r4.num) (nfZ r5.num) (nfZ r6.num) (nfZ r7.num) (sfZ r0.num) (strOf r0.den) (sfZ r1.num) (strOf r1.den) (sfZ r2.num) (strOf r2.den) (sfZ r3.num) (strOf r3.den) (sfZ r4.num) (strOf r4.den) (sfZ r5.num) (strOf r5.den) (sfZ r6.num) (strOf r6.den) (sfZ r7.num) (strOf r7.den) w1 h (z0) (z1) (z2) (z3) (z4) (z5) (z6) (z7); rwa [hE'] at this) (fun w1 _ => rcrossI0 r0 r1 r2 r3 r4 r5 r6 r7 (K := 60) (by omega) B0 B1 B2 B3 B4 B5 B6 B7 hN w1) (fun w1 _ => rmeetI r0 r1 r2 r3 r4 r5 r6 r7 (K := 60) (by omega) B0 B1 B2 B3 B4 B5 B6 B7 w1)
 ·exact meets5_ok (nfZ (r0).num) (nfZ (r1).num) (nfZ (r2).num) (nfZ (r3).num) (nfZ (r4).num) (nfZ (r5).num) (nfZ (r6).num) (nfZ (r7).num) (sfZ (r0).num) (strOf (r0).den) (sfZ (r1).num) (strOf (r1).den) (sfZ (r2).num) (strOf (r2).den) (sfZ (r3).num) (strOf (r3).den) (sfZ (r4).num) (strOf (r4).den) (sfZ (r5).num) (strOf (r5).den) (sfZ (r6).num) (strOf (r6).den) (sfZ (r7).num) (strOf (r7).den) _ _ _ _ _ _ _ w HS HL hM (fun w1 b => gCrossI r0 r1 r2 r3 r4 r5 r6 r7 (K := 60) (by omega) B0 B1 B2 B3 B4 B5 B6 B7 hN w1 (hT.below b)) (fun w1 B b h => by have := asked4 B (nfZ r0.num) (nfZ r1.num) (nfZ r2.num) (nfZ r3.num) (nfZ r4.num) (nfZ r5.num) (nfZ r6.num) (nfZ r7.num) (sfZ r0.num) (strOf r0.den) (sfZ r1.num) (strOf r1.den) (sfZ r2.num) (strOf r2.den) (sfZ r3.num) (strOf r3.den) (sfZ r4.num) (strOf r4.den) (sfZ r5.num) (strOf r5.den) (sfZ r6.num) (strOf r6.den) (sfZ r7.num) (strOf r7.den) w1 h (z0) (z1) (z2) (z3) (z4) (z5) (z6) (z7); rwa [hE'] at this) (fun w1 _ => rcrossI2 r0 r1 r2 r3 r4 r5 r6 r7 (K := 60) (by omega) B0 B1 B2 B3 B4 B5 B6 B7 hN w1) (fun w1 _ => rmeetI r0 r1 r2 r3 r4 r5 r6 r7 (K := 60) (by omega) B0 B1 B2 B3 B4 B5 B6 B7 w1)
end Go.Proofs.YtmojdkjpcjfkeaaGreatDoor
