/-
  gussetref06: Near2, walked.
  Rational numbers in their one form: how long sums and products get; the reference's calls over them.
  gussetref05: Asked; signs and products of rational numbers in their one form.
  gussetref06: Near2, walked.
  Package span: a number over three others.
  gussetlaw06: ConsNear, walked; gussetref06: Least.
-/
import Derived.Test.YtmojdkjpcjfkeaaGreatDoorN43
set_option maxRecDepth 100000
set_option maxHeartbeats 16000000
namespace Go.Proofs.YtmojdkjpcjfkeaaGreatDoor
open Go.RowKit
theorem rnear_0 (n0 n1 n2 n3 n4 n5 : Bool) (s0 d0 s1 d1 s2 d2 s3 d3 s4 d4 s5 d5 : ByteArray) (xN : Bool) (xS xD : ByteArray) (yN : Bool) (yS yD : ByteArray) (eN : Bool) (eS eD : ByteArray) (u0 u3 : Bool) (u1 u2 u4 u5 : ByteArray) (nN : Bool) (nS nD : ByteArray) (sN : Int) (w : World) (h0 : (sN == 0) = true)
  (F1 : Hid (∀ w1, Below w.heap.size w w1 → Calls Tryz.prog 33 #[.agg #[.bool n4, .string s4, .string d4, .bool n5, .string s5, .string d5], .agg #[.bool n0, .string s0, .string d0, .bool n1, .string s1, .string d1]] w1 (Re w1 (.agg #[.bool xN, .string xS, .string xD]))))
  (F2 : Hid (∀ w1, Below w.heap.size w w1 → Calls Tryz.prog 33 #[.agg #[.bool n4, .string s4, .string d4, .bool n5, .string s5, .string d5], .agg #[.bool n2, .string s2, .string d2, .bool n3, .string s3, .string d3]] w1 (Re w1 (.agg #[.bool yN, .string yS, .string yD]))))
  (LE : Hid (∀ w1, Below w.heap.size w w1 → Calls Tryz.prog 64 #[.agg #[.bool xN, .string xS, .string xD], .agg #[.bool yN, .string yS, .string yD]] w1 (Re w1 (.agg #[.bool eN, .string eS, .string eD]))))
  (M1 : Hid (∀ w1, Below w.heap.size w w1 → Calls Tryz.prog 30 #[.agg #[.bool n2, .string s2, .string d2, .bool n3, .string s3, .string d3], .agg #[.bool n0, .string s0, .string d0, .bool n1, .string s1, .string d1]] w1 (Re w1 (.agg #[.bool u0, .string u1, .string u2, .bool u3, .string u4, .string u5]))))
  (N1 : Hid (∀ w1, Below w.heap.size w w1 → Calls Tryz.prog 65 #[.agg #[.bool u0, .string u1, .string u2, .bool u3, .string u4, .string u5]] w1 (Re w1 (.agg #[.bool nN, .string nS, .string nD]))))
  (SG : Hid (∀ w1, Below w.heap.size w w1 → Calls Tryz.prog 50 #[.agg #[.bool nN, .string nS, .string nD]] w1 (Re w1 (.int .i64 sN)))) :
  Calls Tryz.prog 20 #[.agg #[.bool n0, .string s0, .string d0, .bool n1, .string s1, .string d1], .agg #[.bool n2, .string s2, .string d2, .bool n3, .string s3, .string d3], .agg #[.bool n4, .string s4, .string d4, .bool n5, .string s5, .string d5]] w (Re w (.agg #[.bool eN, .string eS, .string eD])) := by
 go_enter Tryz.func20, Tryz.ntmps20
 go_wp2_with fail
 obtain ⟨w1, hw, ka, kb, kc, kr, bb⟩ := mk4 w [.bool n0, .string s0, .string d0, .bool n1, .string s1, .string d1] [.bool n2, .string s2, .string d2, .bool n3, .string s3, .string d3] [.bool n4, .string s4, .string d4, .bool n5, .string s5, .string d5] [.bool false, .string { data := #[] }, .string { data := #[] }] 28 28 28 26
 rw [← hw]
 clear hw
 have tr := kr.lt
 have mk : Hid (∀ w', SB w1 w' → xc6 w' w.heap.size (.bool n0) (.string s0) (.string d0) (.bool n1) (.string s1) (.string d1) ∧ xc6 w' (w.heap.size + 1) (.bool n2) (.string s2) (.string d2) (.bool n3) (.string s3) (.string d3) ∧ xc6 w' (w.heap.size + 1 + 1) (.bool n4) (.string s4) (.string d4) (.bool n5) (.string s5) (.string d5)) := fun w' h => ⟨xk6 (ka.below h), xk6 (kb.below h), xk6 (kc.below h)⟩
 go_cut [7] from 12 to 18 (fun v wx => ∃ gc, v = .pointer (some ⟨gc, 0, none⟩) ∧ w1.heap.size ≤ gc ∧ Cel wx gc [.bool eN, .string eS, .string eD] 26 ∧ Below w1.heap.size w1 wx)
 case first =>
  clear M1 N1 SG h0
  refine wp_region_held_drew (S := SB w1) (by kernel_rfl) (bdrew _) (fun bc => ?_)
  refine WA.start (n := 9) (by kernel_rfl) ?_
  refine WA.tl 0 rfl ?_
  refine WA.tl 1 rfl ?_
  refine WA.tl 3 rfl ?_
  refine WA.tl 4 rfl ?_
  refine WA.gen (i := 7) (s := 7) undef (Pt w1 [.bool false, .string { data := #[] }, .string { data := #[] }] 26) (fun b x hz => ?_)
  simp only [Act.put, List.setIfInBounds_toArray, List.set_cons_zero, List.set_cons_succ]
  revert b x
  refine WA.one 9 27 2 7 rfl rfl bc ?_
  clear bc
  intro b x w' hz bx bc K hK
  clear bx
  simp only [List.getElem_toArray, List.getElem_cons_succ, List.getElem_cons_zero]
  go_simp
  go_fit (F1.out _ ?_)
  ·exact Below.after bb bc
  rintro e wn ⟨rfl, bn⟩
  replace bc := Below.after bc bn
  try go_wp2_with fail
  refine hK.out _ _ bc (fun _ => ?_)
  replace hz := fun h => (hz h).below bn
  clear hK K bn
  revert b x
  refine WA.one 9 31 5 7 rfl rfl bc ?_
  clear bc
  intro b x w' hz bx bc K hK
  clear bx
  simp only [List.getElem_toArray, List.getElem_cons_succ, List.getElem_cons_zero]
  go_simp
  go_fit (F2.out _ ?_)
  ·exact Below.after bb bc
  rintro e wn ⟨rfl, bn⟩
  replace bc := Below.after bc bn
  try go_wp2_with fail
  refine hK.out _ _ bc (fun _ => ?_)
  replace hz := fun h => (hz h).below bn
  clear hK K bn
  revert b x
  refine WA.one 9 63 6 7 rfl rfl bc ?_
  clear bc
  intro b x w' hz bx bc K hK
  clear bx
  simp only [List.getElem_toArray, List.getElem_cons_succ, List.getElem_cons_zero]
  go_simp
  go_fit (LE.out _ ?_)
  ·exact Below.after bb bc
  rintro e wn ⟨rfl, bn⟩
  replace bc := Below.after bc bn
  try go_wp2_with fail
  refine hK.out _ _ bc (fun _ => ?_)
  replace hz := fun h => (hz h).below bn
  clear hK K bn
  revert b x
  refine WA.fin 7 rfl bc ?_
  clear bc
  intro x w' hz bx bc
  obtain ⟨g0, rfl, h0, k0⟩ := hz
  clear bx
  obtain ⟨e0, e1, e2⟩ := xk3 k0
  have f0 := Cel.frozen k0 0
  have f1 := Cel.frozen k0 1
  have f2 := Cel.frozen k0 2
  refine WA.call 8 rfl (fun K hK => ?_)
  simp only [List.getElem_toArray, List.getElem_cons_succ, List.getElem_cons_zero]
  go_simp
  try go_wp2_with fail
  clear e0 f0 e1 f1 e2 f2
  replace bc := (bset (bset (bset bc h0 0 (.bool eN)) h0 1 (.string eS)) h0 2 (.string eD))
  refine hK.out _ _ bc (fun _ => ?_)
  clear hK K
  replace k0 := (Cel.set (Cel.set (Cel.set k0 0 (.bool eN)) 1 (.string eS)) 2 (.string eD))
  refine WA.done (by kernel_rfl) ?_
  go_wp2_with fail
  go_meet
  exact ⟨_, rfl, h0, k0, bc⟩
 case rest =>
 obtain ⟨ge, rfl, le, ke, b1⟩ := hcut
 clear mk; have sz := b1.size
 replace ka := ka.below b1
 replace kb := kb.below b1
 replace kc := kc.below b1
 replace kr := kr.below b1
 replace bb := Below.after bb b1
 clear b1
 have te := ke.lt
 obtain ⟨ca_0, ca_1, ca_2, ca_3, ca_4, ca_5⟩ := xk6 ka
 obtain ⟨cb_6, cb_7, cb_8, cb_9, cb_10, cb_11⟩ := xk6 kb
 go_wp2_with fail
 clear ca_0 ca_1 ca_2 ca_3 ca_4 ca_5 cb_6 cb_7 cb_8 cb_9 cb_10 cb_11
 go_fit (M1.out _ bb)
 rintro e w11 ⟨rfl, b1⟩
 have sz := b1.size
 replace ka := ka.below b1
 replace kb := kb.below b1
 replace kc := kc.below b1
 replace kr := kr.below b1
 replace ke := ke.below b1
 replace bb := Below.after bb b1
 clear b1
 obtain ⟨zu0, zu1, zu2, zu3, zu4, zu5⟩ := xk6 (Cel.new w11 [.bool u0, .string u1, .string u2, .bool u3, .string u4, .string u5] 28)
 go_wp2_with fail
 obtain ⟨x11, hw, ku, b1⟩ := mk1 w11 [.bool u0, .string u1, .string u2, .bool u3, .string u4, .string u5] 28
 rw [← hw]
 clear hw zu0 zu1 zu2 zu3 zu4 zu5
 have sz := b1.size
 replace ka := ka.below b1
 replace kb := kb.below b1
 replace kc := kc.below b1
 replace kr := kr.below b1
 replace ke := ke.below b1
 replace bb := Below.after bb b1
 clear b1
 have tu := ku.lt
 go_fit (N1.out _ bb)
 rintro e w12 ⟨rfl, b1⟩
 have sz := b1.size
 replace ka := ka.below b1
 replace kb := kb.below b1
 replace kc := kc.below b1
 replace kr := kr.below b1
 replace ke := ke.below b1
 replace ku := ku.below b1
 replace bb := Below.after bb b1
 clear b1
 obtain ⟨zn0, zn1, zn2⟩ := xk3 (Cel.new w12 [.bool nN, .string nS, .string nD] 26)
 go_wp2_with fail
 obtain ⟨x12, hw, kn, b1⟩ := mk1 w12 [.bool nN, .string nS, .string nD] 26
 rw [← hw]
 clear hw zn0 zn1 zn2
 have sz := b1.size
 replace ka := ka.below b1
 replace kb := kb.below b1
 replace kc := kc.below b1
 replace kr := kr.below b1
 replace ke := ke.below b1
 replace ku := ku.below b1
 replace bb := Below.after bb b1
 clear b1
 have tn := kn.lt
 go_fit (SG.out _ bb)
 rintro e w13 ⟨rfl, b1⟩
 have sz := b1.size
 replace ka := ka.below b1
 replace kb := kb.below b1
 replace kc := kc.below b1
 replace kr := kr.below b1
 replace ke := ke.below b1
 replace ku := ku.below b1
 replace kn := kn.below b1
 replace bb := Below.after bb b1
 clear b1
 obtain ⟨ce_0, ce_1, ce_2⟩ := xk3 ke
 obtain ⟨e0, e1, e2⟩ := xk3 kr
 have f0 := Cel.frozen kr 0
 have f1 := Cel.frozen kr 1
 have f2 := Cel.frozen kr 2
 go_wp2
 exact post_q (p := 6) (by kernel_rfl) rfl rfl (((kr.set 0 _).set 1 _).set 2 _) ⟨rfl, bset (bset (bset bb (by omega) 0 _) (by omega) 1 _) (by omega) 2 _⟩
end Go.Proofs.YtmojdkjpcjfkeaaGreatDoor
namespace Go.Proofs.YtmojdkjpcjfkeaaGreatDoor
open Go.RowKit Go.Shelf
theorem rtimesI (x y : Rat) {K : Nat} (hK : K ≤ 4000) (bx : Bq x K) (bY : Bq y K) (w : World) :
  Calls Tryz.prog 70 #[.agg #[.bool (nfZ (x).num), .string (sfZ (x).num), .string (strOf (x).den)], .agg #[.bool (nfZ (y).num), .string (sfZ (y).num), .string (strOf (y).den)]] w (Re w (.agg #[.bool (nfZ (x * y).num), .string (sfZ (x * y).num), .string (strOf (x * y).den)])) := by
 have zx := bx.2.size
 have zy := bY.2.size
 have := rtimesq_any (nfZ x.num) (nfZ y.num) (sfZ x.num) (strOf x.den) (sfZ y.num) (strOf y.den) w (okQ_qI x) (okQ_qI y) hK bx.1.size (by simpa using zx) bY.1.size (by simpa using zy)
 rw [show qOf (nfZ x.num) (sfZ x.num) (strOf x.den) = x from qOf_qI x, show qOf (nfZ y.num) (sfZ y.num) (strOf y.den) = y from qOf_qI y] at this
 exact this
theorem rsumI (x y : Rat) {K : Nat} (hK : K ≤ 4000) (bx : Bq x K) (bY : Bq y K) (w : World) :
  Calls Tryz.prog 35 #[.agg #[.bool (nfZ (x).num), .string (sfZ (x).num), .string (strOf (x).den)], .agg #[.bool (nfZ (y).num), .string (sfZ (y).num), .string (strOf (y).den)]] w (Re w (.agg #[.bool (nfZ (x + y).num), .string (sfZ (x + y).num), .string (strOf (x + y).den)])) := by
 have zx := bx.2.size
 have zy := bY.2.size
 have := rsumq_any (nfZ x.num) (nfZ y.num) (sfZ x.num) (strOf x.den) (sfZ y.num) (strOf y.den) w (okQ_qI x) (okQ_qI y) hK bx.1.size (by simpa using zx) bY.1.size (by simpa using zy)
 rw [show qOf (nfZ x.num) (sfZ x.num) (strOf x.den) = x from qOf_qI x, show qOf (nfZ y.num) (sfZ y.num) (strOf y.den) = y from qOf_qI y] at this
 exact this
theorem rlessI (x y : Rat) {K : Nat} (hK : K ≤ 4000) (bx : Bq x K) (bY : Bq y K) (w : World) :
  Calls Tryz.prog 74 #[.agg #[.bool (nfZ (x).num), .string (sfZ (x).num), .string (strOf (x).den)], .agg #[.bool (nfZ (y).num), .string (sfZ (y).num), .string (strOf (y).den)]] w (Re w (.agg #[.bool (nfZ (x - y).num), .string (sfZ (x - y).num), .string (strOf (x - y).den)])) := by
 have zx := bx.2.size
 have zy := bY.2.size
 have := rlessq_any (nfZ x.num) (nfZ y.num) (sfZ x.num) (strOf x.den) (sfZ y.num) (strOf y.den) w (okQ_qI x) (okQ_qI y) hK bx.1.size (by simpa using zx) bY.1.size (by simpa using zy)
 rw [show qOf (nfZ x.num) (sfZ x.num) (strOf x.den) = x from qOf_qI x, show qOf (nfZ y.num) (sfZ y.num) (strOf y.den) = y from qOf_qI y] at this
 exact this
open Go.RowKit
theorem rlong_no (n : Bool) (s d : ByteArray) (w : World) (z : s.size ≤ 100 ∧ d.size ≤ 100) :
  Calls Tryz.prog 47 #[.agg #[.bool n, .string s, .string d]] w (Re w (.bool false)) := by
 have i0 : ¬ (100 : Int) < s.size := by omega
 have i1 : ¬ (100 : Int) < d.size := by omega
 go_enter Tryz.func47, Tryz.ntmps47
 go_wp2
 go_ret
 exact ⟨rfl, bel_al _ _⟩
theorem asked_walk (a : Option Addr) (n cap : Nat) (N N' : Nat → Bool) (S D S' D' : Nat → ByteArray) (c : Nat → Nat) (w : World) (hn : n ≤ 1000000) (h : RdPt w a n N S D N' S' D')
  (HZ : Hid (∀ k, k < n → (S k).size ≤ 100 ∧ (D k).size ≤ 100 ∧ (S' k).size ≤ 100 ∧ (D' k).size ≤ 100))
  (HC : Hid (∀ (k : Nat) (w1 : World), k < n → Calls Tryz.prog 48 #[.agg #[.bool (N k), .string (S k), .string (D k), .bool (N' k), .string (S' k), .string (D' k)]] w1 (Re w1 (.int .i64 (c k : Nat))))) :
  Calls Tryz.prog 13 #[.slice a n cap] w (Re w (.int .i64 (firstE c n : Nat))) := by
 replace h := shut h
 go_enter Tryz.func13, Tryz.ntmps13
 go_wp2
 go_loopw [3] (fun i wr => Below w.heap.size w wr ∧ ∃ k : Nat, k ≤ n ∧ i = .int .i64 k ∧ firstE c k = 0) (fun i _ => n - (intOf i).toNat)
 case atStart => exact ⟨Below.refl _ _, 0, by omega, rfl, rfl⟩
 case round =>
  obtain ⟨bb, k, hk, rfl, hz⟩ := hrel
  by_cases hkn : k < n
  ·obtain ⟨b, off, rfl, h0, h1, h2, h3, h4, h5⟩ := h.out.below bb k hkn
   go_wp2_with fail
   go_fit (rlong_no _ _ _ _ ⟨(HZ.out k hkn).1, (HZ.out k hkn).2.1⟩)
   rintro e w1 ⟨rfl, b1⟩
   replace bb := Below.after bb b1
   replace h0 := cell_below h0 b1
   replace h1 := cell_below h1 b1
   replace h2 := cell_below h2 b1
   replace h3 := cell_below h3 b1
   replace h4 := cell_below h4 b1
   replace h5 := cell_below h5 b1
   clear b1
   go_wp2_with fail
   go_fit (rlong_no _ _ _ _ ⟨(HZ.out k hkn).2.2.1, (HZ.out k hkn).2.2.2⟩)
   rintro e w2 ⟨rfl, b1⟩
   replace bb := Below.after bb b1
   replace h0 := cell_below h0 b1
   replace h1 := cell_below h1 b1
   replace h2 := cell_below h2 b1
   replace h3 := cell_below h3 b1
   replace h4 := cell_below h4 b1
   replace h5 := cell_below h5 b1
   clear b1
   go_wp2_with fail
   go_fit (HC.out k _ hkn)
   rintro e w3 ⟨rfl, b1⟩
   replace bb := Below.after bb b1
   clear b1 h0 h1 h2 h3 h4 h5
   by_cases hc : c k = 0
   ·have hs : firstE c (k + 1) = 0 := by unfold firstE; rw [if_pos hz, hc]
    replace hs := shut hs
    replace hz := shut hz
    rw [hc]
    go_wp2
    exact ⟨⟨bb, k + 1, by omega, by go_num, hs.out⟩, by simp [intOf]; omega⟩
   ·have hs := firstE_stop hz hc n hkn
    replace hs := shut hs
    replace hz := shut hz
    go_wp2
    go_ret
    exact ⟨by rw [hs.out]; rfl, bb⟩
  ·obtain rfl : k = n := by omega
   replace hz := shut hz
   go_wp2
   go_ret
   exact ⟨by rw [hz.out]; rfl, bb⟩
theorem asked3 (B : Nat) (n0 n1 n2 n3 n4 n5 : Bool) (s0 d0 s1 d1 s2 d2 s3 d3 s4 d4 s5 d5 : ByteArray) (w : World) (h : Cel w B [.bool n0, .string s0, .string d0, .bool n1, .string s1, .string d1, .bool n2, .string s2, .string d2, .bool n3, .string s3, .string d3, .bool n4, .string s4, .string d4, .bool n5, .string s5, .string d5] 28) (z0 : s0.size ≤ 100 ∧ d0.size ≤ 100) (z1 : s1.size ≤ 100 ∧ d1.size ≤ 100) (z2 : s2.size ≤ 100 ∧ d2.size ≤ 100) (z3 : s3.size ≤ 100 ∧ d3.size ≤ 100) (z4 : s4.size ≤ 100 ∧ d4.size ≤ 100) (z5 : s5.size ≤ 100 ∧ d5.size ≤ 100) :
  Calls Tryz.prog 13 #[.slice (some ⟨B, 0, none⟩) 3 3] w (Re w (.int .i64 (two (two (twoq n0 s0 d0 n1 s1 d1) (twoq n2 s2 d2 n3 s3 d3)) (twoq n4 s4 d4 n5 s5 d5) : Nat))) := by
 refine asked_walk (some ⟨B, 0, none⟩) 3 3 _ _ _ _ _ _ (f4 (twoq n0 s0 d0 n1 s1 d1) (twoq n2 s2 d2 n3 s3 d3) (twoq n4 s4 d4 n5 s5 d5) 0) w (by omega) (rdpt_3 h) (fun j hj => ?_) (fun j w1 hj => ?_)
 ·match j, hj with
  | 0, _ => exact ⟨z0.1, z0.2, z1.1, z1.2⟩
  | 1, _ => exact ⟨z2.1, z2.2, z3.1, z3.2⟩
  | 2, _ => exact ⟨z4.1, z4.2, z5.1, z5.2⟩
 ·match j, hj with
  | 0, _ => exact rchk4_any n0 n1 s0 d0 s1 d1 w1 (by omega) (by omega) (by omega) (by omega)
  | 1, _ => exact rchk4_any n2 n3 s2 d2 s3 d3 w1 (by omega) (by omega) (by omega) (by omega)
  | 2, _ => exact rchk4_any n4 n5 s4 d4 s5 d5 w1 (by omega) (by omega) (by omega) (by omega)
theorem rsignI (x : Rat) (w : World) : Calls Tryz.prog 50 #[.agg #[.bool (nfZ (x).num), .string (sfZ (x).num), .string (strOf (x).den)]] w (Re w (.int .i64 (Gm.sg x))) := by
 rcases Gm.sg_cases x with ⟨h, e⟩ | ⟨h, e⟩ | ⟨h, e⟩
 ·rw [e, h]
  exact rsign_zero _ w
 ·rw [e]
  have hp := Gm.num_pos h
  have h1 : nfZ x.num = false := by unfold nfZ; exact decide_eq_false (by omega)
  have h2 : (sfZ x.num).toList.isEmpty = false := by
   unfold sfZ
   rw [strOf_empty]
   exact decide_eq_false (by omega)
  rw [h1]
  exact rsign_pos _ _ h2 w
 ·rw [e]
  have hp := Gm.num_pos (q := -x) (by grind)
  rw [Rat.neg_num] at hp
  have h1 : nfZ x.num = true := by unfold nfZ; exact decide_eq_true (by omega)
  rw [h1]
  exact rsign_neg _ _ w
theorem rminusP (x y x' y' : Rat) {K : Nat} (hK : K ≤ 4000) (b0 : Bq x K) (b1 : Bq y K) (b2 : Bq x' K) (b3 : Bq y' K) (w : World) : Calls Tryz.prog 30 #[.agg #[.bool (nfZ (x).num), .string (sfZ (x).num), .string (strOf (x).den), .bool (nfZ (y).num), .string (sfZ (y).num), .string (strOf (y).den)], .agg #[.bool (nfZ (x').num), .string (sfZ (x').num), .string (strOf (x').den), .bool (nfZ (y').num), .string (sfZ (y').num), .string (strOf (y').den)]] w (Re w (.agg #[.bool (nfZ (x - x').num), .string (sfZ (x - x').num), .string (strOf (x - x').den), .bool (nfZ (y - y').num), .string (sfZ (y - y').num), .string (strOf (y - y').den)])) :=
 rminus4_walk _ _ _ _ _ _ _ _ _ _ _ _ _ _ _ _ _ _ w (fun w1 => rlessI x x' hK b0 b2 w1) (fun w1 => rlessI y y' hK b1 b3 w1)
theorem rcrossP (x y x' y' : Rat) {K : Nat} (hK : K + K + 1 ≤ 4000) (b0 : Bq x K) (b1 : Bq y K) (b2 : Bq x' K) (b3 : Bq y' K) (w : World) : Calls Tryz.prog 49 #[.agg #[.bool (nfZ (x).num), .string (sfZ (x).num), .string (strOf (x).den), .bool (nfZ (y).num), .string (sfZ (y).num), .string (strOf (y).den)], .agg #[.bool (nfZ (x').num), .string (sfZ (x').num), .string (strOf (x').den), .bool (nfZ (y').num), .string (sfZ (y').num), .string (strOf (y').den)]] w (Re w (.agg #[.bool (nfZ (x * y' - y * x').num), .string (sfZ (x * y' - y * x').num), .string (strOf (x * y' - y * x').den)])) :=
 rcross4_walk _ _ _ _ _ _ _ _ _ _ _ _ _ _ _ _ _ _ _ _ _ w (fun w1 => rtimesI x y' (K := K) (by omega) b0 b3 w1) (fun w1 => rtimesI y x' (K := K) (by omega) b1 b2 w1) (fun w1 => rlessI (x * y') (y * x') hK (vq_mul b0 b3) (vq_mul b1 b2) w1)
theorem rdotP (x y x' y' : Rat) {K : Nat} (hK : K + K + 1 ≤ 4000) (b0 : Bq x K) (b1 : Bq y K) (b2 : Bq x' K) (b3 : Bq y' K) (w : World) : Calls Tryz.prog 66 #[.agg #[.bool (nfZ (x).num), .string (sfZ (x).num), .string (strOf (x).den), .bool (nfZ (y).num), .string (sfZ (y).num), .string (strOf (y).den)], .agg #[.bool (nfZ (x').num), .string (sfZ (x').num), .string (strOf (x').den), .bool (nfZ (y').num), .string (sfZ (y').num), .string (strOf (y').den)]] w (Re w (.agg #[.bool (nfZ (x * x' + y * y').num), .string (sfZ (x * x' + y * y').num), .string (strOf (x * x' + y * y').den)])) :=
 rdot4_walk _ _ _ _ _ _ _ _ _ _ _ _ _ _ _ _ _ _ _ _ _ w (fun w1 => rtimesI x x' (K := K) (by omega) b0 b2 w1) (fun w1 => rtimesI y y' (K := K) (by omega) b1 b3 w1) (fun w1 => rsumI (x * x') (y * y') hK (vq_mul b0 b2) (vq_mul b1 b3) w1)
theorem rnormP (x y : Rat) {K : Nat} (hK : K + K + 1 ≤ 4000) (b0 : Bq x K) (b1 : Bq y K) (w : World) : Calls Tryz.prog 65 #[.agg #[.bool (nfZ (x).num), .string (sfZ (x).num), .string (strOf (x).den), .bool (nfZ (y).num), .string (sfZ (y).num), .string (strOf (y).den)]] w (Re w (.agg #[.bool (nfZ (x * x + y * y).num), .string (sfZ (x * x + y * y).num), .string (strOf (x * x + y * y).den)])) :=
 rnorm4_walk _ _ _ _ _ _ _ _ _ w (fun w1 => rdotP x y x y hK b0 b1 b0 b1 w1)
open Go.RowKit
theorem rnear_hi (n0 n1 n2 n3 n4 n5 : Bool) (s0 d0 s1 d1 s2 d2 s3 d3 s4 d4 s5 d5 : ByteArray) (xN : Bool) (xS xD : ByteArray) (yN : Bool) (yS yD : ByteArray) (eN : Bool) (eS eD : ByteArray) (u0 u3 : Bool) (u1 u2 u4 u5 : ByteArray) (nN : Bool) (nS nD : ByteArray) (sN : Int) (v0 v3 : Bool) (v1 v2 v4 v5 : ByteArray) (dN : Bool) (dS dD : ByteArray) (tN : Bool) (tS tD : ByteArray) (sT : Int) (oN : Bool) (oS oD : ByteArray) (oT : Int) (w : World) (h0 : (sN == 0) = false) (h1 : decide (sT < 0) = false) (h2 : 0 < oT)
  (F1 : Hid (∀ w1, Below w.heap.size w w1 → Calls Tryz.prog 33 #[.agg #[.bool n4, .string s4, .string d4, .bool n5, .string s5, .string d5], .agg #[.bool n0, .string s0, .string d0, .bool n1, .string s1, .string d1]] w1 (Re w1 (.agg #[.bool xN, .string xS, .string xD]))))
  (F2 : Hid (∀ w1, Below w.heap.size w w1 → Calls Tryz.prog 33 #[.agg #[.bool n4, .string s4, .string d4, .bool n5, .string s5, .string d5], .agg #[.bool n2, .string s2, .string d2, .bool n3, .string s3, .string d3]] w1 (Re w1 (.agg #[.bool yN, .string yS, .string yD]))))
  (LE : Hid (∀ w1, Below w.heap.size w w1 → Calls Tryz.prog 64 #[.agg #[.bool xN, .string xS, .string xD], .agg #[.bool yN, .string yS, .string yD]] w1 (Re w1 (.agg #[.bool eN, .string eS, .string eD]))))
  (M1 : Hid (∀ w1, Below w.heap.size w w1 → Calls Tryz.prog 30 #[.agg #[.bool n2, .string s2, .string d2, .bool n3, .string s3, .string d3], .agg #[.bool n0, .string s0, .string d0, .bool n1, .string s1, .string d1]] w1 (Re w1 (.agg #[.bool u0, .string u1, .string u2, .bool u3, .string u4, .string u5]))))
  (N1 : Hid (∀ w1, Below w.heap.size w w1 → Calls Tryz.prog 65 #[.agg #[.bool u0, .string u1, .string u2, .bool u3, .string u4, .string u5]] w1 (Re w1 (.agg #[.bool nN, .string nS, .string nD]))))
  (SG : Hid (∀ w1, Below w.heap.size w w1 → Calls Tryz.prog 50 #[.agg #[.bool nN, .string nS, .string nD]] w1 (Re w1 (.int .i64 sN))))
  (M2 : Hid (∀ w1, Below w.heap.size w w1 → Calls Tryz.prog 30 #[.agg #[.bool n4, .string s4, .string d4, .bool n5, .string s5, .string d5], .agg #[.bool n0, .string s0, .string d0, .bool n1, .string s1, .string d1]] w1 (Re w1 (.agg #[.bool v0, .string v1, .string v2, .bool v3, .string v4, .string v5]))))
  (D1 : Hid (∀ w1, Below w.heap.size w w1 → Calls Tryz.prog 66 #[.agg #[.bool v0, .string v1, .string v2, .bool v3, .string v4, .string v5], .agg #[.bool u0, .string u1, .string u2, .bool u3, .string u4, .string u5]] w1 (Re w1 (.agg #[.bool dN, .string dS, .string dD]))))
  (OV : Hid (∀ w1, Below w.heap.size w w1 → Calls Tryz.prog 51 #[.agg #[.bool dN, .string dS, .string dD], .agg #[.bool nN, .string nS, .string nD]] w1 (Re w1 (.agg #[.bool tN, .string tS, .string tD]))))
  (S2 : Hid (∀ w1, Below w.heap.size w w1 → Calls Tryz.prog 50 #[.agg #[.bool tN, .string tS, .string tD]] w1 (Re w1 (.int .i64 sT))))
  (OF : Hid (∀ w1, Below w.heap.size w w1 → Calls Tryz.prog 55 #[.int .i64 1] w1 (Re w1 (.agg #[.bool oN, .string oS, .string oD]))))
  (OR : Hid (∀ w1, Below w.heap.size w w1 → Calls Tryz.prog 32 #[.agg #[.bool tN, .string tS, .string tD], .agg #[.bool oN, .string oS, .string oD]] w1 (Re w1 (.int .i64 oT)))) :
  Calls Tryz.prog 20 #[.agg #[.bool n0, .string s0, .string d0, .bool n1, .string s1, .string d1], .agg #[.bool n2, .string s2, .string d2, .bool n3, .string s3, .string d3], .agg #[.bool n4, .string s4, .string d4, .bool n5, .string s5, .string d5]] w (Re w (.agg #[.bool eN, .string eS, .string eD])) := by
 go_enter Tryz.func20, Tryz.ntmps20
 go_wp2_with fail
 obtain ⟨w1, hw, ka, kb, kc, kr, bb⟩ := mk4 w [.bool n0, .string s0, .string d0, .bool n1, .string s1, .string d1] [.bool n2, .string s2, .string d2, .bool n3, .string s3, .string d3] [.bool n4, .string s4, .string d4, .bool n5, .string s5, .string d5] [.bool false, .string { data := #[] }, .string { data := #[] }] 28 28 28 26
 rw [← hw]
 clear hw
 have tr := kr.lt
 have mk : Hid (∀ w', SB w1 w' → xc6 w' w.heap.size (.bool n0) (.string s0) (.string d0) (.bool n1) (.string s1) (.string d1) ∧ xc6 w' (w.heap.size + 1) (.bool n2) (.string s2) (.string d2) (.bool n3) (.string s3) (.string d3) ∧ xc6 w' (w.heap.size + 1 + 1) (.bool n4) (.string s4) (.string d4) (.bool n5) (.string s5) (.string d5)) := fun w' h => ⟨xk6 (ka.below h), xk6 (kb.below h), xk6 (kc.below h)⟩
 go_cut [7] from 12 to 18 (fun v wx => ∃ gc, v = .pointer (some ⟨gc, 0, none⟩) ∧ w1.heap.size ≤ gc ∧ Cel wx gc [.bool eN, .string eS, .string eD] 26 ∧ Below w1.heap.size w1 wx)
 case first =>
  clear M1 N1 SG M2 D1 OV S2 OF OR h0 h1 h2
  refine wp_region_held_drew (S := SB w1) (by kernel_rfl) (bdrew _) (fun bc => ?_)
  refine WA.start (n := 9) (by kernel_rfl) ?_
  refine WA.tl 0 rfl ?_
  refine WA.tl 1 rfl ?_
  refine WA.tl 3 rfl ?_
  refine WA.tl 4 rfl ?_
  refine WA.gen (i := 7) (s := 7) undef (Pt w1 [.bool false, .string { data := #[] }, .string { data := #[] }] 26) (fun b x hz => ?_)
  simp only [Act.put, List.setIfInBounds_toArray, List.set_cons_zero, List.set_cons_succ]
  revert b x
  refine WA.one 9 27 2 7 rfl rfl bc ?_
  clear bc
  intro b x w' hz bx bc K hK
  clear bx
  simp only [List.getElem_toArray, List.getElem_cons_succ, List.getElem_cons_zero]
  go_simp
  go_fit (F1.out _ ?_)
  ·exact Below.after bb bc
  rintro e wn ⟨rfl, bn⟩
  replace bc := Below.after bc bn
  try go_wp2_with fail
  refine hK.out _ _ bc (fun _ => ?_)
  replace hz := fun h => (hz h).below bn
  clear hK K bn
  revert b x
  refine WA.one 9 31 5 7 rfl rfl bc ?_
  clear bc
  intro b x w' hz bx bc K hK
  clear bx
  simp only [List.getElem_toArray, List.getElem_cons_succ, List.getElem_cons_zero]
  go_simp
  go_fit (F2.out _ ?_)
  ·exact Below.after bb bc
  rintro e wn ⟨rfl, bn⟩
  replace bc := Below.after bc bn
  try go_wp2_with fail
  refine hK.out _ _ bc (fun _ => ?_)
  replace hz := fun h => (hz h).below bn
  clear hK K bn
  revert b x
  refine WA.one 9 63 6 7 rfl rfl bc ?_
  clear bc
  intro b x w' hz bx bc K hK
  clear bx
  simp only [List.getElem_toArray, List.getElem_cons_succ, List.getElem_cons_zero]
  go_simp
  go_fit (LE.out _ ?_)
  ·exact Below.after bb bc
  rintro e wn ⟨rfl, bn⟩
  replace bc := Below.after bc bn
  try go_wp2_with fail
  refine hK.out _ _ bc (fun _ => ?_)
  replace hz := fun h => (hz h).below bn
  clear hK K bn
  revert b x
  refine WA.fin 7 rfl bc ?_
  clear bc
  intro x w' hz bx bc
  obtain ⟨g0, rfl, h0, k0⟩ := hz
  clear bx
  obtain ⟨e0, e1, e2⟩ := xk3 k0
  have f0 := Cel.frozen k0 0
  have f1 := Cel.frozen k0 1
  have f2 := Cel.frozen k0 2
  refine WA.call 8 rfl (fun K hK => ?_)
  simp only [List.getElem_toArray, List.getElem_cons_succ, List.getElem_cons_zero]
  go_simp
  try go_wp2_with fail
  clear e0 f0 e1 f1 e2 f2
  replace bc := (bset (bset (bset bc h0 0 (.bool eN)) h0 1 (.string eS)) h0 2 (.string eD))
  refine hK.out _ _ bc (fun _ => ?_)
  clear hK K
  replace k0 := (Cel.set (Cel.set (Cel.set k0 0 (.bool eN)) 1 (.string eS)) 2 (.string eD))
  refine WA.done (by kernel_rfl) ?_
  go_wp2_with fail
  go_meet
  exact ⟨_, rfl, h0, k0, bc⟩
 case rest =>
 obtain ⟨ge, rfl, le, ke, b1⟩ := hcut
 clear mk; have sz := b1.size
 replace ka := ka.below b1
 replace kb := kb.below b1
 replace kc := kc.below b1
 replace kr := kr.below b1
 replace bb := Below.after bb b1
 clear b1
 have te := ke.lt
 obtain ⟨ca_0, ca_1, ca_2, ca_3, ca_4, ca_5⟩ := xk6 ka
 obtain ⟨cb_6, cb_7, cb_8, cb_9, cb_10, cb_11⟩ := xk6 kb
 go_wp2_with fail
 clear ca_0 ca_1 ca_2 ca_3 ca_4 ca_5 cb_6 cb_7 cb_8 cb_9 cb_10 cb_11
 go_fit (M1.out _ bb)
 rintro e w11 ⟨rfl, b1⟩
 have sz := b1.size
 replace ka := ka.below b1
 replace kb := kb.below b1
 replace kc := kc.below b1
 replace kr := kr.below b1
 replace ke := ke.below b1
 replace bb := Below.after bb b1
 clear b1
 obtain ⟨zu0, zu1, zu2, zu3, zu4, zu5⟩ := xk6 (Cel.new w11 [.bool u0, .string u1, .string u2, .bool u3, .string u4, .string u5] 28)
 go_wp2_with fail
 obtain ⟨x11, hw, ku, b1⟩ := mk1 w11 [.bool u0, .string u1, .string u2, .bool u3, .string u4, .string u5] 28
 rw [← hw]
 clear hw zu0 zu1 zu2 zu3 zu4 zu5
 have sz := b1.size
 replace ka := ka.below b1
 replace kb := kb.below b1
 replace kc := kc.below b1
 replace kr := kr.below b1
 replace ke := ke.below b1
 replace bb := Below.after bb b1
 clear b1
 have tu := ku.lt
 go_fit (N1.out _ bb)
 rintro e w12 ⟨rfl, b1⟩
 have sz := b1.size
 replace ka := ka.below b1
 replace kb := kb.below b1
 replace kc := kc.below b1
 replace kr := kr.below b1
 replace ke := ke.below b1
 replace ku := ku.below b1
 replace bb := Below.after bb b1
 clear b1
 obtain ⟨zn0, zn1, zn2⟩ := xk3 (Cel.new w12 [.bool nN, .string nS, .string nD] 26)
 go_wp2_with fail
 obtain ⟨x12, hw, kn, b1⟩ := mk1 w12 [.bool nN, .string nS, .string nD] 26
 rw [← hw]
 clear hw zn0 zn1 zn2
 have sz := b1.size
 replace ka := ka.below b1
 replace kb := kb.below b1
 replace kc := kc.below b1
 replace kr := kr.below b1
 replace ke := ke.below b1
 replace ku := ku.below b1
 replace bb := Below.after bb b1
 clear b1
 have tn := kn.lt
 go_fit (SG.out _ bb)
 rintro e w13 ⟨rfl, b1⟩
 have sz := b1.size
 replace ka := ka.below b1
 replace kb := kb.below b1
 replace kc := kc.below b1
 replace kr := kr.below b1
 replace ke := ke.below b1
 replace ku := ku.below b1
 replace kn := kn.below b1
 replace bb := Below.after bb b1
 clear b1
 go_wp2_with fail
 have mk : Hid (∀ w', SB w13 w' → xc6 w' w.heap.size (.bool n0) (.string s0) (.string d0) (.bool n1) (.string s1) (.string d1) ∧ xc6 w' (w.heap.size + 1 + 1) (.bool n4) (.string s4) (.string d4) (.bool n5) (.string s5) (.string d5) ∧ xc6 w' w11.heap.size (.bool u0) (.string u1) (.string u2) (.bool u3) (.string u4) (.string u5) ∧ xc3 w' w12.heap.size (.bool nN) (.string nS) (.string nD)) := fun w' h => ⟨xk6 (ka.below h), xk6 (kc.below h), xk6 (ku.below h), xk3 (kn.below h)⟩
 go_cut [10] from 28 to 34 (fun v wx => ∃ gc, v = .pointer (some ⟨gc, 0, none⟩) ∧ w13.heap.size ≤ gc ∧ Cel wx gc [.bool tN, .string tS, .string tD] 26 ∧ Below w13.heap.size w13 wx)
 case first =>
  clear F1 F2 LE M1 N1 SG S2 OF OR h0 h1 h2
  refine wp_region_held_drew (S := SB w13) (by kernel_rfl) (bdrew _) (fun bc => ?_)
  refine WA.start (n := 9) (by kernel_rfl) ?_
  refine WA.tl 0 rfl ?_
  refine WA.tl 1 rfl ?_
  refine WA.tl 3 rfl ?_
  refine WA.tl 5 rfl ?_
  refine WA.gen (i := 7) (s := 10) undef (Pt w13 [.bool false, .string { data := #[] }, .string { data := #[] }] 26) (fun b x hz => ?_)
  simp only [Act.put, List.setIfInBounds_toArray, List.set_cons_zero, List.set_cons_succ]
  revert b x
  refine WA.one 9 43 2 7 rfl rfl bc ?_
  clear bc
  intro b x w' hz bx bc K hK
  clear bx
  simp only [List.getElem_toArray, List.getElem_cons_succ, List.getElem_cons_zero]
  go_simp
  go_fit (M2.out _ ?_)
  ·exact Below.after bb bc
  rintro e wn ⟨rfl, bn⟩
  replace bc := Below.after bc bn
  try go_wp2_with fail
  refine hK.out _ _ bc (fun _ => ?_)
  replace hz := fun h => (hz h).below bn
  clear hK K bn
  revert b x
  refine WA.one 9 47 4 7 rfl rfl bc ?_
  clear bc
  intro b x w' hz bx bc K hK
  clear bx
  simp only [List.getElem_toArray, List.getElem_cons_succ, List.getElem_cons_zero]
  go_simp
  go_fit (D1.out _ ?_)
  ·exact Below.after bb bc
  rintro e wn ⟨rfl, bn⟩
  replace bc := Below.after bc bn
  try go_wp2_with fail
  refine hK.out _ _ bc (fun _ => ?_)
  replace hz := fun h => (hz h).below bn
  clear hK K bn
  revert b x
  refine WA.one 9 63 6 7 rfl rfl bc ?_
  clear bc
  intro b x w' hz bx bc K hK
  clear bx
  simp only [List.getElem_toArray, List.getElem_cons_succ, List.getElem_cons_zero]
  go_simp
  go_fit (OV.out _ ?_)
  ·exact Below.after bb bc
  rintro e wn ⟨rfl, bn⟩
  replace bc := Below.after bc bn
  try go_wp2_with fail
  refine hK.out _ _ bc (fun _ => ?_)
  replace hz := fun h => (hz h).below bn
  clear hK K bn
  revert b x
  refine WA.fin 7 rfl bc ?_
  clear bc
  intro x w' hz bx bc
  obtain ⟨g0, rfl, h0, k0⟩ := hz
  clear bx
  obtain ⟨e0, e1, e2⟩ := xk3 k0
  have f0 := Cel.frozen k0 0
  have f1 := Cel.frozen k0 1
  have f2 := Cel.frozen k0 2
  refine WA.call 8 rfl (fun K hK => ?_)
  simp only [List.getElem_toArray, List.getElem_cons_succ, List.getElem_cons_zero]
  go_simp
  try go_wp2_with fail
  clear e0 f0 e1 f1 e2 f2
  replace bc := (bset (bset (bset bc h0 0 (.bool tN)) h0 1 (.string tS)) h0 2 (.string tD))
  refine hK.out _ _ bc (fun _ => ?_)
  clear hK K
  replace k0 := (Cel.set (Cel.set (Cel.set k0 0 (.bool tN)) 1 (.string tS)) 2 (.string tD))
  refine WA.done (by kernel_rfl) ?_
  go_wp2_with fail
  go_meet
  exact ⟨_, rfl, h0, k0, bc⟩
 case rest =>
 obtain ⟨gt, rfl, lt, kt, b1⟩ := hcut
 clear mk; have sz := b1.size
 replace ka := ka.below b1
 replace kb := kb.below b1
 replace kc := kc.below b1
 replace kr := kr.below b1
 replace ke := ke.below b1
 replace ku := ku.below b1
 replace kn := kn.below b1
 replace bb := Below.after bb b1
 clear b1
 have tt := kt.lt
 go_wp2_with fail
 have bd := bdrew wc
 replace ka := ka.below bd
 replace kb := kb.below bd
 replace kc := kc.below bd
 replace kr := kr.below bd
 replace ke := ke.below bd
 replace ku := ku.below bd
 replace kn := kn.below bd
 replace kt := kt.below bd
 replace bb := Below.after bb bd
 clear bd
 refine wp_region_held_drew (S := fun w' => xc3 w' gt (.bool tN) (.string tS) (.string tD)) (by kernel_rfl) (xk3 kt) (fun hS => ?_)
 refine WA.start (n := 9) (by kernel_rfl) ?_
 refine WA.tp 0 rfl ?_
 refine WA.cal 1 rfl (fun K hK => ?_)
 simp only [List.getElem_toArray, List.getElem_cons_succ, List.getElem_cons_zero]
 go_simp
 go_fit (S2.out _ bb)
 rintro e wn ⟨rfl, bn⟩
 replace ka := ka.below bn
 replace kb := kb.below bn
 replace kc := kc.below bn
 replace kr := kr.below bn
 replace ke := ke.below bn
 replace ku := ku.below bn
 replace kn := kn.below bn
 replace kt := kt.below bn
 replace bb := Below.after bb bn
 try go_wp2_with fail
 clear hS
 refine hK.out _ _ (xk3 kt) (fun hS => ?_)
 clear hK K bn
 refine WA.tp 2 rfl ?_
 refine WA.tp 3 rfl ?_
 refine WA.tp 4 rfl ?_
 refine WA.cal 5 rfl (fun K hK => ?_)
 simp only [List.getElem_toArray, List.getElem_cons_succ, List.getElem_cons_zero]
 go_simp
 go_fit (OF.out _ bb)
 rintro e wn ⟨rfl, bn⟩
 replace ka := ka.below bn
 replace kb := kb.below bn
 replace kc := kc.below bn
 replace kr := kr.below bn
 replace ke := ke.below bn
 replace ku := ku.below bn
 replace kn := kn.below bn
 replace kt := kt.below bn
 replace bb := Below.after bb bn
 try go_wp2_with fail
 clear hS
 refine hK.out _ _ (xk3 kt) (fun hS => ?_)
 clear hK K bn
 refine WA.cal 6 rfl (fun K hK => ?_)
 simp only [List.getElem_toArray, List.getElem_cons_succ, List.getElem_cons_zero]
 go_simp
 go_fit (OR.out _ bb)
 rintro e wn ⟨rfl, bn⟩
 replace ka := ka.below bn
 replace kb := kb.below bn
 replace kc := kc.below bn
 replace kr := kr.below bn
 replace ke := ke.below bn
 replace ku := ku.below bn
 replace kn := kn.below bn
 replace kt := kt.below bn
 replace bb := Below.after bb bn
 try go_wp2_with fail
 clear hS
 refine hK.out _ _ (xk3 kt) (fun hS => ?_)
 clear hK K bn
 refine WA.tp 7 rfl ?_
 refine WA.tp 8 rfl ?_
 refine WA.done (by kernel_rfl) ?_
 clear hS
 obtain ⟨ce_0, ce_1, ce_2⟩ := xk3 ke
 obtain ⟨e0, e1, e2⟩ := xk3 kr
 have f0 := Cel.frozen kr 0
 have f1 := Cel.frozen kr 1
 have f2 := Cel.frozen kr 2
 go_wp2
 exact post_q (p := 6) (by kernel_rfl) rfl rfl (((kr.set 0 _).set 1 _).set 2 _) ⟨rfl, bset (bset (bset bb (by omega) 0 _) (by omega) 1 _) (by omega) 2 _⟩
open Go.RowKit
theorem rds_three {w : World} {g : Nat} {t : TypeId} {Z : Nat → Int} (h : Cells w g t 3 (fst' Z 3)) : RdS w (.slice (some ⟨g, 0, none⟩) 3 3) [sfZ (Z 0), sfZ (Z 1), sfZ (Z 2)] := by
 refine ⟨_, 3, rfl, Nat.le_refl _, fun j hj => ⟨g, 0, rfl, ?_⟩⟩
 have hj' : j < 3 := hj
 rw [Nat.zero_add, h.cell hj']
 match j, hj' with
 | 0, _ => rfl
 | 1, _ => rfl
 | 2, _ => rfl
def tw3 {α : Type} (x y z : α) (j : Nat) : α := if j = 0 then x else if j = 1 then y else z
theorem rdn_three {w : World} {B : Nat} {t : TypeId} {m1 m2 m3 : Bool} {a1 a2 a3 : Option Addr} {l1 c1 l2 c2 l3 c3 : Nat} (h : Cel w B [.bool m1, .slice a1 l1 c1, .bool m2, .slice a2 l2 c2, .bool m3, .slice a3 l3 c3] t) : RdN w (some ⟨B, 0, none⟩) 3 (tw3 m1 m2 m3) (fun j => .slice (tw3 a1 a2 a3 j) (tw3 l1 l2 l3 j) (tw3 c1 c2 c3 j)) := by
 intro j hj
 refine ⟨B, 0, rfl, ?_⟩
 match j, hj with
 | 0, _ => exact ⟨h.cell 0, h.cell 1⟩
 | 1, _ => exact ⟨h.cell 2, h.cell 3⟩
 | 2, _ => exact ⟨h.cell 4, h.cell 5⟩
theorem nover3 (m0 m1 m2 m3 : Bool) (v0 : Value) (a1 a2 a3 : Option Addr) (l1 c1 l2 c2 l3 c3 : Nat) (z d1 d2 d3 : Int) (L : Nat) (B : Nat) (w : World) (hT : Tab w) (hL : L ≤ 330) (p1 : 0 < d1) (p2 : 0 < d2) (p3 : 0 < d3)
  (n0 : NV w m0 v0 z L) (n1 : NV w m1 (.slice a1 l1 c1) d1 L) (n2 : NV w m2 (.slice a2 l2 c2) d2 L) (n3 : NV w m3 (.slice a3 l3 c3) d3 L) (h : Cel w B [.bool m1, .slice a1 l1 c1, .bool m2, .slice a2 l2 c2, .bool m3, .slice a3 l3 c3] 76) {x : Rat} (hx : mkRat z (d1.natAbs * (d2.natAbs * d3.natAbs)) = x) :
  Calls Tryz.prog 62 #[.agg #[.bool m0, v0], .slice (some ⟨B, 0, none⟩) 3 3] w (Re w (.agg #[.bool (nfZ x.num), .string (sfZ x.num), .string (strOf x.den)])) := by
 subst hx
 refine over_walk m0 v0 _ 3 3 (tw3 m1 m2 m3) (tw3 a1 a2 a3) (tw3 l1 l2 l3) (tw3 c1 c2 c3) z (tw3 d1 d2 d3) _ _ _ w (by omega) n0.slice (rdn_three h) (fun k w1 hk b => ?_) (fun w1 b => nint_any _ _ z L w1 (by omega) (n0.below b)) (fun g w1 b hc => ?_)
 ·match k, hk with
  | 0, _ => exact nint_any _ _ d1 L w1 (by omega) (n1.below b)
  | 1, _ => exact nint_any _ _ d2 L w1 (by omega) (n2.below b)
  | 2, _ => exact nint_any _ _ d3 L w1 (by omega) (n3.below b)
 ·have b0 := n0.bd (K := 2640) (by omega)
  have b1 := n1.bd (K := 2640) (by omega)
  have b2 := n2.bd (K := 2640) (by omega)
  have b3 := n3.bd (K := 2640) (by omega)
  have o1 : OkS (sfZ d1) ∧ 0 < natOf (sfZ d1) ∧ (sfZ d1).size ≤ 8000 := ⟨okS_sfZ d1, by rw [natOf_sfZ]; omega, Nat.le_trans b1.size (by omega)⟩
  have o2 : OkS (sfZ d2) ∧ 0 < natOf (sfZ d2) ∧ (sfZ d2).size ≤ 8000 := ⟨okS_sfZ d2, by rw [natOf_sfZ]; omega, Nat.le_trans b2.size (by omega)⟩
  have o3 : OkS (sfZ d3) ∧ 0 < natOf (sfZ d3) ∧ (sfZ d3).size ≤ 8000 := ⟨okS_sfZ d3, by rw [natOf_sfZ]; omega, Nat.le_trans b3.size (by omega)⟩
  have hm := b1.mul (b2.mul b3)
  have e : natOf (sfZ d1) * (natOf (sfZ d2) * (natOf (sfZ d3) * 1)) = (d1 * (d2 * d3)).natAbs := by rw [Nat.mul_one, natOf_sfZ, natOf_sfZ, natOf_sfZ, Int.natAbs_mul, Int.natAbs_mul]
  have := over_any z (.slice (some ⟨g, 0, none⟩) 3 3) [sfZ d1, sfZ d2, sfZ d3] w1 (hT.below b) (rds_three hc) (by simp) (fun x hx => by rcases List.mem_cons.1 hx with rfl | hx; exact o1; rcases List.mem_cons.1 hx with rfl | hx; exact o2; rcases List.mem_cons.1 hx with rfl | hx; exact o3; cases hx) (K := 2640 + (2640 + 2640)) (by omega) (b0.mono (by omega)) (by
   show natOf (sfZ d1) * (natOf (sfZ d2) * (natOf (sfZ d3) * 1)) < _
   rw [e]
   exact hm)
  rw [show Dt.nprod ([sfZ d1, sfZ d2, sfZ d3].map natOf) = d1.natAbs * (d2.natAbs * d3.natAbs) by show natOf (sfZ d1) * (natOf (sfZ d2) * (natOf (sfZ d3) * 1)) = _; rw [Nat.mul_one, natOf_sfZ, natOf_sfZ, natOf_sfZ]] at this
  exact this
open Go.RowKit
theorem least_walk (xN yN : Bool) (xS xD yS yD : ByteArray) (o : Int) (rN : Bool) (rS rD : ByteArray) (w : World)
  (HO : Hid (∀ w1, Below w.heap.size w w1 → Calls Tryz.prog 32 #[.agg #[.bool xN, .string xS, .string xD], .agg #[.bool yN, .string yS, .string yD]] w1 (Re w1 (.int .i64 o)))) (h : (o ≤ 0 ∧ rN = xN ∧ rS = xS ∧ rD = xD) ∨ (¬ o ≤ 0 ∧ rN = yN ∧ rS = yS ∧ rD = yD)) :
  Calls Tryz.prog 64 #[.agg #[.bool xN, .string xS, .string xD], .agg #[.bool yN, .string yS, .string yD]] w (Re w (.agg #[.bool rN, .string rS, .string rD])) := by
 go_enter Tryz.func64, Tryz.ntmps64
 go_wp2_with fail
 obtain ⟨w0, hw, ka, kb, kr, bb⟩ := mk3 w [.bool xN, .string xS, .string xD] [.bool yN, .string yS, .string yD] [.bool false, .string { data := #[] }, .string { data := #[] }] 26 26 26
 rw [← hw]
 clear hw
 go_fit (HO.out _ bb)
 rintro e w1 ⟨rfl, b1⟩
 replace ka := ka.below b1
 replace kb := kb.below b1
 replace kr := kr.below b1
 replace bb := Below.after bb b1
 clear b1
 obtain ⟨a0, a1, a2⟩ := xk3 ka
 obtain ⟨b0, b1, b2⟩ := xk3 kb
 obtain ⟨e0, e1, e2⟩ := xk3 kr
 have f0 := Cel.frozen kr 0
 have f1 := Cel.frozen kr 1
 have f2 := Cel.frozen kr 2
 rcases h with ⟨h, rfl, rfl, rfl⟩ | ⟨h, rfl, rfl, rfl⟩
 all_goals
  go_wp2
  exact post_q (p := 4) (by kernel_rfl) rfl rfl (((kr.set 0 _).set 1 _).set 2 _) ⟨rfl, bset (bset (bset bb (by omega) 0 _) (by omega) 1 _) (by omega) 2 _⟩
theorem near6_l (n0 n1 n2 n3 n4 n5 : Bool) (s0 d0 s1 d1 s2 d2 s3 d3 s4 d4 s5 d5 : ByteArray) (w : World)
  (HS : Hid (∀ w1, Calls Tryz.prog 16 #[.agg #[.bool n0, .string s0, .string d0, .bool n1, .string s1, .string d1, .bool n2, .string s2, .string d2, .bool n3, .string s3, .string d3, .bool n4, .string s4, .string d4, .bool n5, .string s5, .string d5]] w1 (Re w1 (.bool false))))
  (HL : Hid (∀ w1, Below w.heap.size w w1 → Calls Tryz.prog 17 #[] w1 (Re w1 (.bool true)))) :
  Calls Tryz.prog 4 #[.agg #[.bool n0, .string s0, .string d0, .bool n1, .string s1, .string d1, .bool n2, .string s2, .string d2, .bool n3, .string s3, .string d3, .bool n4, .string s4, .string d4, .bool n5, .string s5, .string d5]] w (Re w (.bool true)) := by
 go_enter Tryz.func4, Tryz.ntmps4
 go_wp2_with (first | (refine wpList_load_row rfl 44 _ rfl w.heap.size rfl 44 _ (0, 0) _ (Cel.new w [.bool n0, .string s0, .string d0, .bool n1, .string s1, .string d1, .bool n2, .string s2, .string d2, .bool n3, .string s3, .string d3, .bool n4, .string s4, .string d4, .bool n5, .string s5, .string d5] 44) Tryz.underlying44 rfl (by kernel_rfl) ?_) | fail)
 go_wp2_with fail
 go_fit (HS.out _)
 rintro e w1 ⟨rfl, b1⟩
 obtain ⟨kt, bb⟩ := al1 b1
 clear b1
 go_wp2_with fail
 go_fit (HL.out _ bb)
 rintro e w2 ⟨rfl, b1⟩
 replace kt := kt.below b1
 replace bb := Below.after bb b1
 clear b1
 go_wp2
 go_ret
 exact ⟨rfl, bb⟩
theorem near6_a (n0 n1 n2 n3 n4 n5 : Bool) (s0 d0 s1 d1 s2 d2 s3 d3 s4 d4 s5 d5 : ByteArray) (E : Int) (w : World) (hE : ¬ E = 0)
  (HS : Hid (∀ w1, Calls Tryz.prog 16 #[.agg #[.bool n0, .string s0, .string d0, .bool n1, .string s1, .string d1, .bool n2, .string s2, .string d2, .bool n3, .string s3, .string d3, .bool n4, .string s4, .string d4, .bool n5, .string s5, .string d5]] w1 (Re w1 (.bool true))))
  (NR : Hid (∀ w1, Below w.heap.size w w1 → Calls Tryz.prog 18 #[.agg #[.bool n0, .string s0, .string d0, .bool n1, .string s1, .string d1], .agg #[.bool n2, .string s2, .string d2, .bool n3, .string s3, .string d3], .agg #[.bool n4, .string s4, .string d4, .bool n5, .string s5, .string d5]] w1 (Re w1 (.tuple #[.agg #[.bool false, .string { data := #[] }, .string { data := #[] }], .int .i64 (E)]))))
  (HA : Hid (∀ w1, Below w.heap.size w w1 → Calls Tryz.prog 19 #[.agg #[.bool n0, .string s0, .string d0, .bool n1, .string s1, .string d1], .agg #[.bool n2, .string s2, .string d2, .bool n3, .string s3, .string d3], .agg #[.bool n4, .string s4, .string d4, .bool n5, .string s5, .string d5]] w1 (Re w1 (.int .i64 (E)))))
  (HL : Hid (∀ w1, Below w.heap.size w w1 → Calls Tryz.prog 17 #[] w1 (Re w1 (.bool true)))) :
  Calls Tryz.prog 4 #[.agg #[.bool n0, .string s0, .string d0, .bool n1, .string s1, .string d1, .bool n2, .string s2, .string d2, .bool n3, .string s3, .string d3, .bool n4, .string s4, .string d4, .bool n5, .string s5, .string d5]] w (Re w (.bool true)) := by
 go_enter Tryz.func4, Tryz.ntmps4
 go_wp2_with (first | (refine wpList_load_row rfl 44 _ rfl w.heap.size rfl 44 _ (0, 0) _ (Cel.new w [.bool n0, .string s0, .string d0, .bool n1, .string s1, .string d1, .bool n2, .string s2, .string d2, .bool n3, .string s3, .string d3, .bool n4, .string s4, .string d4, .bool n5, .string s5, .string d5] 44) Tryz.underlying44 rfl (by kernel_rfl) ?_) | fail)
 go_wp2_with fail
 go_fit (HS.out _)
 rintro e w1 ⟨rfl, b1⟩
 obtain ⟨kt, bb⟩ := al1 b1
 clear b1
 obtain ⟨c0, c1, c2, c3, c4, c5, c6, c7, c8, c9, c10, c11, c12, c13, c14, c15, c16, c17⟩ := c18 kt
 go_wp2_with fail
 go_fit (NR.out _ bb)
 rintro e w2 ⟨rfl, b1⟩
 replace kt := kt.below b1
 replace bb := Below.after bb b1
 clear b1
 clear c0 c1 c2 c3 c4 c5 c6 c7 c8 c9 c10 c11 c12 c13 c14 c15 c16 c17
 obtain ⟨c0, c1, c2, c3, c4, c5, c6, c7, c8, c9, c10, c11, c12, c13, c14, c15, c16, c17⟩ := c18 (kt.alloc (.cells #[.bool false, .string { data := #[] }, .string { data := #[] }] 26))
 go_wp2_with fail
 obtain ⟨x2, hw, ke, b1⟩ := mk1 w2 [.bool false, .string { data := #[] }, .string { data := #[] }] 26
 rw [← hw]
 clear hw c0 c1 c2 c3 c4 c5 c6 c7 c8 c9 c10 c11 c12 c13 c14 c15 c16 c17
 replace kt := kt.below b1
 replace bb := Below.after bb b1
 clear b1
 go_fit (HA.out _ bb)
 rintro e w3 ⟨rfl, b1⟩
 replace kt := kt.below b1
 replace ke := ke.below b1
 replace bb := Below.after bb b1
 clear b1
 obtain ⟨e0, e1, e2⟩ := xk3 ke
 go_wp2_with fail
 go_fit (HL.out _ bb)
 rintro e w4 ⟨rfl, b1⟩
 replace kt := kt.below b1
 replace ke := ke.below b1
 replace bb := Below.after bb b1
 clear b1
 go_wp2
 go_ret
 exact ⟨rfl, bb⟩
end Go.Proofs.YtmojdkjpcjfkeaaGreatDoor
