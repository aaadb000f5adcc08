/-
  gussetref03: Lowest where nothing is to be cut; Frac.
  gussetref03: Sign; a denominator 1.
  gussetref03: Order, Sum, Negate, Less, walked.
  gussetref03: Lowest, where something is to be cut.
  gussetref03: Lowest, where the divisor is below 0; Lowest, of any.
  gussetref03: den, Check, Both.
  gussetref03: Sum, the long way, walked.
  gussetref03: Order, Sum, Negate, Less, of any two.
  gussetref03: Sign, Over, Times.
  gussetref03: Times, Over, Sign, of any two.
-/
import Derived.Test.YtbafjmjcepcckaaGreatDoorO32
import Derived.Test.YtbafjmjcepcckaaGreatDoorO38
set_option maxRecDepth 100000
set_option maxHeartbeats 8000000
namespace Go.Proofs.YtbafjmjcepcckaaGreatDoor
open Go.RowKit Go.Shelf
theorem low_one (n0 gN : Bool) (s0 s1 gS : ByteArray) (w : World) (hg : (gS.toList == [1]) = true)
  (H1 : Hid (∀ w1, Calls Tryz.prog 82 #[.agg #[.bool n0, .string s0], .agg #[.bool false, .string s1]] w1 (Re w1 (.agg #[.bool gN, .string gS])))) :
  Calls Tryz.prog 52 #[.agg #[.bool n0, .string s0], .agg #[.bool false, .string s1]] w (Re w (.agg #[.bool n0, .string s0, .string s1])) := by
 go_enter Tryz.func52, Tryz.ntmps52
 go_wp2_with fail
 go_fit (H1.out _)
 rintro e w1 ⟨rfl, b1⟩
 obtain ⟨ka, kb, kr, b1⟩ := al3 b1
 have sz := b1.size
 have bb := b1
 clear b1
 have ta := ka.lt
 have tb := kb.lt
 have tr := kr.lt
 clear ta tb tr
 obtain ⟨ca_0, ca_1⟩ := xk2 (ka.alloc (.cells #[.bool gN, .string gS] 24))
 obtain ⟨cb_2, cb_3⟩ := xk2 (kb.alloc (.cells #[.bool gN, .string gS] 24))
 have cr_4 := cel3_0 (kr.alloc (.cells #[.bool gN, .string gS] 24))
 have fr_5 := Cel.frozen (kr.alloc (.cells #[.bool gN, .string gS] 24)) 0
 have cr_6 := cel3_1 (kr.alloc (.cells #[.bool gN, .string gS] 24))
 have fr_7 := Cel.frozen (kr.alloc (.cells #[.bool gN, .string gS] 24)) 1
 have cr_8 := cel3_2 (kr.alloc (.cells #[.bool gN, .string gS] 24))
 have fr_9 := Cel.frozen (kr.alloc (.cells #[.bool gN, .string gS] 24)) 2
 go_wp2
 have kr' := kr.alloc (.cells #[.bool gN, .string gS] 24)
 exact post_q (p := 4) (by kernel_rfl) rfl rfl (((kr'.set 0 _).set 1 _).set 2 _) ⟨rfl, bset (bset (bset (ba bb _) (by omega) 0 _) (by omega) 1 _) (by omega) 2 _⟩
end Go.Proofs.YtbafjmjcepcckaaGreatDoor
namespace Go.Proofs.YtbafjmjcepcckaaGreatDoor
open Go.RowKit Go.Shelf
theorem rsign_neg (s0 d0 : ByteArray) (w : World)
 :
   Calls Tryz.prog 25 #[.agg #[.bool true, .string s0, .string d0]] w (Re w (.int .i64 (-1))) := by
  go_enter Tryz.func25, Tryz.ntmps25
  go_wp2
  go_ret
  exact ⟨rfl, bel_al _ _⟩
theorem rsign_zero (d0 : ByteArray) (w : World)
 :
   Calls Tryz.prog 25 #[.agg #[.bool false, .string ByteArray.empty, .string d0]] w (Re w (.int .i64 (0))) := by
  go_enter Tryz.func25, Tryz.ntmps25
  go_wp2
  go_ret
  exact ⟨rfl, bel_al _ _⟩
theorem rsign_pos (s0 d0 : ByteArray) (h : s0.toList.isEmpty = false) (w : World)
 :
   Calls Tryz.prog 25 #[.agg #[.bool false, .string s0, .string d0]] w (Re w (.int .i64 (1))) := by
  go_enter Tryz.func25, Tryz.ntmps25
  go_wp2
  go_ret
  exact ⟨rfl, bel_al _ _⟩
theorem one_of {d : ByteArray} (h : (d.toList == [1]) = true) : natOf d = 1 := by
 have e : d = ⟨#[1]⟩ := by
  have h2 : d.toList = [1] := by simpa using h
  by_cases hd : d = ⟨#[1]⟩
  ·exact hd
  ·have := ne1 hd
   rw [h] at this
   cases this
 rw [e]; exact natOf_one
end Go.Proofs.YtbafjmjcepcckaaGreatDoor
namespace Go.Proofs.YtbafjmjcepcckaaGreatDoor
open Go.RowKit Go.Shelf
theorem rsum_ones (n0 n1 xN : Bool) (s0 s1 xS d0 d1 : ByteArray) (h0 : (d0.toList == [1]) = true) (h : (d1.toList == [1]) = true) (w : World)
  (H1 : Hid (∀ w1, Calls Tryz.prog 49 #[.agg #[.bool n0, .string s0], .agg #[.bool n1, .string s1]] w1 (Re w1 (.agg #[.bool xN, .string xS])))) :
  Calls Tryz.prog 24 #[.agg #[.bool n0, .string s0, .string d0], .agg #[.bool n1, .string s1, .string d1]] w (Re w (.agg #[.bool xN, .string xS, .string ⟨#[1]⟩])) := by
 go_enter Tryz.func24, Tryz.ntmps24
 go_wp2_with fail
 obtain ⟨w1, hw, ka, kb, kr, b1⟩ := mk3 w [.bool n0, .string s0, .string d0] [.bool n1, .string s1, .string d1] [.bool false, .string { data := #[] }, .string { data := #[] }] 26 26 26
 rw [← hw]
 clear hw
 have sz := b1.size
 have ta := ka.lt
 have tb := kb.lt
 have tr := kr.lt
 have bb := b1
 clear b1
 obtain ⟨ca_0, ca_1, ca_2⟩ := xk3 ka
 obtain ⟨cb_3, cb_4, cb_5⟩ := xk3 kb
 go_wp2_with fail
 clear ca_0 ca_1 ca_2 cb_3 cb_4 cb_5
 go_fit (H1.out _)
 rintro e w2 ⟨rfl, b1⟩
 have sz := b1.size
 replace ka := ka.below b1
 replace kb := kb.below b1
 replace kr := kr.below b1
 replace bb := Below.after bb b1
 clear b1
 have cr_0 := cel3_0 kr
 have fr_1 := Cel.frozen kr 0
 have cr_2 := cel3_1 kr
 have fr_3 := Cel.frozen kr 1
 have cr_4 := cel3_2 kr
 have fr_5 := Cel.frozen kr 2
 go_wp2
 exact post_q (p := 4) (by kernel_rfl) rfl rfl (((kr.set 0 _).set 1 _).set 2 _) ⟨rfl, bset (bset (bset bb (by omega) 0 _) (by omega) 1 _) (by omega) 2 _⟩
theorem rnegq_walk (n0 xN : Bool) (s0 d0 xS : ByteArray) (w : World)
  (H1 : Hid (∀ w1, Calls Tryz.prog 83 #[.agg #[.bool n0, .string s0]] w1 (Re w1 (.agg #[.bool xN, .string xS])))) :
  Calls Tryz.prog 86 #[.agg #[.bool n0, .string s0, .string d0]] w (Re w (.agg #[.bool xN, .string xS, .string d0])) := by
 go_enter Tryz.func86, Tryz.ntmps86
 go_wp2_with fail
 obtain ⟨w1, hw, ka, kr, b1⟩ := mk2 w [.bool n0, .string s0, .string d0] [.bool false, .string { data := #[] }, .string { data := #[] }] 26 26
 rw [← hw]
 clear hw
 have sz := b1.size
 have ta := ka.lt
 have tr := kr.lt
 have bb := b1
 clear b1
 have qa : w.heap.size ≠ w.heap.size + 1 := by omega
 go_region_held3 (fun w' => xc3 w' w.heap.size (.bool n0) (.string s0) (.string d0)) (first | exact (xk3 ka) | exact (xk3 (Cel.other (Cel.other (Cel.other ka qa 0 _) qa 1 _) qa 2 _))) (first | (go_at_call 83; go_fit (H1.out _); rintro e wn ⟨rfl, bn⟩; replace ka := ka.below (un bn); replace kr := kr.below (un bn); replace bb := Below.after bb (un bn); have e0 := cel3_0 kr; have f0 := Cel.frozen kr 0; have e1 := cel3_1 kr; have f1 := Cel.frozen kr 1; have e2 := cel3_2 kr; have f2 := Cel.frozen kr 2) | fail)
 go_wp2
 exact post_q (p := 2) (by kernel_rfl) rfl rfl (((kr.set 0 _).set 1 _).set 2 _) ⟨rfl, bset (bset (bset bb (by omega) 0 _) (by omega) 1 _) (by omega) 2 _⟩
theorem rless_walk (n0 n1 xN rN : Bool) (s0 d0 s1 d1 xS xD rS rD : ByteArray) (w : World)
  (H1 : Hid (∀ w1, Calls Tryz.prog 86 #[.agg #[.bool n1, .string s1, .string d1]] w1 (Re w1 (.agg #[.bool xN, .string xS, .string xD]))))
  (H2 : Hid (∀ w1, Calls Tryz.prog 24 #[.agg #[.bool n0, .string s0, .string d0], .agg #[.bool xN, .string xS, .string xD]] w1 (Re w1 (.agg #[.bool rN, .string rS, .string rD])))) :
  Calls Tryz.prog 53 #[.agg #[.bool n0, .string s0, .string d0], .agg #[.bool n1, .string s1, .string d1]] w (Re w (.agg #[.bool rN, .string rS, .string rD])) := by
 go_enter Tryz.func53, Tryz.ntmps53
 go_wp2_with fail
 obtain ⟨w1, hw, ka, kb, kr, b1⟩ := mk3 w [.bool n0, .string s0, .string d0] [.bool n1, .string s1, .string d1] [.bool false, .string { data := #[] }, .string { data := #[] }] 26 26 26
 rw [← hw]
 clear hw
 have sz := b1.size
 have ta := ka.lt
 have tb := kb.lt
 have tr := kr.lt
 have bb := b1
 clear b1
 have qa : w.heap.size ≠ w.heap.size + 1 + 1 := by omega
 have qb : w.heap.size + 1 ≠ w.heap.size + 1 + 1 := by omega
 go_region_held3 (fun w' => xc3 w' w.heap.size (.bool n0) (.string s0) (.string d0) ∧ xc3 w' (w.heap.size + 1) (.bool n1) (.string s1) (.string d1)) (first | exact ⟨xk3 ka, xk3 kb⟩ | exact ⟨xk3 (Cel.other (Cel.other (Cel.other ka qa 0 _) qa 1 _) qa 2 _), xk3 (Cel.other (Cel.other (Cel.other kb qb 0 _) qb 1 _) qb 2 _)⟩) (first | (go_at_call 86; go_fit (H1.out _); rintro e wn ⟨rfl, bn⟩; replace ka := ka.below (un bn); replace kb := kb.below (un bn); replace kr := kr.below (un bn); replace bb := Below.after bb (un bn)) | (go_at_call 24; go_fit (H2.out _); rintro e wn ⟨rfl, bn⟩; replace ka := ka.below (un bn); replace kb := kb.below (un bn); replace kr := kr.below (un bn); replace bb := Below.after bb (un bn); have e0 := cel3_0 kr; have f0 := Cel.frozen kr 0; have e1 := cel3_1 kr; have f1 := Cel.frozen kr 1; have e2 := cel3_2 kr; have f2 := Cel.frozen kr 2))
 go_wp2
 exact post_q (p := 4) (by kernel_rfl) rfl rfl (((kr.set 0 _).set 1 _).set 2 _) ⟨rfl, bset (bset (bset bb (by omega) 0 _) (by omega) 1 _) (by omega) 2 _⟩
end Go.Proofs.YtbafjmjcepcckaaGreatDoor
namespace Go.Proofs.YtbafjmjcepcckaaGreatDoor
open Go.RowKit Go.Shelf
theorem rdivN {s g : ByteArray} (hs : s.size ≤ 20000) (hg : g.size ≤ 20000) (hG : 0 < natOf g) (v0 v1 : Value) (w : World) (r0 : Rd w v0 (M.digs D32 (natOf s))) (r1 : Rd w v1 (M.digs D32 (natOf g))) :
  Calls Tryz.prog 84 #[v0, v1] w fun e w' => ∃ q r, e = .returned (.tuple #[q, r]) ∧ Rd w' q (M.digs D32 (natOf s / natOf g)) ∧ Rd w' r (M.digs D32 (natOf s % natOf g)) ∧ Below w.heap.size w w' :=
 rdiv_dig (X := natOf s) (Y := natOf g) (K := 5000) (by omega) (natOf_lt4 5000 (by omega)) (natOf_lt4 5000 (by omega)) hG v0 v1 w r0 r1
theorem natN {s : ByteArray} {g : Nat} (hs : s.size ≤ 20000) (v : Value) (w : World) (r : Rd w v (M.digs D32 (natOf s / g))) :
  Calls Tryz.prog 85 #[v] w (Re w (.string (strOf (natOf s / g)))) := by
 have h : natOf s / g < D32 ^ 5000 := Nat.lt_of_le_of_lt (Nat.div_le_self _ _) (natOf_lt4 5000 (by omega))
 have := rnat_any v _ w r (M.Low.digs D32_two _) (Nat.le_trans (dlen h) (by omega))
 rwa [M.val_digs D32_two] at this
theorem low_cut (n0 gN : Bool) (s0 s1 gS : ByteArray) (w : World) (hg : (gS.toList == [1]) = false) (z0 : s0.size ≤ 20000) (z1 : s1.size ≤ 20000) (zg : gS.size ≤ 20000) (hG : 0 < natOf gS)
  (H1 : Hid (∀ w1, Calls Tryz.prog 82 #[.agg #[.bool n0, .string s0], .agg #[.bool false, .string s1]] w1 (Re w1 (.agg #[.bool gN, .string gS])))) :
  Calls Tryz.prog 52 #[.agg #[.bool n0, .string s0], .agg #[.bool false, .string s1]] w (Re w (.agg #[.bool n0, .string (strOf (natOf s0 / natOf gS)), .string (strOf (natOf s1 / natOf gS))])) := by
 have HD0 := shut (fun v0 v1 w r0 r1 => rdivN (s := s0) (g := gS) z0 zg hG v0 v1 w r0 r1)
 have HD1 := shut (fun v0 v1 w r0 r1 => rdivN (s := s1) (g := gS) z1 zg hG v0 v1 w r0 r1)
 have HN0 := shut (fun v w r => natN (s := s0) (g := natOf gS) z0 v w r)
 have HN1 := shut (fun v w r => natN (s := s1) (g := natOf gS) z1 v w r)
 clear hG
 generalize strOf (natOf s0 / natOf gS) = S at *
 generalize strOf (natOf s1 / natOf gS) = D at *
 go_enter Tryz.func52, Tryz.ntmps52
 go_wp2_with fail
 go_fit (H1.out _)
 rintro e w1 ⟨rfl, b1⟩
 obtain ⟨ka, kb, kr, bb⟩ := al3 b1
 clear b1
 obtain ⟨c0, c1⟩ := xk2 (ka.alloc (.cells #[.bool gN, .string gS] 24))
 obtain ⟨c2, c3⟩ := xk2 (kb.alloc (.cells #[.bool gN, .string gS] 24))
 go_wp2_with fail
 clear c0 c1 c2 c3
 obtain ⟨w2, hw, kg, b1⟩ := mk1 w1 [.bool gN, .string gS] 24
 rw [← hw]
 clear hw
 replace ka := ka.below b1
 replace kb := kb.below b1
 replace kr := kr.below b1
 replace bb := Below.after bb b1
 clear b1
 go_region_held3 (fun w' => xc2 w' w.heap.size (.bool n0) (.string s0) ∧ xc2 w' w1.heap.size (.bool gN) (.string gS)) (exact ⟨xk2 ka, xk2 kg⟩) (first | (go_at_call 84; refine (HD0.out _ _ _ rx ry).mono ?_; rintro e wn ⟨vq, vr, rfl, rq, rr, bn⟩; obtain ⟨aq, cq, rfl, -, -⟩ := id rq; obtain ⟨ar, cr, rfl, -, -⟩ := id rr; replace ka := ka.below bn; replace kb := kb.below bn; replace kr := kr.below bn; replace kg := kg.below bn; replace bb := Below.after bb bn; clear bn) | (go_at_call 77; go_fit (dig_any s0 _ (by omega)); rintro e wn ⟨vx, rfl, rx, bn⟩; obtain ⟨ax, cx, rfl, -, -⟩ := id rx; replace ka := ka.below (un bn); replace kb := kb.below (un bn); replace kr := kr.below (un bn); replace kg := kg.below (un bn); replace bb := Below.after bb (un bn); clear bn) | (go_at_call 77; go_fit (dig_any gS _ (by omega)); rintro e wn ⟨vy, rfl, ry, bn⟩; obtain ⟨ay, cy, rfl, -, -⟩ := id ry; replace rx := rx.below bn; replace ka := ka.below bn; replace kb := kb.below bn; replace kr := kr.below bn; replace kg := kg.below bn; replace bb := Below.after bb bn; clear bn))
 go_wp2_with fail
 clear rx ry rr
 go_region_held3 (fun w' => xc2 w' (w.heap.size + 1) (.bool false) (.string s1) ∧ xc2 w' w1.heap.size (.bool gN) (.string gS)) (exact ⟨xk2 kb, xk2 kg⟩) (first | (go_at_call 84; refine (HD1.out _ _ _ rx ry).mono ?_; rintro e wn ⟨vp, vr, rfl, rp, rr, bn⟩; obtain ⟨ap, cp, rfl, -, -⟩ := id rp; obtain ⟨ar, cr, rfl, -, -⟩ := id rr; replace rq := rq.below bn; replace ka := ka.below bn; replace kb := kb.below bn; replace kr := kr.below bn; replace kg := kg.below bn; replace bb := Below.after bb bn; clear bn) | (go_at_call 77; go_fit (dig_any s1 _ (by omega)); rintro e wn ⟨vx, rfl, rx, bn⟩; obtain ⟨ax, cx, rfl, -, -⟩ := id rx; replace rq := rq.below (un bn); replace ka := ka.below (un bn); replace kb := kb.below (un bn); replace kr := kr.below (un bn); replace kg := kg.below (un bn); replace bb := Below.after bb (un bn); clear bn) | (go_at_call 77; go_fit (dig_any gS _ (by omega)); rintro e wn ⟨vy, rfl, ry, bn⟩; obtain ⟨ay, cy, rfl, -, -⟩ := id ry; replace rx := rx.below bn; replace rq := rq.below bn; replace ka := ka.below bn; replace kb := kb.below bn; replace kr := kr.below bn; replace kg := kg.below bn; replace bb := Below.after bb bn; clear bn))
 go_wp2_with fail
 clear rx ry rr
 have qa : w.heap.size ≠ w.heap.size + 1 + 1 := by omega
 go_region_held3 (fun w' => xc2 w' w.heap.size (.bool n0) (.string s0)) (first | exact (xk2 ka) | exact (xk2 (Cel.other (Cel.other (Cel.other ka qa 0 _) qa 1 _) qa 2 _))) (first | (go_at_call 85; go_fit (HN0.out _ _ ?_); (first | exact rq | exact rq.drew); rintro e wn ⟨rfl, bn⟩; replace rp := rp.below (un bn); replace ka := ka.below (un bn); replace kb := kb.below (un bn); replace kr := kr.below (un bn); replace kg := kg.below (un bn); replace bb := Below.after bb (un bn); clear bn) | (go_at_call 85; go_fit (HN1.out _ _ ?_); exact rp; rintro e wn ⟨rfl, bn⟩; replace ka := ka.below bn; replace kb := kb.below bn; replace kr := kr.below bn; replace kg := kg.below bn; replace bb := Below.after bb bn; clear bn; have e0 := cel3_0 kr; have e1 := cel3_1 kr; have e2 := cel3_2 kr; have f0 := kr.frozen 0; have f1 := kr.frozen 1; have f2 := kr.frozen 2))
 go_wp2
 exact post_q (p := 4) (by kernel_rfl) rfl rfl (((kr.set 0 _).set 1 _).set 2 _) ⟨rfl, bset (bset (bset bb (by omega) 0 _) (by omega) 1 _) (by omega) 2 _⟩
end Go.Proofs.YtbafjmjcepcckaaGreatDoor
namespace Go.Proofs.YtbafjmjcepcckaaGreatDoor
open Go.RowKit Go.Shelf
theorem low_ncut (n0 m0 gN : Bool) (s0 s1 gS : ByteArray) (w : World) (hg : (gS.toList == [1]) = false) (z0 : s0.size ≤ 20000) (z1 : s1.size ≤ 20000) (zg : gS.size ≤ 20000) (hG : 0 < natOf gS)
  (H1 : Hid (∀ w1, Calls Tryz.prog 82 #[.agg #[.bool n0, .string s0], .agg #[.bool true, .string s1]] w1 (Re w1 (.agg #[.bool gN, .string gS]))))
  (H2 : Hid (∀ w1, Calls Tryz.prog 83 #[.agg #[.bool n0, .string s0]] w1 (Re w1 (.agg #[.bool m0, .string s0]))))
  (H3 : Hid (∀ w1, Calls Tryz.prog 83 #[.agg #[.bool true, .string s1]] w1 (Re w1 (.agg #[.bool false, .string s1])))) :
  Calls Tryz.prog 52 #[.agg #[.bool n0, .string s0], .agg #[.bool true, .string s1]] w (Re w (.agg #[.bool m0, .string (strOf (natOf s0 / natOf gS)), .string (strOf (natOf s1 / natOf gS))])) := by
 have HD0 := shut (fun v0 v1 w r0 r1 => rdivN (s := s0) (g := gS) z0 zg hG v0 v1 w r0 r1)
 have HD1 := shut (fun v0 v1 w r0 r1 => rdivN (s := s1) (g := gS) z1 zg hG v0 v1 w r0 r1)
 have HN0 := shut (fun v w r => natN (s := s0) (g := natOf gS) z0 v w r)
 have HN1 := shut (fun v w r => natN (s := s1) (g := natOf gS) z1 v w r)
 clear hG
 generalize strOf (natOf s0 / natOf gS) = S at *
 generalize strOf (natOf s1 / natOf gS) = D at *
 go_enter Tryz.func52, Tryz.ntmps52
 go_wp2_with fail
 go_fit (H1.out _)
 rintro e w1 ⟨rfl, b1⟩
 obtain ⟨ka, kb, kr, bb⟩ := al3 b1
 clear b1
 obtain ⟨c2, c3⟩ := xk2 (kb.alloc (.cells #[.bool gN, .string gS] 24))
 obtain ⟨c0, c1⟩ := xk2 (ka.alloc (.cells #[.bool gN, .string gS] 24))
 go_wp2_with fail
 clear c0 c1 c2 c3
 have t0 := kr.lt
 go_fit (H2.out _)
 rintro e w2 ⟨rfl, b1⟩
 obtain ⟨kg, b1⟩ := al1 b1
 replace ka := ka.below b1
 replace kb := kb.below b1
 replace kr := kr.below b1
 replace bb := Below.after bb b1
 clear b1
 obtain ⟨w3, hw⟩ : ∃ x, x = (w2.setCell ⟨w.heap.size, 0, none⟩ (.bool m0)).setCell ⟨w.heap.size, 1, none⟩ (.string s0) := ⟨_, rfl⟩
 have kb1 := Cel.other (g' := w.heap.size) (Cel.other (g' := w.heap.size) kb (by omega) 0 (.bool m0)) (by omega) 1 (.string s0)
 have kr1 := Cel.other (g' := w.heap.size) (Cel.other (g' := w.heap.size) kr (by omega) 0 (.bool m0)) (by omega) 1 (.string s0)
 have kg1 := Cel.other (g' := w.heap.size) (Cel.other (g' := w.heap.size) kg (by omega) 0 (.bool m0)) (by omega) 1 (.string s0)
 have ka1 := (ka.set 0 (.bool m0)).set 1 (.string s0)
 have bb1 := bset (g := w.heap.size) (bset (g := w.heap.size) bb (by omega) 0 (.bool m0)) (by omega) 1 (.string s0)
 obtain ⟨c0, c1⟩ := xk2 ka
 have f0 := ka.frozen 0
 have f1 := ka.frozen 1
 obtain ⟨c2, c3⟩ := xk2 kb1
 have tt := t0
 clear t0
 go_wp2_with fail
 rw [← hw]
 rw [← hw] at ka1 kb1 kr1 kg1 bb1
 clear hw c0 c1 f0 f1 c2 c3 ka kb kr kg bb
 go_fit (H3.out _)
 rintro e w4 ⟨rfl, b1⟩
 have ka := ka1.below b1
 have kb := kb1.below b1
 have kr := kr1.below b1
 have kg := kg1.below b1
 have bb := Below.after bb1 b1
 clear b1 ka1 kb1 kr1 kg1 bb1
 obtain ⟨w5, hw⟩ : ∃ x, x = (w4.setCell ⟨w.heap.size + 1, 0, none⟩ (.bool false)).setCell ⟨w.heap.size + 1, 1, none⟩ (.string s1) := ⟨_, rfl⟩
 have ka1 := Cel.other (g' := w.heap.size + 1) (Cel.other (g' := w.heap.size + 1) ka (by omega) 0 (.bool false)) (by omega) 1 (.string s1)
 have kr1 := Cel.other (g' := w.heap.size + 1) (Cel.other (g' := w.heap.size + 1) kr (by omega) 0 (.bool false)) (by omega) 1 (.string s1)
 have kg1 := Cel.other (g' := w.heap.size + 1) (Cel.other (g' := w.heap.size + 1) kg (by omega) 0 (.bool false)) (by omega) 1 (.string s1)
 have kb1 := (kb.set 0 (.bool false)).set 1 (.string s1)
 have bb1 := bset (g := w.heap.size + 1) (bset (g := w.heap.size + 1) bb (by omega) 0 (.bool false)) (by omega) 1 (.string s1)
 obtain ⟨c0, c1⟩ := xk2 kb
 have f0 := kb.frozen 0
 have f1 := kb.frozen 1
 obtain ⟨c2, c3⟩ := xk2 kg1
 go_wp2_with fail
 rw [← hw]
 rw [← hw] at ka1 kb1 kr1 kg1 bb1
 clear hw c0 c1 f0 f1 c2 c3 ka kb kr kg bb
 have ka := ka1
 have kb := kb1
 have kr := kr1
 have kg := kg1
 have bb := bb1
 clear ka1 kb1 kr1 kg1 bb1
 go_region_held3 (fun w' => xc2 w' w.heap.size (.bool m0) (.string s0) ∧ xc2 w' w1.heap.size (.bool gN) (.string gS)) (exact ⟨xk2 ka, xk2 kg⟩) (first | (go_at_call 84; refine (HD0.out _ _ _ rx ry).mono ?_; rintro e wn ⟨vq, vr, rfl, rq, rr, bn⟩; obtain ⟨aq, cq, rfl, -, -⟩ := id rq; obtain ⟨ar, cr, rfl, -, -⟩ := id rr; replace ka := ka.below bn; replace kb := kb.below bn; replace kr := kr.below bn; replace kg := kg.below bn; replace bb := Below.after bb bn; clear bn) | (go_at_call 77; go_fit (dig_any s0 _ (by omega)); rintro e wn ⟨vx, rfl, rx, bn⟩; obtain ⟨ax, cx, rfl, -, -⟩ := id rx; replace ka := ka.below (un bn); replace kb := kb.below (un bn); replace kr := kr.below (un bn); replace kg := kg.below (un bn); replace bb := Below.after bb (un bn); clear bn) | (go_at_call 77; go_fit (dig_any gS _ (by omega)); rintro e wn ⟨vy, rfl, ry, bn⟩; obtain ⟨ay, cy, rfl, -, -⟩ := id ry; replace rx := rx.below bn; replace ka := ka.below bn; replace kb := kb.below bn; replace kr := kr.below bn; replace kg := kg.below bn; replace bb := Below.after bb bn; clear bn))
 go_wp2_with fail
 clear rx ry rr
 go_region_held3 (fun w' => xc2 w' (w.heap.size + 1) (.bool false) (.string s1) ∧ xc2 w' w1.heap.size (.bool gN) (.string gS)) (exact ⟨xk2 kb, xk2 kg⟩) (first | (go_at_call 84; refine (HD1.out _ _ _ rx ry).mono ?_; rintro e wn ⟨vp, vr, rfl, rp, rr, bn⟩; obtain ⟨ap, cp, rfl, -, -⟩ := id rp; obtain ⟨ar, cr, rfl, -, -⟩ := id rr; replace rq := rq.below bn; replace ka := ka.below bn; replace kb := kb.below bn; replace kr := kr.below bn; replace kg := kg.below bn; replace bb := Below.after bb bn; clear bn) | (go_at_call 77; go_fit (dig_any s1 _ (by omega)); rintro e wn ⟨vx, rfl, rx, bn⟩; obtain ⟨ax, cx, rfl, -, -⟩ := id rx; replace rq := rq.below (un bn); replace ka := ka.below (un bn); replace kb := kb.below (un bn); replace kr := kr.below (un bn); replace kg := kg.below (un bn); replace bb := Below.after bb (un bn); clear bn) | (go_at_call 77; go_fit (dig_any gS _ (by omega)); rintro e wn ⟨vy, rfl, ry, bn⟩; obtain ⟨ay, cy, rfl, -, -⟩ := id ry; replace rx := rx.below bn; replace rq := rq.below bn; replace ka := ka.below bn; replace kb := kb.below bn; replace kr := kr.below bn; replace kg := kg.below bn; replace bb := Below.after bb bn; clear bn))
 go_wp2_with fail
 clear rx ry rr
 have qa : w.heap.size ≠ w.heap.size + 1 + 1 := by omega
 go_region_held3 (fun w' => xc2 w' w.heap.size (.bool m0) (.string s0)) (first | exact (xk2 ka) | exact (xk2 (Cel.other (Cel.other (Cel.other ka qa 0 _) qa 1 _) qa 2 _))) (first | (go_at_call 85; go_fit (HN0.out _ _ ?_); (first | exact rq | exact rq.drew); rintro e wn ⟨rfl, bn⟩; replace rp := rp.below (un bn); replace ka := ka.below (un bn); replace kb := kb.below (un bn); replace kr := kr.below (un bn); replace kg := kg.below (un bn); replace bb := Below.after bb (un bn); clear bn) | (go_at_call 85; go_fit (HN1.out _ _ ?_); exact rp; rintro e wn ⟨rfl, bn⟩; replace ka := ka.below bn; replace kb := kb.below bn; replace kr := kr.below bn; replace kg := kg.below bn; replace bb := Below.after bb bn; clear bn; have e0 := cel3_0 kr; have e1 := cel3_1 kr; have e2 := cel3_2 kr; have f0 := kr.frozen 0; have f1 := kr.frozen 1; have f2 := kr.frozen 2))
 go_wp2
 exact post_q (p := 4) (by kernel_rfl) rfl rfl (((kr.set 0 _).set 1 _).set 2 _) ⟨rfl, bset (bset (bset bb (by omega) 0 _) (by omega) 1 _) (by omega) 2 _⟩
theorem low_none (n0 m0 gN : Bool) (s0 s1 gS : ByteArray) (w : World) (hg : (gS.toList == [1]) = true)
  (H1 : Hid (∀ w1, Calls Tryz.prog 82 #[.agg #[.bool n0, .string s0], .agg #[.bool true, .string s1]] w1 (Re w1 (.agg #[.bool gN, .string gS]))))
  (H2 : Hid (∀ w1, Calls Tryz.prog 83 #[.agg #[.bool n0, .string s0]] w1 (Re w1 (.agg #[.bool m0, .string s0]))))
  (H3 : Hid (∀ w1, Calls Tryz.prog 83 #[.agg #[.bool true, .string s1]] w1 (Re w1 (.agg #[.bool false, .string s1])))) :
  Calls Tryz.prog 52 #[.agg #[.bool n0, .string s0], .agg #[.bool true, .string s1]] w (Re w (.agg #[.bool m0, .string s0, .string s1])) := by
 go_enter Tryz.func52, Tryz.ntmps52
 go_wp2_with fail
 go_fit (H1.out _)
 rintro e w1 ⟨rfl, b1⟩
 obtain ⟨ka, kb, kr, bb⟩ := al3 b1
 clear b1
 obtain ⟨c2, c3⟩ := xk2 (kb.alloc (.cells #[.bool gN, .string gS] 24))
 obtain ⟨c0, c1⟩ := xk2 (ka.alloc (.cells #[.bool gN, .string gS] 24))
 go_wp2_with fail
 clear c0 c1 c2 c3
 have t0 := kr.lt
 go_fit (H2.out _)
 rintro e w2 ⟨rfl, b1⟩
 obtain ⟨kg, b1⟩ := al1 b1
 replace ka := ka.below b1
 replace kb := kb.below b1
 replace kr := kr.below b1
 replace bb := Below.after bb b1
 clear b1
 obtain ⟨w3, hw⟩ : ∃ x, x = (w2.setCell ⟨w.heap.size, 0, none⟩ (.bool m0)).setCell ⟨w.heap.size, 1, none⟩ (.string s0) := ⟨_, rfl⟩
 have kb1 := Cel.other (g' := w.heap.size) (Cel.other (g' := w.heap.size) kb (by omega) 0 (.bool m0)) (by omega) 1 (.string s0)
 have kr1 := Cel.other (g' := w.heap.size) (Cel.other (g' := w.heap.size) kr (by omega) 0 (.bool m0)) (by omega) 1 (.string s0)
 have kg1 := Cel.other (g' := w.heap.size) (Cel.other (g' := w.heap.size) kg (by omega) 0 (.bool m0)) (by omega) 1 (.string s0)
 have ka1 := (ka.set 0 (.bool m0)).set 1 (.string s0)
 have bb1 := bset (g := w.heap.size) (bset (g := w.heap.size) bb (by omega) 0 (.bool m0)) (by omega) 1 (.string s0)
 obtain ⟨c0, c1⟩ := xk2 ka
 have f0 := ka.frozen 0
 have f1 := ka.frozen 1
 obtain ⟨c2, c3⟩ := xk2 kb1
 have tt := t0
 clear t0
 go_wp2_with fail
 rw [← hw]
 rw [← hw] at ka1 kb1 kr1 kg1 bb1
 clear hw c0 c1 f0 f1 c2 c3 ka kb kr kg bb
 go_fit (H3.out _)
 rintro e w4 ⟨rfl, b1⟩
 have ka := ka1.below b1
 have kb := kb1.below b1
 have kr := kr1.below b1
 have kg := kg1.below b1
 have bb := Below.after bb1 b1
 clear b1 ka1 kb1 kr1 kg1 bb1
 obtain ⟨w5, hw⟩ : ∃ x, x = (w4.setCell ⟨w.heap.size + 1, 0, none⟩ (.bool false)).setCell ⟨w.heap.size + 1, 1, none⟩ (.string s1) := ⟨_, rfl⟩
 have ka1 := Cel.other (g' := w.heap.size + 1) (Cel.other (g' := w.heap.size + 1) ka (by omega) 0 (.bool false)) (by omega) 1 (.string s1)
 have kr1 := Cel.other (g' := w.heap.size + 1) (Cel.other (g' := w.heap.size + 1) kr (by omega) 0 (.bool false)) (by omega) 1 (.string s1)
 have kg1 := Cel.other (g' := w.heap.size + 1) (Cel.other (g' := w.heap.size + 1) kg (by omega) 0 (.bool false)) (by omega) 1 (.string s1)
 have kb1 := (kb.set 0 (.bool false)).set 1 (.string s1)
 have bb1 := bset (g := w.heap.size + 1) (bset (g := w.heap.size + 1) bb (by omega) 0 (.bool false)) (by omega) 1 (.string s1)
 obtain ⟨c0, c1⟩ := xk2 kb
 have f0 := kb.frozen 0
 have f1 := kb.frozen 1
 obtain ⟨c2, c3⟩ := xk2 kg1
 obtain ⟨e0, e1⟩ := xk2 ka1
 obtain ⟨e2, e3⟩ := xk2 kb1
 obtain ⟨r0, r1, r2⟩ := xk3 kr1
 have g0 := kr1.frozen 0
 have g1 := kr1.frozen 1
 have g2 := kr1.frozen 2
 go_wp2
 exact post_q (p := 4) (by kernel_rfl) rfl rfl (((kr1.set 0 _).set 1 _).set 2 _) ⟨rfl, bset (bset (bset bb1 (by omega) 0 _) (by omega) 1 _) (by omega) 2 _⟩
theorem rneg_some (n : Bool) (s : ByteArray) (w : World) (hs : s.toList.isEmpty = false) :
  Calls Tryz.prog 83 #[.agg #[.bool n, .string s]] w (Re w (.agg #[.bool (!n), .string s])) := by
 cases n
 ·go_enter Tryz.func83, Tryz.ntmps83
  go_wp2
  obtain ⟨w0, hw, k0, k1, b⟩ := mk2 w [.bool false, .string s] [.bool true, .string s] 24 24
  rw [← hw]
  exact post_z (p := 2) (by kernel_rfl) rfl rfl k1 ⟨rfl, b⟩
 ·go_enter Tryz.func83, Tryz.ntmps83
  go_wp2
  obtain ⟨w0, hw, k0, k1, b⟩ := mk2 w [.bool true, .string s] [.bool false, .string s] 24 24
  rw [← hw]
  exact post_z (p := 2) (by kernel_rfl) rfl rfl k1 ⟨rfl, b⟩
theorem rneg_none (w : World) :
  Calls Tryz.prog 83 #[.agg #[.bool false, .string ByteArray.empty]] w (Re w (.agg #[.bool false, .string ByteArray.empty])) := by
 go_enter Tryz.func83, Tryz.ntmps83
 go_wp2
 obtain ⟨w0, hw, k0, k1, b⟩ := mk2 w [.bool false, .string ByteArray.empty] [.bool false, .string ByteArray.empty] 24 24
 rw [← hw]
 exact post_z (p := 2) (by kernel_rfl) rfl rfl k1 ⟨rfl, b⟩
theorem rneg_ok (n : Bool) (s : ByteArray) (o : OkZ n s) : ∃ m, zOf m s = -zOf n s ∧ OkZ m s ∧ ∀ w, Calls Tryz.prog 83 #[.agg #[.bool n, .string s]] w (Re w (.agg #[.bool m, .string s])) := by
 by_cases hs : 0 < s.size
 ·exact ⟨!n, by cases n <;> simp [zOf], ⟨o.1, fun _ => hs⟩, fun w => rneg_some n s w (by simpa using toList_ne hs)⟩
 ·have g3 : s = ByteArray.empty := ByteArray.size_eq_zero_iff.1 (by omega)
  subst g3
  have hn : n = false := by
   cases n with
   | false => rfl
   | true => exact absurd (o.2 rfl) hs
  subst hn
  exact ⟨false, rfl, o, fun w => rneg_none w⟩
theorem zI_quot {n : Bool} {s : ByteArray} {G : Nat} (o : OkZ n s) (hG : 0 < G) (hd : G ∣ natOf s) : zI (zOf n s / (G : Int)) = .agg #[.bool n, .string (strOf (natOf s / G))] := by
 obtain ⟨k, hk⟩ := hd
 have hne : (G : Int) ≠ 0 := by omega
 have e : zOf n s / (G : Int) = if n then -(k : Int) else (k : Int) := by
  cases n with
  | false => rw [show zOf false s = (G : Int) * k by simp [zOf, hk], Int.mul_ediv_cancel_left _ hne]; rfl
  | true => rw [show zOf true s = (G : Int) * (-(k : Int)) by simp [zOf, hk, Int.mul_neg], Int.mul_ediv_cancel_left _ hne]; rfl
 rw [e, hk, Nat.mul_div_cancel_left k hG]
 cases n with
 | false => show zV (decide (((k : Nat) : Int) < 0)) (strOf ((k : Nat) : Int).natAbs) = _; rw [show decide (((k : Nat) : Int) < 0) = false by simp]; rfl
 | true =>
  have hp := natOf_pos o.1 (o.2 rfl)
  have hkp : 0 < k := Nat.pos_of_ne_zero fun e => by rw [e, Nat.mul_zero] at hk; omega
  show zV (decide (-((k : Nat) : Int) < 0)) (strOf (-((k : Nat) : Int)).natAbs) = _
  rw [show decide (-((k : Nat) : Int) < 0) = true by simp; omega, show (-((k : Nat) : Int)).natAbs = k by omega]
  rfl
theorem low_any (n0 n1 : Bool) (s0 s1 : ByteArray) (w : World) (o0 : OkZ n0 s0) (o1 : OkZ n1 s1) (z0 : s0.size ≤ 20000) (z1 : s1.size ≤ 20000) (hp : 0 < natOf s1) :
  Calls Tryz.prog 52 #[.agg #[.bool n0, .string s0], .agg #[.bool n1, .string s1]] w (Re w (qI (Rat.divInt (zOf n0 s0) (zOf n1 s1)))) := by
 obtain ⟨G, hG⟩ : ∃ G, G = Nat.gcd (natOf s0) (natOf s1) := ⟨_, rfl⟩
 have hGp : 0 < G := by rw [hG]; exact Nat.gcd_pos_of_pos_right _ hp
 have d0 : G ∣ natOf s0 := by rw [hG]; exact Nat.gcd_dvd_left _ _
 have hd : zOf n1 s1 ≠ 0 := fun e => by have := natAbs_zOf n1 s1; rw [e] at this; simp at this; omega
 have key := Q.make_low (zOf n0 s0) (zOf n1 s1) hd G (by rw [natAbs_zOf, natAbs_zOf]; exact hG)
 rw [natAbs_zOf] at key
 have H1 : Hid (∀ w1, Calls Tryz.prog 82 #[.agg #[.bool n0, .string s0], .agg #[.bool n1, .string s1]] w1 (Re w1 (.agg #[.bool false, .string (strOf G)]))) := by
  intro w1
  have := rcommon_any n0 n1 s0 s1 w1 (by omega) (by omega)
  rw [← hG] at this
  have e : zI ((G : Nat) : Int) = .agg #[.bool false, .string (strOf G)] := by
   show zV _ _ = _
   rw [Int.natAbs_natCast, show decide (((G : Nat) : Int) < 0) = false by simp]
   rfl
  rwa [e] at this
 have zG : (strOf G).size ≤ 20000 := by
  have hb : Bd (G : Int) s1.size := (bd_nat (Nat.le_refl _)).nat (by rw [hG]; exact Nat.le_of_dvd hp (Nat.gcd_dvd_right _ _))
  have := hb.size
  rw [Int.natAbs_natCast] at this
  omega
 have nG : natOf (strOf G) = G := natOf_strOf G
 cases n1 with
 | false =>
  rw [if_neg (show ¬ zOf false s1 < 0 by simp [zOf])] at key
  rw [qI_of key (zI_quot o0 hGp d0) rfl]
  by_cases hg : G = 1
  ·rw [hg, Nat.div_one, Nat.div_one, strOf_natOf o0.1, strOf_natOf o1.1]
   exact low_one n0 false s0 s1 (strOf G) w (eq1 (by rw [hg, strOf_one])) H1
  ·have := low_cut n0 false s0 s1 (strOf G) w (ne1 fun e => hg (by rw [← nG, e, natOf_one])) z0 z1 zG (by omega) H1
   rwa [nG] at this
 | true =>
  have hs0 : (if zOf true s1 < 0 then -zOf n0 s0 else zOf n0 s0) = -zOf n0 s0 := if_pos (by simp [zOf]; omega)
  rw [hs0] at key
  obtain ⟨m0, em, om, hm⟩ := rneg_ok n0 s0 o0
  rw [← em] at key
  rw [qI_of key (zI_quot om hGp d0) rfl]
  have H3 : Hid (∀ w1, Calls Tryz.prog 83 #[.agg #[.bool true, .string s1]] w1 (Re w1 (.agg #[.bool false, .string s1]))) := fun w1 => rneg_some true s1 w1 (isE hp)
  by_cases hg : G = 1
  ·rw [hg, Nat.div_one, Nat.div_one, strOf_natOf o0.1, strOf_natOf o1.1]
   exact low_none n0 m0 false s0 s1 (strOf G) w (eq1 (by rw [hg, strOf_one])) H1 hm H3
  ·have := low_ncut n0 m0 false s0 s1 (strOf G) w (ne1 fun e => hg (by rw [← nG, e, natOf_one])) z0 z1 zG (by omega) H1 hm H3
   rwa [nG] at this
end Go.Proofs.YtbafjmjcepcckaaGreatDoor
namespace Go.Proofs.YtbafjmjcepcckaaGreatDoor
open Go.RowKit Go.Shelf
theorem rden_any (n : Bool) (s d : ByteArray) (w : World) :
  Calls Tryz.prog 51 #[.agg #[.bool n, .string s, .string d]] w (Re w (.agg #[.bool false, .string d])) := by
 go_enter Tryz.func51, Tryz.ntmps51
 go_wp2
 obtain ⟨w0, hw, k0, k1, b⟩ := mk2 w [.bool n, .string s, .string d] [.bool false, .string d] 26 24
 rw [← hw]
 exact post_z (p := 2) (by kernel_rfl) rfl rfl k1 ⟨rfl, b⟩
theorem refc_num (n : Bool) (s d : ByteArray) (w : World) (hs : ¬ (8000 : Int) < s.size) (hd : ¬ (8000 : Int) < d.size) (c : Int) (hc : ¬ c = 0)
  (HC : Hid (∀ w1, Calls Tryz.prog 100 #[.agg #[.bool n, .string s]] w1 (Re w1 (.int .i64 c)))) :
  Calls Tryz.prog 63 #[.agg #[.bool n, .string s, .string d]] w (Re w (.int .i64 1)) := by
 have hc' : (c != 0) = true := by simpa using hc
 go_enter Tryz.func63, Tryz.ntmps63
 go_wp2_with fail
 obtain ⟨w0, hw, k0, bb⟩ := mk1 w [.bool n, .string s, .string d] 26
 rw [← hw]
 clear hw
 refine wp_region_held_drew (S := (fun w' => xc3 w' w.heap.size (.bool n) (.string s) (.string d))) (by kernel_rfl) ?_ (fun hHeld => ?_)
 ·exact (xk3 k0)
 refine tq 0 rfl ?_
 refine tq 1 rfl ?_
 refine wpAnyH_ready (rs := [2]) (by kernel_rfl) (by simp) ?_
 refine AllReadyH.cons (o := _) rfl (fun K hK => ?_) AllReadyH.nil
 simp only [List.getElem_toArray, List.getElem_cons_succ, List.getElem_cons_zero]
 go_simp
 go_fit (HC.out _)
 rintro e wn ⟨rfl, bn⟩
 replace k0 := k0.below (un bn)
 replace bb := Below.after bb (un bn)
 clear bn
 try go_wp2_with fail
 refine hK.out _ _ ?_ (fun hHeld => ?_)
 ·exact (xk3 k0)
 clear hK K
 refine tq 3 rfl ?_
 refine tq 4 rfl ?_
 refine tu 5 rfl ?_
 refine tu 6 rfl ?_
 refine tu 7 rfl ?_
 refine tu 8 rfl ?_
 refine tq 9 rfl ?_
 refine tq 10 rfl ?_
 refine tu 11 rfl ?_
 refine tu 12 rfl ?_
 refine tu 13 rfl ?_
 refine tq 14 rfl ?_
 refine tq 15 rfl ?_
 refine tu 16 rfl ?_
 refine tu 17 rfl ?_
 refine tu 18 rfl ?_
 refine tu 19 rfl ?_
 refine tu 20 rfl ?_
 refine tu 21 rfl ?_
 refine tu 22 rfl ?_
 refine tq 23 rfl ?_
 refine wpAnyH_done (by kernel_rfl) ?_ _
 go_wp2
 go_ret
 exact ⟨rfl, bb⟩
theorem refc_nat (n : Bool) (s d : ByteArray) (w : World) (hs : ¬ (8000 : Int) < s.size) (hd : ¬ (8000 : Int) < d.size)
  (HC : Hid (∀ w1, Calls Tryz.prog 100 #[.agg #[.bool n, .string s]] w1 (Re w1 (.int .i64 0))))
  (HI : Hid (∀ w1, Calls Tryz.prog 101 #[.string d] w1 (Re w1 (.bool false)))) :
  Calls Tryz.prog 63 #[.agg #[.bool n, .string s, .string d]] w (Re w (.int .i64 1)) := by
 go_enter Tryz.func63, Tryz.ntmps63
 go_wp2_with fail
 obtain ⟨w0, hw, k0, bb⟩ := mk1 w [.bool n, .string s, .string d] 26
 rw [← hw]
 clear hw
 refine wp_region_held_drew (S := (fun w' => xc3 w' w.heap.size (.bool n) (.string s) (.string d))) (by kernel_rfl) ?_ (fun hHeld => ?_)
 ·exact (xk3 k0)
 refine tq 0 rfl ?_
 refine tq 1 rfl ?_
 refine wpAnyH_ready (rs := [2]) (by kernel_rfl) (by simp) ?_
 refine AllReadyH.cons (o := _) rfl (fun K hK => ?_) AllReadyH.nil
 simp only [List.getElem_toArray, List.getElem_cons_succ, List.getElem_cons_zero]
 go_simp
 go_fit (HC.out _)
 rintro e wn ⟨rfl, bn⟩
 replace k0 := k0.below (un bn)
 replace bb := Below.after bb (un bn)
 clear bn
 try go_wp2_with fail
 refine hK.out _ _ ?_ (fun hHeld => ?_)
 ·exact (xk3 k0)
 clear hK K
 refine tq 3 rfl ?_
 refine tq 4 rfl ?_
 refine tq 5 rfl ?_
 refine tq 6 rfl ?_
 refine wpAnyH_ready (rs := [7]) (by kernel_rfl) (by simp) ?_
 refine AllReadyH.cons (o := _) rfl (fun K hK => ?_) AllReadyH.nil
 simp only [List.getElem_toArray, List.getElem_cons_succ, List.getElem_cons_zero]
 go_simp
 go_fit (HI.out _)
 rintro e wn ⟨rfl, bn⟩
 replace k0 := k0.below (un bn)
 replace bb := Below.after bb (un bn)
 clear bn
 try go_wp2_with fail
 refine hK.out _ _ ?_ (fun hHeld => ?_)
 ·exact (xk3 k0)
 clear hK K
 refine tq 8 rfl ?_
 refine tq 9 rfl ?_
 refine tq 10 rfl ?_
 refine tu 11 rfl ?_
 refine tu 12 rfl ?_
 refine tu 13 rfl ?_
 refine tq 14 rfl ?_
 refine tq 15 rfl ?_
 refine tu 16 rfl ?_
 refine tu 17 rfl ?_
 refine tu 18 rfl ?_
 refine tu 19 rfl ?_
 refine tu 20 rfl ?_
 refine tu 21 rfl ?_
 refine tu 22 rfl ?_
 refine tq 23 rfl ?_
 refine wpAnyH_done (by kernel_rfl) ?_ _
 go_wp2
 go_ret
 exact ⟨rfl, bb⟩
theorem refc_nil (n : Bool) (s : ByteArray) (w : World) (hs : ¬ (8000 : Int) < s.size)
  (HC : Hid (∀ w1, Calls Tryz.prog 100 #[.agg #[.bool n, .string s]] w1 (Re w1 (.int .i64 0))))
  (HI : Hid (∀ w1, Calls Tryz.prog 101 #[.string ByteArray.empty] w1 (Re w1 (.bool true)))) :
  Calls Tryz.prog 63 #[.agg #[.bool n, .string s, .string ByteArray.empty]] w (Re w (.int .i64 1)) := by
 go_enter Tryz.func63, Tryz.ntmps63
 go_wp2_with fail
 obtain ⟨w0, hw, k0, bb⟩ := mk1 w [.bool n, .string s, .string ByteArray.empty] 26
 rw [← hw]
 clear hw
 refine wp_region_held_drew (S := (fun w' => xc3 w' w.heap.size (.bool n) (.string s) (.string ByteArray.empty))) (by kernel_rfl) ?_ (fun hHeld => ?_)
 ·exact (xk3 k0)
 refine tq 0 rfl ?_
 refine tq 1 rfl ?_
 refine wpAnyH_ready (rs := [2]) (by kernel_rfl) (by simp) ?_
 refine AllReadyH.cons (o := _) rfl (fun K hK => ?_) AllReadyH.nil
 simp only [List.getElem_toArray, List.getElem_cons_succ, List.getElem_cons_zero]
 go_simp
 go_fit (HC.out _)
 rintro e wn ⟨rfl, bn⟩
 replace k0 := k0.below (un bn)
 replace bb := Below.after bb (un bn)
 clear bn
 try go_wp2_with fail
 refine hK.out _ _ ?_ (fun hHeld => ?_)
 ·exact (xk3 k0)
 clear hK K
 refine tq 3 rfl ?_
 refine tq 4 rfl ?_
 refine tq 5 rfl ?_
 refine tq 6 rfl ?_
 refine wpAnyH_ready (rs := [7]) (by kernel_rfl) (by simp) ?_
 refine AllReadyH.cons (o := _) rfl (fun K hK => ?_) AllReadyH.nil
 simp only [List.getElem_toArray, List.getElem_cons_succ, List.getElem_cons_zero]
 go_simp
 go_fit (HI.out _)
 rintro e wn ⟨rfl, bn⟩
 replace k0 := k0.below (un bn)
 replace bb := Below.after bb (un bn)
 clear bn
 try go_wp2_with fail
 refine hK.out _ _ ?_ (fun hHeld => ?_)
 ·exact (xk3 k0)
 clear hK K
 refine tq 8 rfl ?_
 refine tq 9 rfl ?_
 refine tq 10 rfl ?_
 refine tq 11 rfl ?_
 refine tq 12 rfl ?_
 refine tq 13 rfl ?_
 refine tq 14 rfl ?_
 refine tq 15 rfl ?_
 refine tu 16 rfl ?_
 refine tu 17 rfl ?_
 refine tu 18 rfl ?_
 refine tu 19 rfl ?_
 refine tu 20 rfl ?_
 refine tu 21 rfl ?_
 refine tu 22 rfl ?_
 refine tq 23 rfl ?_
 refine wpAnyH_done (by kernel_rfl) ?_ _
 go_wp2
 go_ret
 exact ⟨rfl, bb⟩
theorem refc_gcd (n zN : Bool) (s d zS : ByteArray) (w : World) (hs : ¬ (8000 : Int) < s.size) (hd : ¬ (8000 : Int) < d.size) (h0 : d.toList.isEmpty = false) (hz : (zS.toList == [1]) = false)
  (HC : Hid (∀ w1, Calls Tryz.prog 100 #[.agg #[.bool n, .string s]] w1 (Re w1 (.int .i64 0))))
  (HI : Hid (∀ w1, Calls Tryz.prog 101 #[.string d] w1 (Re w1 (.bool true))))
  (HG : Hid (∀ w1, Calls Tryz.prog 82 #[.agg #[.bool n, .string s], .agg #[.bool false, .string d]] w1 (Re w1 (.agg #[.bool zN, .string zS])))) :
  Calls Tryz.prog 63 #[.agg #[.bool n, .string s, .string d]] w (Re w (.int .i64 1)) := by
 have gf := fld1 zN zS
 go_enter Tryz.func63, Tryz.ntmps63
 go_wp2_with fail
 obtain ⟨w0, hw, k0, bb⟩ := mk1 w [.bool n, .string s, .string d] 26
 rw [← hw]
 clear hw
 refine wp_region_held_drew (S := (fun w' => xc3 w' w.heap.size (.bool n) (.string s) (.string d))) (by kernel_rfl) ?_ (fun hHeld => ?_)
 ·exact (xk3 k0)
 refine tq 0 rfl ?_
 refine tq 1 rfl ?_
 refine wpAnyH_ready (rs := [2]) (by kernel_rfl) (by simp) ?_
 refine AllReadyH.cons (o := _) rfl (fun K hK => ?_) AllReadyH.nil
 simp only [List.getElem_toArray, List.getElem_cons_succ, List.getElem_cons_zero]
 go_simp
 go_fit (HC.out _)
 rintro e wn ⟨rfl, bn⟩
 replace k0 := k0.below (un bn)
 replace bb := Below.after bb (un bn)
 clear bn
 try go_wp2_with fail
 refine hK.out _ _ ?_ (fun hHeld => ?_)
 ·exact (xk3 k0)
 clear hK K
 refine tq 3 rfl ?_
 refine tq 4 rfl ?_
 refine tq 5 rfl ?_
 refine tq 6 rfl ?_
 refine wpAnyH_ready (rs := [7]) (by kernel_rfl) (by simp) ?_
 refine AllReadyH.cons (o := _) rfl (fun K hK => ?_) AllReadyH.nil
 simp only [List.getElem_toArray, List.getElem_cons_succ, List.getElem_cons_zero]
 go_simp
 go_fit (HI.out _)
 rintro e wn ⟨rfl, bn⟩
 replace k0 := k0.below (un bn)
 replace bb := Below.after bb (un bn)
 clear bn
 try go_wp2_with fail
 refine hK.out _ _ ?_ (fun hHeld => ?_)
 ·exact (xk3 k0)
 clear hK K
 refine tq 8 rfl ?_
 refine tq 9 rfl ?_
 refine tq 10 rfl ?_
 refine tq 11 rfl ?_
 refine tq 12 rfl ?_
 refine tq 13 rfl ?_
 refine tq 14 rfl ?_
 refine tq 15 rfl ?_
 refine tq 16 rfl ?_
 refine tq 17 rfl ?_
 refine tq 18 rfl ?_
 refine wpAnyH_ready (rs := [19]) (by kernel_rfl) (by simp) ?_
 refine AllReadyH.cons (o := _) rfl (fun K hK => ?_) AllReadyH.nil
 simp only [List.getElem_toArray, List.getElem_cons_succ, List.getElem_cons_zero]
 go_simp
 go_fit (rden_any _ _ _ _)
 rintro e wn ⟨rfl, bn⟩
 replace k0 := k0.below (un bn)
 replace bb := Below.after bb (un bn)
 clear bn
 try go_wp2_with fail
 refine hK.out _ _ ?_ (fun hHeld => ?_)
 ·exact (xk3 k0)
 clear hK K
 refine wpAnyH_ready (rs := [20]) (by kernel_rfl) (by simp) ?_
 refine AllReadyH.cons (o := _) rfl (fun K hK => ?_) AllReadyH.nil
 simp only [List.getElem_toArray, List.getElem_cons_succ, List.getElem_cons_zero]
 go_simp
 go_fit (HG.out _)
 rintro e wn ⟨rfl, bn⟩
 replace k0 := k0.below (un bn)
 replace bb := Below.after bb (un bn)
 clear bn
 try go_wp2_with fail
 refine hK.out _ _ ?_ (fun hHeld => ?_)
 ·exact (xk3 k0)
 clear hK K
 refine tq 21 rfl ?_
 refine tq 22 rfl ?_
 refine tq 23 rfl ?_
 refine wpAnyH_done (by kernel_rfl) ?_ _
 go_wp2
 go_ret
 exact ⟨rfl, bb⟩
theorem refc_ok (n zN : Bool) (s d zS : ByteArray) (w : World) (hs : ¬ (8000 : Int) < s.size) (hd : ¬ (8000 : Int) < d.size) (h0 : d.toList.isEmpty = false) (hz : (zS.toList == [1]) = true)
  (HC : Hid (∀ w1, Calls Tryz.prog 100 #[.agg #[.bool n, .string s]] w1 (Re w1 (.int .i64 0))))
  (HI : Hid (∀ w1, Calls Tryz.prog 101 #[.string d] w1 (Re w1 (.bool true))))
  (HG : Hid (∀ w1, Calls Tryz.prog 82 #[.agg #[.bool n, .string s], .agg #[.bool false, .string d]] w1 (Re w1 (.agg #[.bool zN, .string zS])))) :
  Calls Tryz.prog 63 #[.agg #[.bool n, .string s, .string d]] w (Re w (.int .i64 0)) := by
 have gf := fld1 zN zS
 go_enter Tryz.func63, Tryz.ntmps63
 go_wp2_with fail
 obtain ⟨w0, hw, k0, bb⟩ := mk1 w [.bool n, .string s, .string d] 26
 rw [← hw]
 clear hw
 refine wp_region_held_drew (S := (fun w' => xc3 w' w.heap.size (.bool n) (.string s) (.string d))) (by kernel_rfl) ?_ (fun hHeld => ?_)
 ·exact (xk3 k0)
 refine tq 0 rfl ?_
 refine tq 1 rfl ?_
 refine wpAnyH_ready (rs := [2]) (by kernel_rfl) (by simp) ?_
 refine AllReadyH.cons (o := _) rfl (fun K hK => ?_) AllReadyH.nil
 simp only [List.getElem_toArray, List.getElem_cons_succ, List.getElem_cons_zero]
 go_simp
 go_fit (HC.out _)
 rintro e wn ⟨rfl, bn⟩
 replace k0 := k0.below (un bn)
 replace bb := Below.after bb (un bn)
 clear bn
 try go_wp2_with fail
 refine hK.out _ _ ?_ (fun hHeld => ?_)
 ·exact (xk3 k0)
 clear hK K
 refine tq 3 rfl ?_
 refine tq 4 rfl ?_
 refine tq 5 rfl ?_
 refine tq 6 rfl ?_
 refine wpAnyH_ready (rs := [7]) (by kernel_rfl) (by simp) ?_
 refine AllReadyH.cons (o := _) rfl (fun K hK => ?_) AllReadyH.nil
 simp only [List.getElem_toArray, List.getElem_cons_succ, List.getElem_cons_zero]
 go_simp
 go_fit (HI.out _)
 rintro e wn ⟨rfl, bn⟩
 replace k0 := k0.below (un bn)
 replace bb := Below.after bb (un bn)
 clear bn
 try go_wp2_with fail
 refine hK.out _ _ ?_ (fun hHeld => ?_)
 ·exact (xk3 k0)
 clear hK K
 refine tq 8 rfl ?_
 refine tq 9 rfl ?_
 refine tq 10 rfl ?_
 refine tq 11 rfl ?_
 refine tq 12 rfl ?_
 refine tq 13 rfl ?_
 refine tq 14 rfl ?_
 refine tq 15 rfl ?_
 refine tq 16 rfl ?_
 refine tq 17 rfl ?_
 refine tq 18 rfl ?_
 refine wpAnyH_ready (rs := [19]) (by kernel_rfl) (by simp) ?_
 refine AllReadyH.cons (o := _) rfl (fun K hK => ?_) AllReadyH.nil
 simp only [List.getElem_toArray, List.getElem_cons_succ, List.getElem_cons_zero]
 go_simp
 go_fit (rden_any _ _ _ _)
 rintro e wn ⟨rfl, bn⟩
 replace k0 := k0.below (un bn)
 replace bb := Below.after bb (un bn)
 clear bn
 try go_wp2_with fail
 refine hK.out _ _ ?_ (fun hHeld => ?_)
 ·exact (xk3 k0)
 clear hK K
 refine wpAnyH_ready (rs := [20]) (by kernel_rfl) (by simp) ?_
 refine AllReadyH.cons (o := _) rfl (fun K hK => ?_) AllReadyH.nil
 simp only [List.getElem_toArray, List.getElem_cons_succ, List.getElem_cons_zero]
 go_simp
 go_fit (HG.out _)
 rintro e wn ⟨rfl, bn⟩
 replace k0 := k0.below (un bn)
 replace bb := Below.after bb (un bn)
 clear bn
 try go_wp2_with fail
 refine hK.out _ _ ?_ (fun hHeld => ?_)
 ·exact (xk3 k0)
 clear hK K
 refine tq 21 rfl ?_
 refine tq 22 rfl ?_
 refine tq 23 rfl ?_
 refine wpAnyH_done (by kernel_rfl) ?_ _
 go_wp2
 go_ret
 exact ⟨rfl, bb⟩
theorem refc_any (n : Bool) (s d : ByteArray) (w : World) (zs : s.size ≤ 8000) (zd : d.size ≤ 8000) :
  Calls Tryz.prog 63 #[.agg #[.bool n, .string s, .string d]] w (Re w (.int .i64 (chkq n s d : Nat))) := by
 have hs : ¬ (8000 : Int) < s.size := by omega
 have hd : ¬ (8000 : Int) < d.size := by omega
 have hl : ¬ (8000 < s.size ∨ 8000 < d.size) := by omega
 by_cases c0 : chk n s = 0
 ·have HC : Hid (∀ w1, Calls Tryz.prog 100 #[.agg #[.bool n, .string s]] w1 (Re w1 (.int .i64 0))) := by
   intro w1
   have := rcheck_any n s w1
   rwa [c0] at this
  have o := (chk_ok (by omega)).1 c0
  by_cases h0 : 0 < d.size
  ·by_cases hb : lm (byts d) 0 = 0
   ·rw [show chkq n s d = 1 by unfold chkq; rw [if_neg hl, if_pos (Or.inr (Or.inr (Or.inl hb)))]]
    exact refc_nat n s d w hs hd HC (fun w1 => (isNat_no d w1 h0 hb).mono fun e w' h => ⟨h.1, by rw [h.2]; exact Below.refl _ _⟩)
   ·have od : OkS d := fun _ => hb
    have HI : Hid (∀ w1, Calls Tryz.prog 101 #[.string d] w1 (Re w1 (.bool true))) := fun w1 => (isNat_yes d w1 (fun _ => hb)).mono fun e w' h => ⟨h.1, by rw [h.2]; exact Below.refl _ _⟩
    have HG : Hid (∀ w1, Calls Tryz.prog 82 #[.agg #[.bool n, .string s], .agg #[.bool false, .string d]] w1 (Re w1 (.agg #[.bool false, .string (strOf (Nat.gcd (natOf s) (natOf d)))]))) := by
     intro w1
     have := rcommon_any n false s d w1 (by omega) (by omega)
     have e : zI ((Nat.gcd (natOf s) (natOf d) : Nat) : Int) = .agg #[.bool false, .string (strOf (Nat.gcd (natOf s) (natOf d)))] := by
      show zV _ _ = _
      rw [Int.natAbs_natCast, show decide ((((Nat.gcd (natOf s) (natOf d) : Nat)) : Int) < 0) = false by simp]
      rfl
     rwa [e] at this
    have h5 : d.toList.isEmpty = false := by simpa using toList_ne h0
    by_cases hg : Nat.gcd (natOf s) (natOf d) = 1
    ·rw [chkq_ok ⟨o, od, natOf_pos od h0, hg⟩ zs zd]
     exact refc_ok n false s d _ w hs hd h5 (eq1 (by rw [hg, strOf_one])) HC HI HG
    ·rw [show chkq n s d = 1 by unfold chkq; rw [if_neg hl, if_pos (Or.inr (Or.inr (Or.inr hg)))]]
     exact refc_gcd n false s d _ w hs hd h5 (ne1 fun h => hg (by
      have := natOf_strOf (Nat.gcd (natOf s) (natOf d))
      rw [h, natOf_one] at this
      exact this.symm)) HC HI HG
  ·have g3 : d = ByteArray.empty := ByteArray.size_eq_zero_iff.1 (by omega)
   subst g3
   rw [show chkq n s ByteArray.empty = 1 by unfold chkq; rw [if_neg hl, if_pos (Or.inr (Or.inl (show ByteArray.empty.size = 0 from rfl)))]]
   exact refc_nil n s w hs HC (fun w1 => (isNat_yes ByteArray.empty w1 (fun h => absurd h h0)).mono fun e w' h => ⟨h.1, by rw [h.2]; exact Below.refl _ _⟩)
 ·have h1 : chk n s = 1 := by
   unfold chk at c0 ⊢
   rw [if_neg (by omega)] at c0 ⊢
   split at c0
   ·rw [if_pos (by assumption)]
   ·exact absurd rfl c0
  rw [show chkq n s d = 1 by unfold chkq; rw [if_neg hl, if_pos (Or.inl c0)]]
  refine refc_num n s d w hs hd 1 (by omega) (fun w1 => ?_)
  have := rcheck_any n s w1
  rwa [h1] at this
end Go.Proofs.YtbafjmjcepcckaaGreatDoor
namespace Go.Proofs.YtbafjmjcepcckaaGreatDoor
open Go.RowKit Go.Shelf
theorem rsum_walk0 (n0 n1 xN yN mN vN rN : Bool) (s0 d0 s1 d1 xS yS mS vS rS rD : ByteArray) (h : (d0.toList == [1]) = false) (w : World)
  (H1 : Hid (∀ w1, Calls Tryz.prog 50 #[.agg #[.bool n0, .string s0], .agg #[.bool false, .string d1]] w1 (Re w1 (.agg #[.bool xN, .string xS]))))
  (H2 : Hid (∀ w1, Calls Tryz.prog 50 #[.agg #[.bool n1, .string s1], .agg #[.bool false, .string d0]] w1 (Re w1 (.agg #[.bool yN, .string yS]))))
  (H3 : Hid (∀ w1, Calls Tryz.prog 49 #[.agg #[.bool xN, .string xS], .agg #[.bool yN, .string yS]] w1 (Re w1 (.agg #[.bool mN, .string mS]))))
  (H4 : Hid (∀ w1, Calls Tryz.prog 50 #[.agg #[.bool false, .string d0], .agg #[.bool false, .string d1]] w1 (Re w1 (.agg #[.bool vN, .string vS]))))
  (H5 : Hid (∀ w1, Calls Tryz.prog 52 #[.agg #[.bool mN, .string mS], .agg #[.bool vN, .string vS]] w1 (Re w1 (.agg #[.bool rN, .string rS, .string rD])))) :
  Calls Tryz.prog 24 #[.agg #[.bool n0, .string s0, .string d0], .agg #[.bool n1, .string s1, .string d1]] w (Re w (.agg #[.bool rN, .string rS, .string rD])) := by
 go_enter Tryz.func24, Tryz.ntmps24
 go_wp2_with fail
 obtain ⟨w1, hw, ka, kb, kr, b1⟩ := mk3 w [.bool n0, .string s0, .string d0] [.bool n1, .string s1, .string d1] [.bool false, .string { data := #[] }, .string { data := #[] }] 26 26 26
 rw [← hw]
 clear hw
 have sz := b1.size
 have ta := ka.lt
 have tb := kb.lt
 have tr := kr.lt
 have bb := b1
 clear b1
 obtain ⟨ca_0, ca_1, ca_2⟩ := xk3 ka
 obtain ⟨cb_3, cb_4, cb_5⟩ := xk3 kb
 go_wp2_with fail
 clear ca_0 ca_1 ca_2 cb_3 cb_4 cb_5
 have mk : Hid (∀ w', SB w1 w' → xc3 w' w.heap.size (.bool n0) (.string s0) (.string d0) ∧ xc3 w' (w.heap.size + 1) (.bool n1) (.string s1) (.string d1)) := fun w' h => ⟨xk3 (ka.below h), xk3 (kb.below h)⟩
 go_cut [5] from 20 to 30 (fun v wx => ∃ gc, v = .pointer (some ⟨gc, 0, none⟩) ∧ w1.heap.size ≤ gc ∧ Cel wx gc [.bool mN, .string mS] 24 ∧ Below w1.heap.size w1 wx)
 case first =>
  clear H4 H5 kr
  refine wp_region_held_drew (S := SB w1) (by kernel_rfl) (bdrew _) (fun bc => ?_)
  refine WA.start (n := 13) (by kernel_rfl) ?_
  refine WA.tl 0 rfl ?_
  refine WA.tl 1 rfl ?_
  refine WA.tl 2 rfl ?_
  refine WA.tl 5 rfl ?_
  refine WA.tl 6 rfl ?_
  refine WA.tl 7 rfl ?_
  refine WA.gen (i := 11) (s := 5) undef (Pt w1 [.bool false, .string { data := #[] }] 24) (fun b x hz => ?_)
  simp only [Act.put, List.setIfInBounds_toArray, List.set_cons_zero, List.set_cons_succ]
  revert b x
  refine WA.one 13 231 3 11 rfl rfl bc ?_
  clear bc
  intro b x w' hz bx bc K hK
  clear bx
  simp only [List.getElem_toArray, List.getElem_cons_succ, List.getElem_cons_zero]
  go_simp
  go_fit (rden_any n1 s1 d1 _)
  rintro e wn ⟨rfl, bn⟩
  replace bc := Below.after bc bn
  try go_wp2_with fail
  refine hK.out _ _ bc (fun _ => ?_)
  replace hz := fun h => (hz h).below bn
  clear hK K bn
  revert b x
  refine WA.one 13 239 4 11 rfl rfl bc ?_
  clear bc
  intro b x w' hz bx bc K hK
  clear bx
  simp only [List.getElem_toArray, List.getElem_cons_succ, List.getElem_cons_zero]
  go_simp
  go_fit (H1.out _)
  rintro e wn ⟨rfl, bn⟩
  replace bc := Below.after bc bn
  try go_wp2_with fail
  refine hK.out _ _ bc (fun _ => ?_)
  replace hz := fun h => (hz h).below bn
  clear hK K bn
  revert b x
  refine WA.one 13 255 8 11 rfl rfl bc ?_
  clear bc
  intro b x w' hz bx bc K hK
  clear bx
  simp only [List.getElem_toArray, List.getElem_cons_succ, List.getElem_cons_zero]
  go_simp
  go_fit (rden_any n0 s0 d0 _)
  rintro e wn ⟨rfl, bn⟩
  replace bc := Below.after bc bn
  try go_wp2_with fail
  refine hK.out _ _ bc (fun _ => ?_)
  replace hz := fun h => (hz h).below bn
  clear hK K bn
  revert b x
  refine WA.one 13 511 9 11 rfl rfl bc ?_
  clear bc
  intro b x w' hz bx bc K hK
  clear bx
  simp only [List.getElem_toArray, List.getElem_cons_succ, List.getElem_cons_zero]
  go_simp
  go_fit (H2.out _)
  rintro e wn ⟨rfl, bn⟩
  replace bc := Below.after bc bn
  try go_wp2_with fail
  refine hK.out _ _ bc (fun _ => ?_)
  replace hz := fun h => (hz h).below bn
  clear hK K bn
  revert b x
  refine WA.one 13 1023 10 11 rfl rfl bc ?_
  clear bc
  intro b x w' hz bx bc K hK
  clear bx
  simp only [List.getElem_toArray, List.getElem_cons_succ, List.getElem_cons_zero]
  go_simp
  go_fit (H3.out _)
  rintro e wn ⟨rfl, bn⟩
  replace bc := Below.after bc bn
  try go_wp2_with fail
  refine hK.out _ _ bc (fun _ => ?_)
  replace hz := fun h => (hz h).below bn
  clear hK K bn
  revert b x
  refine WA.fin 11 rfl bc ?_
  clear bc
  intro x w' hz bx bc
  obtain ⟨g0, rfl, h0, k0⟩ := hz
  clear bx
  have e0_0 := cel2_0' k0
  have f0_0 := Cel.frozen k0 0
  have e0_1 := cel2_1' k0
  have f0_1 := Cel.frozen k0 1
  refine WA.call 12 rfl (fun K hK => ?_)
  simp only [List.getElem_toArray, List.getElem_cons_succ, List.getElem_cons_zero]
  go_simp
  try go_wp2_with fail
  clear e0_0 f0_0 e0_1 f0_1
  refine hK.out _ _ (bset (bset bc h0 0 (.bool mN)) h0 1 (.string mS)) (fun hS => ?_)
  clear hK K
  replace k0 := (Cel.set (Cel.set k0 0 (.bool mN)) 1 (.string mS))
  replace bc := (bset (bset bc h0 0 (.bool mN)) h0 1 (.string mS))
  refine WA.done (by kernel_rfl) ?_
  go_wp2_with fail
  go_meet
  exact ⟨_, rfl, h0, k0, bc⟩
 case rest =>
 obtain ⟨gm, rfl, lm, km, b1⟩ := hcut
 clear mk
 have sz := b1.size
 replace ka := ka.below b1
 replace kb := kb.below b1
 replace kr := kr.below b1
 replace bb := Below.after bb b1
 clear b1
 have tm := km.lt
 go_wp2_with fail
 have qa : w.heap.size ≠ w.heap.size + 1 + 1 := by omega
 have qb : w.heap.size + 1 ≠ w.heap.size + 1 + 1 := by omega
 have qm : gm ≠ w.heap.size + 1 + 1 := by omega
 go_region_held3 (fun w' => xc3 w' w.heap.size (.bool n0) (.string s0) (.string d0) ∧ xc3 w' (w.heap.size + 1) (.bool n1) (.string s1) (.string d1) ∧ xc2 w' gm (.bool mN) (.string mS)) (first | exact ⟨xk3 ka, xk3 kb, xk2 km⟩ | exact ⟨xk3 (Cel.other (Cel.other (Cel.other ka qa 0 _) qa 1 _) qa 2 _), xk3 (Cel.other (Cel.other (Cel.other kb qb 0 _) qb 1 _) qb 2 _), xk2 (Cel.other (Cel.other (Cel.other km qm 0 _) qm 1 _) qm 2 _)⟩) (first | (go_at_call 51; go_fit (rden_any _ _ _ _); rintro e wn ⟨rfl, bn⟩; replace ka := ka.below (un bn); replace kb := kb.below (un bn); replace kr := kr.below (un bn); replace km := km.below (un bn); replace bb := Below.after bb (un bn)) | (go_at_call 50; go_fit (H4.out _); rintro e wn ⟨rfl, bn⟩; replace ka := ka.below (un bn); replace kb := kb.below (un bn); replace kr := kr.below (un bn); replace km := km.below (un bn); replace bb := Below.after bb (un bn)) | (go_at_call 52; go_fit (H5.out _); rintro e wn ⟨rfl, bn⟩; replace ka := ka.below (un bn); replace kb := kb.below (un bn); replace kr := kr.below (un bn); replace km := km.below (un bn); replace bb := Below.after bb (un bn); have e0 := cel3_0 kr; have f0 := Cel.frozen kr 0; have e1 := cel3_1 kr; have f1 := Cel.frozen kr 1; have e2 := cel3_2 kr; have f2 := Cel.frozen kr 2))
 go_wp2
 exact post_q (p := 4) (by kernel_rfl) rfl rfl (((kr.set 0 _).set 1 _).set 2 _) ⟨rfl, bset (bset (bset bb (by omega) 0 _) (by omega) 1 _) (by omega) 2 _⟩
theorem rsum_walk1 (n0 n1 xN yN mN vN rN : Bool) (s0 d0 s1 d1 xS yS mS vS rS rD : ByteArray) (h0 : (d0.toList == [1]) = true) (h : (d1.toList == [1]) = false) (w : World)
  (H1 : Hid (∀ w1, Calls Tryz.prog 50 #[.agg #[.bool n0, .string s0], .agg #[.bool false, .string d1]] w1 (Re w1 (.agg #[.bool xN, .string xS]))))
  (H2 : Hid (∀ w1, Calls Tryz.prog 50 #[.agg #[.bool n1, .string s1], .agg #[.bool false, .string d0]] w1 (Re w1 (.agg #[.bool yN, .string yS]))))
  (H3 : Hid (∀ w1, Calls Tryz.prog 49 #[.agg #[.bool xN, .string xS], .agg #[.bool yN, .string yS]] w1 (Re w1 (.agg #[.bool mN, .string mS]))))
  (H4 : Hid (∀ w1, Calls Tryz.prog 50 #[.agg #[.bool false, .string d0], .agg #[.bool false, .string d1]] w1 (Re w1 (.agg #[.bool vN, .string vS]))))
  (H5 : Hid (∀ w1, Calls Tryz.prog 52 #[.agg #[.bool mN, .string mS], .agg #[.bool vN, .string vS]] w1 (Re w1 (.agg #[.bool rN, .string rS, .string rD])))) :
  Calls Tryz.prog 24 #[.agg #[.bool n0, .string s0, .string d0], .agg #[.bool n1, .string s1, .string d1]] w (Re w (.agg #[.bool rN, .string rS, .string rD])) := by
 go_enter Tryz.func24, Tryz.ntmps24
 go_wp2_with fail
 obtain ⟨w1, hw, ka, kb, kr, b1⟩ := mk3 w [.bool n0, .string s0, .string d0] [.bool n1, .string s1, .string d1] [.bool false, .string { data := #[] }, .string { data := #[] }] 26 26 26
 rw [← hw]
 clear hw
 have sz := b1.size
 have ta := ka.lt
 have tb := kb.lt
 have tr := kr.lt
 have bb := b1
 clear b1
 obtain ⟨ca_0, ca_1, ca_2⟩ := xk3 ka
 obtain ⟨cb_3, cb_4, cb_5⟩ := xk3 kb
 go_wp2_with fail
 clear ca_0 ca_1 ca_2 cb_3 cb_4 cb_5
 have mk : Hid (∀ w', SB w1 w' → xc3 w' w.heap.size (.bool n0) (.string s0) (.string d0) ∧ xc3 w' (w.heap.size + 1) (.bool n1) (.string s1) (.string d1)) := fun w' h => ⟨xk3 (ka.below h), xk3 (kb.below h)⟩
 go_cut [5] from 20 to 30 (fun v wx => ∃ gc, v = .pointer (some ⟨gc, 0, none⟩) ∧ w1.heap.size ≤ gc ∧ Cel wx gc [.bool mN, .string mS] 24 ∧ Below w1.heap.size w1 wx)
 case first =>
  clear H4 H5 kr
  refine wp_region_held_drew (S := SB w1) (by kernel_rfl) (bdrew _) (fun bc => ?_)
  refine WA.start (n := 13) (by kernel_rfl) ?_
  refine WA.tl 0 rfl ?_
  refine WA.tl 1 rfl ?_
  refine WA.tl 2 rfl ?_
  refine WA.tl 5 rfl ?_
  refine WA.tl 6 rfl ?_
  refine WA.tl 7 rfl ?_
  refine WA.gen (i := 11) (s := 5) undef (Pt w1 [.bool false, .string { data := #[] }] 24) (fun b x hz => ?_)
  simp only [Act.put, List.setIfInBounds_toArray, List.set_cons_zero, List.set_cons_succ]
  revert b x
  refine WA.one 13 231 3 11 rfl rfl bc ?_
  clear bc
  intro b x w' hz bx bc K hK
  clear bx
  simp only [List.getElem_toArray, List.getElem_cons_succ, List.getElem_cons_zero]
  go_simp
  go_fit (rden_any n1 s1 d1 _)
  rintro e wn ⟨rfl, bn⟩
  replace bc := Below.after bc bn
  try go_wp2_with fail
  refine hK.out _ _ bc (fun _ => ?_)
  replace hz := fun h => (hz h).below bn
  clear hK K bn
  revert b x
  refine WA.one 13 239 4 11 rfl rfl bc ?_
  clear bc
  intro b x w' hz bx bc K hK
  clear bx
  simp only [List.getElem_toArray, List.getElem_cons_succ, List.getElem_cons_zero]
  go_simp
  go_fit (H1.out _)
  rintro e wn ⟨rfl, bn⟩
  replace bc := Below.after bc bn
  try go_wp2_with fail
  refine hK.out _ _ bc (fun _ => ?_)
  replace hz := fun h => (hz h).below bn
  clear hK K bn
  revert b x
  refine WA.one 13 255 8 11 rfl rfl bc ?_
  clear bc
  intro b x w' hz bx bc K hK
  clear bx
  simp only [List.getElem_toArray, List.getElem_cons_succ, List.getElem_cons_zero]
  go_simp
  go_fit (rden_any n0 s0 d0 _)
  rintro e wn ⟨rfl, bn⟩
  replace bc := Below.after bc bn
  try go_wp2_with fail
  refine hK.out _ _ bc (fun _ => ?_)
  replace hz := fun h => (hz h).below bn
  clear hK K bn
  revert b x
  refine WA.one 13 511 9 11 rfl rfl bc ?_
  clear bc
  intro b x w' hz bx bc K hK
  clear bx
  simp only [List.getElem_toArray, List.getElem_cons_succ, List.getElem_cons_zero]
  go_simp
  go_fit (H2.out _)
  rintro e wn ⟨rfl, bn⟩
  replace bc := Below.after bc bn
  try go_wp2_with fail
  refine hK.out _ _ bc (fun _ => ?_)
  replace hz := fun h => (hz h).below bn
  clear hK K bn
  revert b x
  refine WA.one 13 1023 10 11 rfl rfl bc ?_
  clear bc
  intro b x w' hz bx bc K hK
  clear bx
  simp only [List.getElem_toArray, List.getElem_cons_succ, List.getElem_cons_zero]
  go_simp
  go_fit (H3.out _)
  rintro e wn ⟨rfl, bn⟩
  replace bc := Below.after bc bn
  try go_wp2_with fail
  refine hK.out _ _ bc (fun _ => ?_)
  replace hz := fun h => (hz h).below bn
  clear hK K bn
  revert b x
  refine WA.fin 11 rfl bc ?_
  clear bc
  intro x w' hz bx bc
  obtain ⟨g0, rfl, h0, k0⟩ := hz
  clear bx
  have e0_0 := cel2_0' k0
  have f0_0 := Cel.frozen k0 0
  have e0_1 := cel2_1' k0
  have f0_1 := Cel.frozen k0 1
  refine WA.call 12 rfl (fun K hK => ?_)
  simp only [List.getElem_toArray, List.getElem_cons_succ, List.getElem_cons_zero]
  go_simp
  try go_wp2_with fail
  clear e0_0 f0_0 e0_1 f0_1
  refine hK.out _ _ (bset (bset bc h0 0 (.bool mN)) h0 1 (.string mS)) (fun hS => ?_)
  clear hK K
  replace k0 := (Cel.set (Cel.set k0 0 (.bool mN)) 1 (.string mS))
  replace bc := (bset (bset bc h0 0 (.bool mN)) h0 1 (.string mS))
  refine WA.done (by kernel_rfl) ?_
  go_wp2_with fail
  go_meet
  exact ⟨_, rfl, h0, k0, bc⟩
 case rest =>
 obtain ⟨gm, rfl, lm, km, b1⟩ := hcut
 clear mk
 have sz := b1.size
 replace ka := ka.below b1
 replace kb := kb.below b1
 replace kr := kr.below b1
 replace bb := Below.after bb b1
 clear b1
 have tm := km.lt
 go_wp2_with fail
 have qa : w.heap.size ≠ w.heap.size + 1 + 1 := by omega
 have qb : w.heap.size + 1 ≠ w.heap.size + 1 + 1 := by omega
 have qm : gm ≠ w.heap.size + 1 + 1 := by omega
 go_region_held3 (fun w' => xc3 w' w.heap.size (.bool n0) (.string s0) (.string d0) ∧ xc3 w' (w.heap.size + 1) (.bool n1) (.string s1) (.string d1) ∧ xc2 w' gm (.bool mN) (.string mS)) (first | exact ⟨xk3 ka, xk3 kb, xk2 km⟩ | exact ⟨xk3 (Cel.other (Cel.other (Cel.other ka qa 0 _) qa 1 _) qa 2 _), xk3 (Cel.other (Cel.other (Cel.other kb qb 0 _) qb 1 _) qb 2 _), xk2 (Cel.other (Cel.other (Cel.other km qm 0 _) qm 1 _) qm 2 _)⟩) (first | (go_at_call 51; go_fit (rden_any _ _ _ _); rintro e wn ⟨rfl, bn⟩; replace ka := ka.below (un bn); replace kb := kb.below (un bn); replace kr := kr.below (un bn); replace km := km.below (un bn); replace bb := Below.after bb (un bn)) | (go_at_call 50; go_fit (H4.out _); rintro e wn ⟨rfl, bn⟩; replace ka := ka.below (un bn); replace kb := kb.below (un bn); replace kr := kr.below (un bn); replace km := km.below (un bn); replace bb := Below.after bb (un bn)) | (go_at_call 52; go_fit (H5.out _); rintro e wn ⟨rfl, bn⟩; replace ka := ka.below (un bn); replace kb := kb.below (un bn); replace kr := kr.below (un bn); replace km := km.below (un bn); replace bb := Below.after bb (un bn); have e0 := cel3_0 kr; have f0 := Cel.frozen kr 0; have e1 := cel3_1 kr; have f1 := Cel.frozen kr 1; have e2 := cel3_2 kr; have f2 := Cel.frozen kr 2))
 go_wp2
 exact post_q (p := 4) (by kernel_rfl) rfl rfl (((kr.set 0 _).set 1 _).set 2 _) ⟨rfl, bset (bset (bset bb (by omega) 0 _) (by omega) 1 _) (by omega) 2 _⟩
end Go.Proofs.YtbafjmjcepcckaaGreatDoor
namespace Go.Proofs.YtbafjmjcepcckaaGreatDoor
open Go.RowKit Go.Shelf
theorem div_one' (z : Int) : Rat.divInt z 1 = (z : Rat) := by
 rw [show (1 : Int) = ((1 : Nat) : Int) from rfl, Rat.divInt_ofNat]
 exact Rat.ext (Q.mk_low (by omega) (by simp)).1 (Q.mk_low (by omega) (by simp)).2
theorem rsumq_any (n0 n1 : Bool) (s0 d0 s1 d1 : ByteArray) (w : World) (o0 : OkQ n0 s0 d0) (o1 : OkQ n1 s1 d1) {K : Nat} (hK : K ≤ 4000) (z0 : s0.size ≤ K) (y0 : d0.size ≤ K) (z1 : s1.size ≤ K) (y1 : d1.size ≤ K) :
  Calls Tryz.prog 24 #[.agg #[.bool n0, .string s0, .string d0], .agg #[.bool n1, .string s1, .string d1]] w (Re w (qI (qOf n0 s0 d0 + qOf n1 s1 d1))) := by
 obtain ⟨nf, sf, hf, hok, hsz, hz, hnat, hneg, hstr, hnn, hfn⟩ := named0
 obtain ⟨nq, sq, dq, hq, -⟩ := named3
 have bx : Bd (zOf n0 s0 * zOf false d1) (K + K) := (bd_zOf z0).mul (bd_zOf y1)
 have bY : Bd (zOf n1 s1 * zOf false d0) (K + K) := (bd_zOf z1).mul (bd_zOf y0)
 have h0 := fun w1 => rsum_any n0 n1 s0 s1 w1 (by omega) (by omega)
 have h1 := fun w1 => rtimes_any n0 false s0 d1 w1 (by omega) (by omega)
 have h2 := fun w1 => rtimes_any n1 false s1 d0 w1 (by omega) (by omega)
 have h3 := fun w1 => rsum_any (nf (zOf n0 s0 * zOf false d1)) (nf (zOf n1 s1 * zOf false d0)) (sf (zOf n0 s0 * zOf false d1)) (sf (zOf n1 s1 * zOf false d0)) w1 (Nat.le_trans (hsz _ _ bx) (by omega)) (Nat.le_trans (hsz _ _ bY) (by omega))
 have h4 := fun w1 => rtimes_any false false d0 d1 w1 (by omega) (by omega)
 have key : qOf n0 s0 d0 + qOf n1 s1 d1 = Rat.divInt (zOf n0 s0 * zOf false d1 + zOf n1 s1 * zOf false d0) (zOf false d0 * zOf false d1) := by
  have p0 := o0.2.2.1
  have p1 := o1.2.2.1
  unfold qOf
  rw [Rat.mkRat_add_mkRat _ _ (by omega) (by omega), zOf_false, zOf_false, ← Int.natCast_mul, Rat.divInt_ofNat]
 have hp : 0 < natOf (sf (zOf false d0 * zOf false d1)) := by
  rw [zOf_false, zOf_false, ← Int.natCast_mul, hnn]
  exact Nat.mul_pos o0.2.2.1 o1.2.2.1
 have hl := fun w1 => low_any (nf (zOf n0 s0 * zOf false d1 + zOf n1 s1 * zOf false d0)) (nf (zOf false d0 * zOf false d1)) (sf (zOf n0 s0 * zOf false d1 + zOf n1 s1 * zOf false d0)) (sf (zOf false d0 * zOf false d1)) w1 (hok _) (hok _) (Nat.le_trans (hsz _ _ (bx.add bY)) (by omega)) (Nat.le_trans (hsz _ _ ((bd_zOf y0).mul (bd_zOf y1))) (by omega)) hp
 rw [key]
 simp only [hz] at h3
 simp only [hf] at h0 h1 h2 h3 h4
 simp only [hz, hq] at hl
 rw [hq]
 cases e0 : (d0.toList == [1]) with
 | false => exact rsum_walk0 n0 n1 _ _ _ _ _ s0 d0 s1 d1 _ _ _ _ _ _ e0 w h1 h2 h3 h4 hl
 | true =>
  cases e1 : (d1.toList == [1]) with
  | false => exact rsum_walk1 n0 n1 _ _ _ _ _ s0 d0 s1 d1 _ _ _ _ _ _ e0 e1 w h1 h2 h3 h4 hl
  | true =>
   rw [← hq, zOf_false, zOf_false, one_of e0, one_of e1, show ((1 : Nat) : Int) * ((1 : Nat) : Int) = 1 from rfl, show zOf n0 s0 * ((1 : Nat) : Int) + zOf n1 s1 * ((1 : Nat) : Int) = zOf n0 s0 + zOf n1 s1 from by omega, div_one', qI_int _ (hf _)]
   exact rsum_ones n0 n1 _ s0 s1 _ d0 d1 e0 e1 w h0
theorem rnegq_ok (n : Bool) (s d : ByteArray) (o : OkQ n s d) : ∃ m, OkQ m s d ∧ qOf m s d = -qOf n s d ∧ ∀ w, Calls Tryz.prog 86 #[.agg #[.bool n, .string s, .string d]] w (Re w (.agg #[.bool m, .string s, .string d])) := by
 obtain ⟨m, h1, h2, h3⟩ := rneg_ok n s o.1
 refine ⟨m, ⟨h2, o.2⟩, ?_, fun w => rnegq_walk n m s d s w h3⟩
 unfold qOf
 rw [h1, Rat.neg_mkRat]
theorem rlessq_any (n0 n1 : Bool) (s0 d0 s1 d1 : ByteArray) (w : World) (o0 : OkQ n0 s0 d0) (o1 : OkQ n1 s1 d1) {K : Nat} (hK : K ≤ 4000) (z0 : s0.size ≤ K) (y0 : d0.size ≤ K) (z1 : s1.size ≤ K) (y1 : d1.size ≤ K) :
  Calls Tryz.prog 53 #[.agg #[.bool n0, .string s0, .string d0], .agg #[.bool n1, .string s1, .string d1]] w (Re w (qI (qOf n0 s0 d0 - qOf n1 s1 d1))) := by
 obtain ⟨m, om, em, hm⟩ := rnegq_ok n1 s1 d1 o1
 obtain ⟨nq, sq, dq, hq, -⟩ := named3
 have h2 := fun w1 => rsumq_any n0 m s0 d0 s1 d1 w1 o0 om hK z0 y0 z1 y1
 rw [em, ← Rat.sub_eq_add_neg] at h2
 rw [hq]
 simp only [hq] at h2
 exact rless_walk n0 n1 m _ s0 d0 s1 d1 s1 d1 _ _ w hm h2
end Go.Proofs.YtbafjmjcepcckaaGreatDoor
namespace Go.Proofs.YtbafjmjcepcckaaGreatDoor
open Go.RowKit Go.Shelf
theorem rtimes_walk0 (n0 n1 xN yN rN : Bool) (s0 d0 s1 d1 xS yS rS rD : ByteArray) (h : (d0.toList == [1]) = false) (w : World)
  (H1 : Hid (∀ w1, Calls Tryz.prog 50 #[.agg #[.bool n0, .string s0], .agg #[.bool n1, .string s1]] w1 (Re w1 (.agg #[.bool xN, .string xS]))))
  (H2 : Hid (∀ w1, Calls Tryz.prog 50 #[.agg #[.bool false, .string d0], .agg #[.bool false, .string d1]] w1 (Re w1 (.agg #[.bool yN, .string yS]))))
  (H3 : Hid (∀ w1, Calls Tryz.prog 52 #[.agg #[.bool xN, .string xS], .agg #[.bool yN, .string yS]] w1 (Re w1 (.agg #[.bool rN, .string rS, .string rD])))) :
  Calls Tryz.prog 40 #[.agg #[.bool n0, .string s0, .string d0], .agg #[.bool n1, .string s1, .string d1]] w (Re w (.agg #[.bool rN, .string rS, .string rD])) := by
 go_enter Tryz.func40, Tryz.ntmps40
 go_wp2_with fail
 obtain ⟨w1, hw, ka, kb, kr, b1⟩ := mk3 w [.bool n0, .string s0, .string d0] [.bool n1, .string s1, .string d1] [.bool false, .string { data := #[] }, .string { data := #[] }] 26 26 26
 rw [← hw]
 clear hw
 have sz := b1.size
 have ta := ka.lt
 have tb := kb.lt
 have tr := kr.lt
 have bb := b1
 clear b1
 obtain ⟨ca_0, ca_1, ca_2⟩ := xk3 ka
 obtain ⟨cb_3, cb_4, cb_5⟩ := xk3 kb
 go_wp2_with fail
 clear ca_0 ca_1 ca_2 cb_3 cb_4 cb_5
 have qa : w.heap.size ≠ w.heap.size + 1 + 1 := by omega
 have qb : w.heap.size + 1 ≠ w.heap.size + 1 + 1 := by omega
 go_region_held3 (fun w' => xc3 w' w.heap.size (.bool n0) (.string s0) (.string d0) ∧ xc3 w' (w.heap.size + 1) (.bool n1) (.string s1) (.string d1)) (first | exact ⟨xk3 ka, xk3 kb⟩ | exact ⟨xk3 (Cel.other (Cel.other (Cel.other ka qa 0 _) qa 1 _) qa 2 _), xk3 (Cel.other (Cel.other (Cel.other kb qb 0 _) qb 1 _) qb 2 _)⟩) (first | (go_at_call 50; go_fit (H1.out _); rintro e wn ⟨rfl, bn⟩; replace ka := ka.below (un bn); replace kb := kb.below (un bn); replace kr := kr.below (un bn); replace bb := Below.after bb (un bn)) | (go_at_call 51; go_fit (rden_any _ _ _ _); rintro e wn ⟨rfl, bn⟩; replace ka := ka.below (un bn); replace kb := kb.below (un bn); replace kr := kr.below (un bn); replace bb := Below.after bb (un bn)) | (go_at_call 50; go_fit (H2.out _); rintro e wn ⟨rfl, bn⟩; replace ka := ka.below (un bn); replace kb := kb.below (un bn); replace kr := kr.below (un bn); replace bb := Below.after bb (un bn)) | (go_at_call 52; go_fit (H3.out _); rintro e wn ⟨rfl, bn⟩; replace ka := ka.below (un bn); replace kb := kb.below (un bn); replace kr := kr.below (un bn); replace bb := Below.after bb (un bn); have e0 := cel3_0 kr; have f0 := Cel.frozen kr 0; have e1 := cel3_1 kr; have f1 := Cel.frozen kr 1; have e2 := cel3_2 kr; have f2 := Cel.frozen kr 2))
 go_wp2
 exact post_q (p := 4) (by kernel_rfl) rfl rfl (((kr.set 0 _).set 1 _).set 2 _) ⟨rfl, bset (bset (bset bb (by omega) 0 _) (by omega) 1 _) (by omega) 2 _⟩
theorem rtimes_walk1 (n0 n1 xN yN rN : Bool) (s0 d0 s1 d1 xS yS rS rD : ByteArray) (h0 : (d0.toList == [1]) = true) (h : (d1.toList == [1]) = false) (w : World)
  (H1 : Hid (∀ w1, Calls Tryz.prog 50 #[.agg #[.bool n0, .string s0], .agg #[.bool n1, .string s1]] w1 (Re w1 (.agg #[.bool xN, .string xS]))))
  (H2 : Hid (∀ w1, Calls Tryz.prog 50 #[.agg #[.bool false, .string d0], .agg #[.bool false, .string d1]] w1 (Re w1 (.agg #[.bool yN, .string yS]))))
  (H3 : Hid (∀ w1, Calls Tryz.prog 52 #[.agg #[.bool xN, .string xS], .agg #[.bool yN, .string yS]] w1 (Re w1 (.agg #[.bool rN, .string rS, .string rD])))) :
  Calls Tryz.prog 40 #[.agg #[.bool n0, .string s0, .string d0], .agg #[.bool n1, .string s1, .string d1]] w (Re w (.agg #[.bool rN, .string rS, .string rD])) := by
 go_enter Tryz.func40, Tryz.ntmps40
 go_wp2_with fail
 obtain ⟨w1, hw, ka, kb, kr, b1⟩ := mk3 w [.bool n0, .string s0, .string d0] [.bool n1, .string s1, .string d1] [.bool false, .string { data := #[] }, .string { data := #[] }] 26 26 26
 rw [← hw]
 clear hw
 have sz := b1.size
 have ta := ka.lt
 have tb := kb.lt
 have tr := kr.lt
 have bb := b1
 clear b1
 obtain ⟨ca_0, ca_1, ca_2⟩ := xk3 ka
 obtain ⟨cb_3, cb_4, cb_5⟩ := xk3 kb
 go_wp2_with fail
 clear ca_0 ca_1 ca_2 cb_3 cb_4 cb_5
 have qa : w.heap.size ≠ w.heap.size + 1 + 1 := by omega
 have qb : w.heap.size + 1 ≠ w.heap.size + 1 + 1 := by omega
 go_region_held3 (fun w' => xc3 w' w.heap.size (.bool n0) (.string s0) (.string d0) ∧ xc3 w' (w.heap.size + 1) (.bool n1) (.string s1) (.string d1)) (first | exact ⟨xk3 ka, xk3 kb⟩ | exact ⟨xk3 (Cel.other (Cel.other (Cel.other ka qa 0 _) qa 1 _) qa 2 _), xk3 (Cel.other (Cel.other (Cel.other kb qb 0 _) qb 1 _) qb 2 _)⟩) (first | (go_at_call 50; go_fit (H1.out _); rintro e wn ⟨rfl, bn⟩; replace ka := ka.below (un bn); replace kb := kb.below (un bn); replace kr := kr.below (un bn); replace bb := Below.after bb (un bn)) | (go_at_call 51; go_fit (rden_any _ _ _ _); rintro e wn ⟨rfl, bn⟩; replace ka := ka.below (un bn); replace kb := kb.below (un bn); replace kr := kr.below (un bn); replace bb := Below.after bb (un bn)) | (go_at_call 50; go_fit (H2.out _); rintro e wn ⟨rfl, bn⟩; replace ka := ka.below (un bn); replace kb := kb.below (un bn); replace kr := kr.below (un bn); replace bb := Below.after bb (un bn)) | (go_at_call 52; go_fit (H3.out _); rintro e wn ⟨rfl, bn⟩; replace ka := ka.below (un bn); replace kb := kb.below (un bn); replace kr := kr.below (un bn); replace bb := Below.after bb (un bn); have e0 := cel3_0 kr; have f0 := Cel.frozen kr 0; have e1 := cel3_1 kr; have f1 := Cel.frozen kr 1; have e2 := cel3_2 kr; have f2 := Cel.frozen kr 2))
 go_wp2
 exact post_q (p := 4) (by kernel_rfl) rfl rfl (((kr.set 0 _).set 1 _).set 2 _) ⟨rfl, bset (bset (bset bb (by omega) 0 _) (by omega) 1 _) (by omega) 2 _⟩
end Go.Proofs.YtbafjmjcepcckaaGreatDoor
namespace Go.Proofs.YtbafjmjcepcckaaGreatDoor
open Go.RowKit Go.Shelf
theorem rtimes_ones (n0 n1 xN : Bool) (s0 s1 xS d0 d1 : ByteArray) (h0 : (d0.toList == [1]) = true) (h : (d1.toList == [1]) = true) (w : World)
  (H1 : Hid (∀ w1, Calls Tryz.prog 50 #[.agg #[.bool n0, .string s0], .agg #[.bool n1, .string s1]] w1 (Re w1 (.agg #[.bool xN, .string xS])))) :
  Calls Tryz.prog 40 #[.agg #[.bool n0, .string s0, .string d0], .agg #[.bool n1, .string s1, .string d1]] w (Re w (.agg #[.bool xN, .string xS, .string ⟨#[1]⟩])) := by
 go_enter Tryz.func40, Tryz.ntmps40
 go_wp2_with fail
 obtain ⟨w1, hw, ka, kb, kr, b1⟩ := mk3 w [.bool n0, .string s0, .string d0] [.bool n1, .string s1, .string d1] [.bool false, .string { data := #[] }, .string { data := #[] }] 26 26 26
 rw [← hw]
 clear hw
 have sz := b1.size
 have ta := ka.lt
 have tb := kb.lt
 have tr := kr.lt
 have bb := b1
 clear b1
 obtain ⟨ca_0, ca_1, ca_2⟩ := xk3 ka
 obtain ⟨cb_3, cb_4, cb_5⟩ := xk3 kb
 go_wp2_with fail
 clear ca_0 ca_1 ca_2 cb_3 cb_4 cb_5
 go_fit (H1.out _)
 rintro e w2 ⟨rfl, b1⟩
 have sz := b1.size
 replace ka := ka.below b1
 replace kb := kb.below b1
 replace kr := kr.below b1
 replace bb := Below.after bb b1
 clear b1
 have cr_0 := cel3_0 kr
 have fr_1 := Cel.frozen kr 0
 have cr_2 := cel3_1 kr
 have fr_3 := Cel.frozen kr 1
 have cr_4 := cel3_2 kr
 have fr_5 := Cel.frozen kr 2
 go_wp2
 exact post_q (p := 4) (by kernel_rfl) rfl rfl (((kr.set 0 _).set 1 _).set 2 _) ⟨rfl, bset (bset (bset bb (by omega) 0 _) (by omega) 1 _) (by omega) 2 _⟩
theorem rtimesq_any (n0 n1 : Bool) (s0 d0 s1 d1 : ByteArray) (w : World) (o0 : OkQ n0 s0 d0) (o1 : OkQ n1 s1 d1) {K : Nat} (hK : K ≤ 4000) (z0 : s0.size ≤ K) (y0 : d0.size ≤ K) (z1 : s1.size ≤ K) (y1 : d1.size ≤ K) :
  Calls Tryz.prog 40 #[.agg #[.bool n0, .string s0, .string d0], .agg #[.bool n1, .string s1, .string d1]] w (Re w (qI (qOf n0 s0 d0 * qOf n1 s1 d1))) := by
 obtain ⟨nf, sf, hf, hok, hsz, hz, hnat, hneg, hstr, hnn, hfn⟩ := named0
 obtain ⟨nq, sq, dq, hq, -⟩ := named3
 have h1 := fun w1 => rtimes_any n0 n1 s0 s1 w1 (by omega) (by omega)
 have h2 := fun w1 => rtimes_any false false d0 d1 w1 (by omega) (by omega)
 have key : qOf n0 s0 d0 * qOf n1 s1 d1 = Rat.divInt (zOf n0 s0 * zOf n1 s1) (zOf false d0 * zOf false d1) := by
  unfold qOf
  rw [zOf_false, zOf_false, ← Rat.divInt_mul_divInt, ← Rat.divInt_ofNat, ← Rat.divInt_ofNat]
 have hp : 0 < natOf (sf (zOf false d0 * zOf false d1)) := by
  rw [zOf_false, zOf_false, ← Int.natCast_mul, hnn]
  exact Nat.mul_pos o0.2.2.1 o1.2.2.1
 have hl := fun w1 => low_any (nf (zOf n0 s0 * zOf n1 s1)) (nf (zOf false d0 * zOf false d1)) (sf (zOf n0 s0 * zOf n1 s1)) (sf (zOf false d0 * zOf false d1)) w1 (hok _) (hok _) (Nat.le_trans (hsz _ _ ((bd_zOf z0).mul (bd_zOf z1))) (by omega)) (Nat.le_trans (hsz _ _ ((bd_zOf y0).mul (bd_zOf y1))) (by omega)) hp
 rw [key]
 simp only [hf] at h1 h2
 simp only [hz, hq] at hl
 rw [hq]
 cases e0 : (d0.toList == [1]) with
 | false => exact rtimes_walk0 n0 n1 _ _ _ s0 d0 s1 d1 _ _ _ _ e0 w h1 h2 hl
 | true =>
  cases e1 : (d1.toList == [1]) with
  | false => exact rtimes_walk1 n0 n1 _ _ _ s0 d0 s1 d1 _ _ _ _ e0 e1 w h1 h2 hl
  | true =>
   rw [← hq, zOf_false, zOf_false, one_of e0, one_of e1, show ((1 : Nat) : Int) * ((1 : Nat) : Int) = 1 from rfl, show Rat.divInt (zOf n0 s0 * zOf n1 s1) 1 = ((zOf n0 s0 * zOf n1 s1 : Int) : Rat) from (by first | (rw [show (1 : Int) = ((1 : Nat) : Int) from rfl, Rat.divInt_ofNat, Rat.mkRat_one]) | (rw [show (1 : Int) = ((1 : Nat) : Int) from rfl, Rat.divInt_ofNat]; exact Rat.ext (Q.mk_low (by omega) (by simp)).1 (Q.mk_low (by omega) (by simp)).2)), qI_int _ (hf _)]
   exact rtimes_ones n0 n1 _ s0 s1 _ d0 d1 e0 e1 w h1
end Go.Proofs.YtbafjmjcepcckaaGreatDoor
