/-
  gussetref03: Lowest where nothing is to be cut; Frac.
  gussetref03: Sign; a denominator 1.
  gussetref03: Lowest, where something is to be cut.
  gussetref03: den, Check, Both.
  gussetref03: Order, Sum, Negate, Less, walked.
  gussetref03: Sum, the long way, walked.
-/
import Derived.Lib.AppendIntMem
import Derived.Shelf.LaysM
import Derived.Shelf.Strconv.Itoa2
import Derived.Test.YtiiigiggcbbgjaaGreatDoorJ37
set_option maxRecDepth 100000
set_option maxHeartbeats 8000000
namespace Go.Proofs.YtiiigiggcbbgjaaGreatDoor
open Go.RowKit Go.Shelf
theorem low_one (n0 gN : Bool) (s0 s1 gS : ByteArray) (w : World) (hg : (gS.toList == [1]) = true)
  (H1 : Hid (∀ w1, Calls Tryz.prog 118 #[.agg #[.bool n0, .string s0], .agg #[.bool false, .string s1]] w1 (Re w1 (.agg #[.bool gN, .string gS])))) :
  Calls Tryz.prog 83 #[.agg #[.bool n0, .string s0], .agg #[.bool false, .string s1]] w (Re w (.agg #[.bool n0, .string s0, .string s1])) := by
 go_enter Tryz.func83, Tryz.ntmps83
 go_wp2_with fail
 go_fit (H1.out _)
 rintro e w1 ⟨rfl, b1⟩
 obtain ⟨ka, kb, kr, b1⟩ := al3 b1
 have sz := b1.size
 have bb := b1
 clear b1
 have ta := ka.lt
 have tb := kb.lt
 have tr := kr.lt
 clear ta tb tr
 obtain ⟨ca_0, ca_1⟩ := xk2 (ka.alloc (.cells #[.bool gN, .string gS] 24))
 obtain ⟨cb_2, cb_3⟩ := xk2 (kb.alloc (.cells #[.bool gN, .string gS] 24))
 have cr_4 := cel3_0 (kr.alloc (.cells #[.bool gN, .string gS] 24))
 have fr_5 := Cel.frozen (kr.alloc (.cells #[.bool gN, .string gS] 24)) 0
 have cr_6 := cel3_1 (kr.alloc (.cells #[.bool gN, .string gS] 24))
 have fr_7 := Cel.frozen (kr.alloc (.cells #[.bool gN, .string gS] 24)) 1
 have cr_8 := cel3_2 (kr.alloc (.cells #[.bool gN, .string gS] 24))
 have fr_9 := Cel.frozen (kr.alloc (.cells #[.bool gN, .string gS] 24)) 2
 go_wp2
 have kr' := kr.alloc (.cells #[.bool gN, .string gS] 24)
 exact post_q (p := 4) (by kernel_rfl) rfl rfl (((kr'.set 0 _).set 1 _).set 2 _) ⟨rfl, bset (bset (bset (ba bb _) (by omega) 0 _) (by omega) 1 _) (by omega) 2 _⟩
end Go.Proofs.YtiiigiggcbbgjaaGreatDoor
namespace Go.Proofs.YtiiigiggcbbgjaaGreatDoor
open Go.RowKit Go.Shelf
theorem rsign_neg (s0 d0 : ByteArray) (w : World)
 :
   Calls Tryz.prog 64 #[.agg #[.bool true, .string s0, .string d0]] w (Re w (.int .i64 (-1))) := by
  go_enter Tryz.func64, Tryz.ntmps64
  go_wp2
  go_ret
  exact ⟨rfl, bel_al _ _⟩
theorem rsign_zero (d0 : ByteArray) (w : World)
 :
   Calls Tryz.prog 64 #[.agg #[.bool false, .string ByteArray.empty, .string d0]] w (Re w (.int .i64 (0))) := by
  go_enter Tryz.func64, Tryz.ntmps64
  go_wp2
  go_ret
  exact ⟨rfl, bel_al _ _⟩
theorem rsign_pos (s0 d0 : ByteArray) (h : s0.toList.isEmpty = false) (w : World)
 :
   Calls Tryz.prog 64 #[.agg #[.bool false, .string s0, .string d0]] w (Re w (.int .i64 (1))) := by
  go_enter Tryz.func64, Tryz.ntmps64
  go_wp2
  go_ret
  exact ⟨rfl, bel_al _ _⟩
theorem one_of {d : ByteArray} (h : (d.toList == [1]) = true) : natOf d = 1 := by
 have e : d = ⟨#[1]⟩ := by
  have h2 : d.toList = [1] := by simpa using h
  by_cases hd : d = ⟨#[1]⟩
  ·exact hd
  ·have := ne1 hd
   rw [h] at this
   cases this
 rw [e]; exact natOf_one
end Go.Proofs.YtiiigiggcbbgjaaGreatDoor
namespace Go.Proofs.YtiiigiggcbbgjaaGreatDoor
open Go.RowKit Go.Shelf
theorem rdivN {s g : ByteArray} (hs : s.size ≤ 20000) (hg : g.size ≤ 20000) (hG : 0 < natOf g) (v0 v1 : Value) (w : World) (r0 : Rd w v0 (M.digs D32 (natOf s))) (r1 : Rd w v1 (M.digs D32 (natOf g))) :
  Calls Tryz.prog 120 #[v0, v1] w fun e w' => ∃ q r, e = .returned (.tuple #[q, r]) ∧ Rd w' q (M.digs D32 (natOf s / natOf g)) ∧ Rd w' r (M.digs D32 (natOf s % natOf g)) ∧ Below w.heap.size w w' :=
 rdiv_dig (X := natOf s) (Y := natOf g) (K := 5000) (by omega) (natOf_lt4 5000 (by omega)) (natOf_lt4 5000 (by omega)) hG v0 v1 w r0 r1
theorem natN {s : ByteArray} {g : Nat} (hs : s.size ≤ 20000) (v : Value) (w : World) (r : Rd w v (M.digs D32 (natOf s / g))) :
  Calls Tryz.prog 122 #[v] w (Re w (.string (strOf (natOf s / g)))) := by
 have h : natOf s / g < D32 ^ 5000 := Nat.lt_of_le_of_lt (Nat.div_le_self _ _) (natOf_lt4 5000 (by omega))
 have := rnat_any v _ w r (M.Low.digs D32_two _) (Nat.le_trans (dlen h) (by omega))
 rwa [M.val_digs D32_two] at this
theorem low_cut (n0 gN : Bool) (s0 s1 gS : ByteArray) (w : World) (hg : (gS.toList == [1]) = false) (z0 : s0.size ≤ 20000) (z1 : s1.size ≤ 20000) (zg : gS.size ≤ 20000) (hG : 0 < natOf gS)
  (H1 : Hid (∀ w1, Calls Tryz.prog 118 #[.agg #[.bool n0, .string s0], .agg #[.bool false, .string s1]] w1 (Re w1 (.agg #[.bool gN, .string gS])))) :
  Calls Tryz.prog 83 #[.agg #[.bool n0, .string s0], .agg #[.bool false, .string s1]] w (Re w (.agg #[.bool n0, .string (strOf (natOf s0 / natOf gS)), .string (strOf (natOf s1 / natOf gS))])) := by
 have HD0 := shut (fun v0 v1 w r0 r1 => rdivN (s := s0) (g := gS) z0 zg hG v0 v1 w r0 r1)
 have HD1 := shut (fun v0 v1 w r0 r1 => rdivN (s := s1) (g := gS) z1 zg hG v0 v1 w r0 r1)
 have HN0 := shut (fun v w r => natN (s := s0) (g := natOf gS) z0 v w r)
 have HN1 := shut (fun v w r => natN (s := s1) (g := natOf gS) z1 v w r)
 clear hG
 generalize strOf (natOf s0 / natOf gS) = S at *
 generalize strOf (natOf s1 / natOf gS) = D at *
 go_enter Tryz.func83, Tryz.ntmps83
 go_wp2_with fail
 go_fit (H1.out _)
 rintro e w1 ⟨rfl, b1⟩
 obtain ⟨ka, kb, kr, bb⟩ := al3 b1
 clear b1
 obtain ⟨c0, c1⟩ := xk2 (ka.alloc (.cells #[.bool gN, .string gS] 24))
 obtain ⟨c2, c3⟩ := xk2 (kb.alloc (.cells #[.bool gN, .string gS] 24))
 go_wp2_with fail
 clear c0 c1 c2 c3
 obtain ⟨w2, hw, kg, b1⟩ := mk1 w1 [.bool gN, .string gS] 24
 rw [← hw]
 clear hw
 replace ka := ka.below b1
 replace kb := kb.below b1
 replace kr := kr.below b1
 replace bb := Below.after bb b1
 clear b1
 go_region_held3 (fun w' => xc2 w' w.heap.size (.bool n0) (.string s0) ∧ xc2 w' w1.heap.size (.bool gN) (.string gS)) (exact ⟨xk2 ka, xk2 kg⟩) (first | (go_at_call 120; refine (HD0.out _ _ _ rx ry).mono ?_; rintro e wn ⟨vq, vr, rfl, rq, rr, bn⟩; obtain ⟨aq, cq, rfl, -, -⟩ := id rq; obtain ⟨ar, cr, rfl, -, -⟩ := id rr; replace ka := ka.below bn; replace kb := kb.below bn; replace kr := kr.below bn; replace kg := kg.below bn; replace bb := Below.after bb bn; clear bn) | (go_at_call 121; go_fit (dig_any s0 _ (by omega)); rintro e wn ⟨vx, rfl, rx, bn⟩; obtain ⟨ax, cx, rfl, -, -⟩ := id rx; replace ka := ka.below (un bn); replace kb := kb.below (un bn); replace kr := kr.below (un bn); replace kg := kg.below (un bn); replace bb := Below.after bb (un bn); clear bn) | (go_at_call 121; go_fit (dig_any gS _ (by omega)); rintro e wn ⟨vy, rfl, ry, bn⟩; obtain ⟨ay, cy, rfl, -, -⟩ := id ry; replace rx := rx.below bn; replace ka := ka.below bn; replace kb := kb.below bn; replace kr := kr.below bn; replace kg := kg.below bn; replace bb := Below.after bb bn; clear bn))
 go_wp2_with fail
 clear rx ry rr
 go_region_held3 (fun w' => xc2 w' (w.heap.size + 1) (.bool false) (.string s1) ∧ xc2 w' w1.heap.size (.bool gN) (.string gS)) (exact ⟨xk2 kb, xk2 kg⟩) (first | (go_at_call 120; refine (HD1.out _ _ _ rx ry).mono ?_; rintro e wn ⟨vp, vr, rfl, rp, rr, bn⟩; obtain ⟨ap, cp, rfl, -, -⟩ := id rp; obtain ⟨ar, cr, rfl, -, -⟩ := id rr; replace rq := rq.below bn; replace ka := ka.below bn; replace kb := kb.below bn; replace kr := kr.below bn; replace kg := kg.below bn; replace bb := Below.after bb bn; clear bn) | (go_at_call 121; go_fit (dig_any s1 _ (by omega)); rintro e wn ⟨vx, rfl, rx, bn⟩; obtain ⟨ax, cx, rfl, -, -⟩ := id rx; replace rq := rq.below (un bn); replace ka := ka.below (un bn); replace kb := kb.below (un bn); replace kr := kr.below (un bn); replace kg := kg.below (un bn); replace bb := Below.after bb (un bn); clear bn) | (go_at_call 121; go_fit (dig_any gS _ (by omega)); rintro e wn ⟨vy, rfl, ry, bn⟩; obtain ⟨ay, cy, rfl, -, -⟩ := id ry; replace rx := rx.below bn; replace rq := rq.below bn; replace ka := ka.below bn; replace kb := kb.below bn; replace kr := kr.below bn; replace kg := kg.below bn; replace bb := Below.after bb bn; clear bn))
 go_wp2_with fail
 clear rx ry rr
 have qa : w.heap.size ≠ w.heap.size + 1 + 1 := by omega
 go_region_held3 (fun w' => xc2 w' w.heap.size (.bool n0) (.string s0)) (first | exact (xk2 ka) | exact (xk2 (Cel.other (Cel.other (Cel.other ka qa 0 _) qa 1 _) qa 2 _))) (first | (go_at_call 122; go_fit (HN0.out _ _ ?_); (first | exact rq | exact rq.drew); rintro e wn ⟨rfl, bn⟩; replace rp := rp.below (un bn); replace ka := ka.below (un bn); replace kb := kb.below (un bn); replace kr := kr.below (un bn); replace kg := kg.below (un bn); replace bb := Below.after bb (un bn); clear bn) | (go_at_call 122; go_fit (HN1.out _ _ ?_); exact rp; rintro e wn ⟨rfl, bn⟩; replace ka := ka.below bn; replace kb := kb.below bn; replace kr := kr.below bn; replace kg := kg.below bn; replace bb := Below.after bb bn; clear bn; have e0 := cel3_0 kr; have e1 := cel3_1 kr; have e2 := cel3_2 kr; have f0 := kr.frozen 0; have f1 := kr.frozen 1; have f2 := kr.frozen 2))
 go_wp2
 exact post_q (p := 4) (by kernel_rfl) rfl rfl (((kr.set 0 _).set 1 _).set 2 _) ⟨rfl, bset (bset (bset bb (by omega) 0 _) (by omega) 1 _) (by omega) 2 _⟩
end Go.Proofs.YtiiigiggcbbgjaaGreatDoor
namespace Go.Proofs.YtiiigiggcbbgjaaGreatDoor
open Go.RowKit Go.Shelf
theorem rden_any (n : Bool) (s d : ByteArray) (w : World) :
  Calls Tryz.prog 87 #[.agg #[.bool n, .string s, .string d]] w (Re w (.agg #[.bool false, .string d])) := by
 go_enter Tryz.func87, Tryz.ntmps87
 go_wp2
 obtain ⟨w0, hw, k0, k1, b⟩ := mk2 w [.bool n, .string s, .string d] [.bool false, .string d] 26 24
 rw [← hw]
 exact post_z (p := 2) (by kernel_rfl) rfl rfl k1 ⟨rfl, b⟩
theorem refc_num (n : Bool) (s d : ByteArray) (w : World) (hs : ¬ (8000 : Int) < s.size) (hd : ¬ (8000 : Int) < d.size) (c : Int) (hc : ¬ c = 0)
  (HC : Hid (∀ w1, Calls Tryz.prog 161 #[.agg #[.bool n, .string s]] w1 (Re w1 (.int .i64 c)))) :
  Calls Tryz.prog 127 #[.agg #[.bool n, .string s, .string d]] w (Re w (.int .i64 1)) := by
 have hc' : (c != 0) = true := by simpa using hc
 go_enter Tryz.func127, Tryz.ntmps127
 go_wp2_with fail
 obtain ⟨w0, hw, k0, bb⟩ := mk1 w [.bool n, .string s, .string d] 26
 rw [← hw]
 clear hw
 refine wp_region_held_drew (S := (fun w' => xc3 w' w.heap.size (.bool n) (.string s) (.string d))) (by kernel_rfl) ?_ (fun hHeld => ?_)
 ·exact (xk3 k0)
 refine tq 0 rfl ?_
 refine tq 1 rfl ?_
 refine wpAnyH_ready (rs := [2]) (by kernel_rfl) (by simp) ?_
 refine AllReadyH.cons (o := _) rfl (fun K hK => ?_) AllReadyH.nil
 simp only [List.getElem_toArray, List.getElem_cons_succ, List.getElem_cons_zero]
 go_simp
 go_fit (HC.out _)
 rintro e wn ⟨rfl, bn⟩
 replace k0 := k0.below (un bn)
 replace bb := Below.after bb (un bn)
 clear bn
 try go_wp2_with fail
 refine hK.out _ _ ?_ (fun hHeld => ?_)
 ·exact (xk3 k0)
 clear hK K
 refine tq 3 rfl ?_
 refine tq 4 rfl ?_
 refine tu 5 rfl ?_
 refine tu 6 rfl ?_
 refine tu 7 rfl ?_
 refine tu 8 rfl ?_
 refine tq 9 rfl ?_
 refine tq 10 rfl ?_
 refine tu 11 rfl ?_
 refine tu 12 rfl ?_
 refine tu 13 rfl ?_
 refine tq 14 rfl ?_
 refine tq 15 rfl ?_
 refine tu 16 rfl ?_
 refine tu 17 rfl ?_
 refine tu 18 rfl ?_
 refine tu 19 rfl ?_
 refine tu 20 rfl ?_
 refine tu 21 rfl ?_
 refine tu 22 rfl ?_
 refine tq 23 rfl ?_
 refine wpAnyH_done (by kernel_rfl) ?_ _
 go_wp2
 go_ret
 exact ⟨rfl, bb⟩
theorem refc_nat (n : Bool) (s d : ByteArray) (w : World) (hs : ¬ (8000 : Int) < s.size) (hd : ¬ (8000 : Int) < d.size)
  (HC : Hid (∀ w1, Calls Tryz.prog 161 #[.agg #[.bool n, .string s]] w1 (Re w1 (.int .i64 0))))
  (HI : Hid (∀ w1, Calls Tryz.prog 162 #[.string d] w1 (Re w1 (.bool false)))) :
  Calls Tryz.prog 127 #[.agg #[.bool n, .string s, .string d]] w (Re w (.int .i64 1)) := by
 go_enter Tryz.func127, Tryz.ntmps127
 go_wp2_with fail
 obtain ⟨w0, hw, k0, bb⟩ := mk1 w [.bool n, .string s, .string d] 26
 rw [← hw]
 clear hw
 refine wp_region_held_drew (S := (fun w' => xc3 w' w.heap.size (.bool n) (.string s) (.string d))) (by kernel_rfl) ?_ (fun hHeld => ?_)
 ·exact (xk3 k0)
 refine tq 0 rfl ?_
 refine tq 1 rfl ?_
 refine wpAnyH_ready (rs := [2]) (by kernel_rfl) (by simp) ?_
 refine AllReadyH.cons (o := _) rfl (fun K hK => ?_) AllReadyH.nil
 simp only [List.getElem_toArray, List.getElem_cons_succ, List.getElem_cons_zero]
 go_simp
 go_fit (HC.out _)
 rintro e wn ⟨rfl, bn⟩
 replace k0 := k0.below (un bn)
 replace bb := Below.after bb (un bn)
 clear bn
 try go_wp2_with fail
 refine hK.out _ _ ?_ (fun hHeld => ?_)
 ·exact (xk3 k0)
 clear hK K
 refine tq 3 rfl ?_
 refine tq 4 rfl ?_
 refine tq 5 rfl ?_
 refine tq 6 rfl ?_
 refine wpAnyH_ready (rs := [7]) (by kernel_rfl) (by simp) ?_
 refine AllReadyH.cons (o := _) rfl (fun K hK => ?_) AllReadyH.nil
 simp only [List.getElem_toArray, List.getElem_cons_succ, List.getElem_cons_zero]
 go_simp
 go_fit (HI.out _)
 rintro e wn ⟨rfl, bn⟩
 replace k0 := k0.below (un bn)
 replace bb := Below.after bb (un bn)
 clear bn
 try go_wp2_with fail
 refine hK.out _ _ ?_ (fun hHeld => ?_)
 ·exact (xk3 k0)
 clear hK K
 refine tq 8 rfl ?_
 refine tq 9 rfl ?_
 refine tq 10 rfl ?_
 refine tu 11 rfl ?_
 refine tu 12 rfl ?_
 refine tu 13 rfl ?_
 refine tq 14 rfl ?_
 refine tq 15 rfl ?_
 refine tu 16 rfl ?_
 refine tu 17 rfl ?_
 refine tu 18 rfl ?_
 refine tu 19 rfl ?_
 refine tu 20 rfl ?_
 refine tu 21 rfl ?_
 refine tu 22 rfl ?_
 refine tq 23 rfl ?_
 refine wpAnyH_done (by kernel_rfl) ?_ _
 go_wp2
 go_ret
 exact ⟨rfl, bb⟩
theorem refc_nil (n : Bool) (s : ByteArray) (w : World) (hs : ¬ (8000 : Int) < s.size)
  (HC : Hid (∀ w1, Calls Tryz.prog 161 #[.agg #[.bool n, .string s]] w1 (Re w1 (.int .i64 0))))
  (HI : Hid (∀ w1, Calls Tryz.prog 162 #[.string ByteArray.empty] w1 (Re w1 (.bool true)))) :
  Calls Tryz.prog 127 #[.agg #[.bool n, .string s, .string ByteArray.empty]] w (Re w (.int .i64 1)) := by
 go_enter Tryz.func127, Tryz.ntmps127
 go_wp2_with fail
 obtain ⟨w0, hw, k0, bb⟩ := mk1 w [.bool n, .string s, .string ByteArray.empty] 26
 rw [← hw]
 clear hw
 refine wp_region_held_drew (S := (fun w' => xc3 w' w.heap.size (.bool n) (.string s) (.string ByteArray.empty))) (by kernel_rfl) ?_ (fun hHeld => ?_)
 ·exact (xk3 k0)
 refine tq 0 rfl ?_
 refine tq 1 rfl ?_
 refine wpAnyH_ready (rs := [2]) (by kernel_rfl) (by simp) ?_
 refine AllReadyH.cons (o := _) rfl (fun K hK => ?_) AllReadyH.nil
 simp only [List.getElem_toArray, List.getElem_cons_succ, List.getElem_cons_zero]
 go_simp
 go_fit (HC.out _)
 rintro e wn ⟨rfl, bn⟩
 replace k0 := k0.below (un bn)
 replace bb := Below.after bb (un bn)
 clear bn
 try go_wp2_with fail
 refine hK.out _ _ ?_ (fun hHeld => ?_)
 ·exact (xk3 k0)
 clear hK K
 refine tq 3 rfl ?_
 refine tq 4 rfl ?_
 refine tq 5 rfl ?_
 refine tq 6 rfl ?_
 refine wpAnyH_ready (rs := [7]) (by kernel_rfl) (by simp) ?_
 refine AllReadyH.cons (o := _) rfl (fun K hK => ?_) AllReadyH.nil
 simp only [List.getElem_toArray, List.getElem_cons_succ, List.getElem_cons_zero]
 go_simp
 go_fit (HI.out _)
 rintro e wn ⟨rfl, bn⟩
 replace k0 := k0.below (un bn)
 replace bb := Below.after bb (un bn)
 clear bn
 try go_wp2_with fail
 refine hK.out _ _ ?_ (fun hHeld => ?_)
 ·exact (xk3 k0)
 clear hK K
 refine tq 8 rfl ?_
 refine tq 9 rfl ?_
 refine tq 10 rfl ?_
 refine tq 11 rfl ?_
 refine tq 12 rfl ?_
 refine tq 13 rfl ?_
 refine tq 14 rfl ?_
 refine tq 15 rfl ?_
 refine tu 16 rfl ?_
 refine tu 17 rfl ?_
 refine tu 18 rfl ?_
 refine tu 19 rfl ?_
 refine tu 20 rfl ?_
 refine tu 21 rfl ?_
 refine tu 22 rfl ?_
 refine tq 23 rfl ?_
 refine wpAnyH_done (by kernel_rfl) ?_ _
 go_wp2
 go_ret
 exact ⟨rfl, bb⟩
theorem refc_gcd (n zN : Bool) (s d zS : ByteArray) (w : World) (hs : ¬ (8000 : Int) < s.size) (hd : ¬ (8000 : Int) < d.size) (h0 : d.toList.isEmpty = false) (hz : (zS.toList == [1]) = false)
  (HC : Hid (∀ w1, Calls Tryz.prog 161 #[.agg #[.bool n, .string s]] w1 (Re w1 (.int .i64 0))))
  (HI : Hid (∀ w1, Calls Tryz.prog 162 #[.string d] w1 (Re w1 (.bool true))))
  (HG : Hid (∀ w1, Calls Tryz.prog 118 #[.agg #[.bool n, .string s], .agg #[.bool false, .string d]] w1 (Re w1 (.agg #[.bool zN, .string zS])))) :
  Calls Tryz.prog 127 #[.agg #[.bool n, .string s, .string d]] w (Re w (.int .i64 1)) := by
 have gf := fld1 zN zS
 go_enter Tryz.func127, Tryz.ntmps127
 go_wp2_with fail
 obtain ⟨w0, hw, k0, bb⟩ := mk1 w [.bool n, .string s, .string d] 26
 rw [← hw]
 clear hw
 refine wp_region_held_drew (S := (fun w' => xc3 w' w.heap.size (.bool n) (.string s) (.string d))) (by kernel_rfl) ?_ (fun hHeld => ?_)
 ·exact (xk3 k0)
 refine tq 0 rfl ?_
 refine tq 1 rfl ?_
 refine wpAnyH_ready (rs := [2]) (by kernel_rfl) (by simp) ?_
 refine AllReadyH.cons (o := _) rfl (fun K hK => ?_) AllReadyH.nil
 simp only [List.getElem_toArray, List.getElem_cons_succ, List.getElem_cons_zero]
 go_simp
 go_fit (HC.out _)
 rintro e wn ⟨rfl, bn⟩
 replace k0 := k0.below (un bn)
 replace bb := Below.after bb (un bn)
 clear bn
 try go_wp2_with fail
 refine hK.out _ _ ?_ (fun hHeld => ?_)
 ·exact (xk3 k0)
 clear hK K
 refine tq 3 rfl ?_
 refine tq 4 rfl ?_
 refine tq 5 rfl ?_
 refine tq 6 rfl ?_
 refine wpAnyH_ready (rs := [7]) (by kernel_rfl) (by simp) ?_
 refine AllReadyH.cons (o := _) rfl (fun K hK => ?_) AllReadyH.nil
 simp only [List.getElem_toArray, List.getElem_cons_succ, List.getElem_cons_zero]
 go_simp
 go_fit (HI.out _)
 rintro e wn ⟨rfl, bn⟩
 replace k0 := k0.below (un bn)
 replace bb := Below.after bb (un bn)
 clear bn
 try go_wp2_with fail
 refine hK.out _ _ ?_ (fun hHeld => ?_)
 ·exact (xk3 k0)
 clear hK K
 refine tq 8 rfl ?_
 refine tq 9 rfl ?_
 refine tq 10 rfl ?_
 refine tq 11 rfl ?_
 refine tq 12 rfl ?_
 refine tq 13 rfl ?_
 refine tq 14 rfl ?_
 refine tq 15 rfl ?_
 refine tq 16 rfl ?_
 refine tq 17 rfl ?_
 refine tq 18 rfl ?_
 refine wpAnyH_ready (rs := [19]) (by kernel_rfl) (by simp) ?_
 refine AllReadyH.cons (o := _) rfl (fun K hK => ?_) AllReadyH.nil
 simp only [List.getElem_toArray, List.getElem_cons_succ, List.getElem_cons_zero]
 go_simp
 go_fit (rden_any _ _ _ _)
 rintro e wn ⟨rfl, bn⟩
 replace k0 := k0.below (un bn)
 replace bb := Below.after bb (un bn)
 clear bn
 try go_wp2_with fail
 refine hK.out _ _ ?_ (fun hHeld => ?_)
 ·exact (xk3 k0)
 clear hK K
 refine wpAnyH_ready (rs := [20]) (by kernel_rfl) (by simp) ?_
 refine AllReadyH.cons (o := _) rfl (fun K hK => ?_) AllReadyH.nil
 simp only [List.getElem_toArray, List.getElem_cons_succ, List.getElem_cons_zero]
 go_simp
 go_fit (HG.out _)
 rintro e wn ⟨rfl, bn⟩
 replace k0 := k0.below (un bn)
 replace bb := Below.after bb (un bn)
 clear bn
 try go_wp2_with fail
 refine hK.out _ _ ?_ (fun hHeld => ?_)
 ·exact (xk3 k0)
 clear hK K
 refine tq 21 rfl ?_
 refine tq 22 rfl ?_
 refine tq 23 rfl ?_
 refine wpAnyH_done (by kernel_rfl) ?_ _
 go_wp2
 go_ret
 exact ⟨rfl, bb⟩
theorem refc_ok (n zN : Bool) (s d zS : ByteArray) (w : World) (hs : ¬ (8000 : Int) < s.size) (hd : ¬ (8000 : Int) < d.size) (h0 : d.toList.isEmpty = false) (hz : (zS.toList == [1]) = true)
  (HC : Hid (∀ w1, Calls Tryz.prog 161 #[.agg #[.bool n, .string s]] w1 (Re w1 (.int .i64 0))))
  (HI : Hid (∀ w1, Calls Tryz.prog 162 #[.string d] w1 (Re w1 (.bool true))))
  (HG : Hid (∀ w1, Calls Tryz.prog 118 #[.agg #[.bool n, .string s], .agg #[.bool false, .string d]] w1 (Re w1 (.agg #[.bool zN, .string zS])))) :
  Calls Tryz.prog 127 #[.agg #[.bool n, .string s, .string d]] w (Re w (.int .i64 0)) := by
 have gf := fld1 zN zS
 go_enter Tryz.func127, Tryz.ntmps127
 go_wp2_with fail
 obtain ⟨w0, hw, k0, bb⟩ := mk1 w [.bool n, .string s, .string d] 26
 rw [← hw]
 clear hw
 refine wp_region_held_drew (S := (fun w' => xc3 w' w.heap.size (.bool n) (.string s) (.string d))) (by kernel_rfl) ?_ (fun hHeld => ?_)
 ·exact (xk3 k0)
 refine tq 0 rfl ?_
 refine tq 1 rfl ?_
 refine wpAnyH_ready (rs := [2]) (by kernel_rfl) (by simp) ?_
 refine AllReadyH.cons (o := _) rfl (fun K hK => ?_) AllReadyH.nil
 simp only [List.getElem_toArray, List.getElem_cons_succ, List.getElem_cons_zero]
 go_simp
 go_fit (HC.out _)
 rintro e wn ⟨rfl, bn⟩
 replace k0 := k0.below (un bn)
 replace bb := Below.after bb (un bn)
 clear bn
 try go_wp2_with fail
 refine hK.out _ _ ?_ (fun hHeld => ?_)
 ·exact (xk3 k0)
 clear hK K
 refine tq 3 rfl ?_
 refine tq 4 rfl ?_
 refine tq 5 rfl ?_
 refine tq 6 rfl ?_
 refine wpAnyH_ready (rs := [7]) (by kernel_rfl) (by simp) ?_
 refine AllReadyH.cons (o := _) rfl (fun K hK => ?_) AllReadyH.nil
 simp only [List.getElem_toArray, List.getElem_cons_succ, List.getElem_cons_zero]
 go_simp
 go_fit (HI.out _)
 rintro e wn ⟨rfl, bn⟩
 replace k0 := k0.below (un bn)
 replace bb := Below.after bb (un bn)
 clear bn
 try go_wp2_with fail
 refine hK.out _ _ ?_ (fun hHeld => ?_)
 ·exact (xk3 k0)
 clear hK K
 refine tq 8 rfl ?_
 refine tq 9 rfl ?_
 refine tq 10 rfl ?_
 refine tq 11 rfl ?_
 refine tq 12 rfl ?_
 refine tq 13 rfl ?_
 refine tq 14 rfl ?_
 refine tq 15 rfl ?_
 refine tq 16 rfl ?_
 refine tq 17 rfl ?_
 refine tq 18 rfl ?_
 refine wpAnyH_ready (rs := [19]) (by kernel_rfl) (by simp) ?_
 refine AllReadyH.cons (o := _) rfl (fun K hK => ?_) AllReadyH.nil
 simp only [List.getElem_toArray, List.getElem_cons_succ, List.getElem_cons_zero]
 go_simp
 go_fit (rden_any _ _ _ _)
 rintro e wn ⟨rfl, bn⟩
 replace k0 := k0.below (un bn)
 replace bb := Below.after bb (un bn)
 clear bn
 try go_wp2_with fail
 refine hK.out _ _ ?_ (fun hHeld => ?_)
 ·exact (xk3 k0)
 clear hK K
 refine wpAnyH_ready (rs := [20]) (by kernel_rfl) (by simp) ?_
 refine AllReadyH.cons (o := _) rfl (fun K hK => ?_) AllReadyH.nil
 simp only [List.getElem_toArray, List.getElem_cons_succ, List.getElem_cons_zero]
 go_simp
 go_fit (HG.out _)
 rintro e wn ⟨rfl, bn⟩
 replace k0 := k0.below (un bn)
 replace bb := Below.after bb (un bn)
 clear bn
 try go_wp2_with fail
 refine hK.out _ _ ?_ (fun hHeld => ?_)
 ·exact (xk3 k0)
 clear hK K
 refine tq 21 rfl ?_
 refine tq 22 rfl ?_
 refine tq 23 rfl ?_
 refine wpAnyH_done (by kernel_rfl) ?_ _
 go_wp2
 go_ret
 exact ⟨rfl, bb⟩
theorem refc_any (n : Bool) (s d : ByteArray) (w : World) (zs : s.size ≤ 8000) (zd : d.size ≤ 8000) :
  Calls Tryz.prog 127 #[.agg #[.bool n, .string s, .string d]] w (Re w (.int .i64 (chkq n s d : Nat))) := by
 have hs : ¬ (8000 : Int) < s.size := by omega
 have hd : ¬ (8000 : Int) < d.size := by omega
 have hl : ¬ (8000 < s.size ∨ 8000 < d.size) := by omega
 by_cases c0 : chk n s = 0
 ·have HC : Hid (∀ w1, Calls Tryz.prog 161 #[.agg #[.bool n, .string s]] w1 (Re w1 (.int .i64 0))) := by
   intro w1
   have := rcheck_any n s w1
   rwa [c0] at this
  have o := (chk_ok (by omega)).1 c0
  by_cases h0 : 0 < d.size
  ·by_cases hb : lm (byts d) 0 = 0
   ·rw [show chkq n s d = 1 by unfold chkq; rw [if_neg hl, if_pos (Or.inr (Or.inr (Or.inl hb)))]]
    exact refc_nat n s d w hs hd HC (fun w1 => (isNat_no d w1 h0 hb).mono fun e w' h => ⟨h.1, by rw [h.2]; exact Below.refl _ _⟩)
   ·have od : OkS d := fun _ => hb
    have HI : Hid (∀ w1, Calls Tryz.prog 162 #[.string d] w1 (Re w1 (.bool true))) := fun w1 => (isNat_yes d w1 (fun _ => hb)).mono fun e w' h => ⟨h.1, by rw [h.2]; exact Below.refl _ _⟩
    have HG : Hid (∀ w1, Calls Tryz.prog 118 #[.agg #[.bool n, .string s], .agg #[.bool false, .string d]] w1 (Re w1 (.agg #[.bool false, .string (strOf (Nat.gcd (natOf s) (natOf d)))]))) := by
     intro w1
     have := rcommon_any n false s d w1 (by omega) (by omega)
     have e : zI ((Nat.gcd (natOf s) (natOf d) : Nat) : Int) = .agg #[.bool false, .string (strOf (Nat.gcd (natOf s) (natOf d)))] := by
      show zV _ _ = _
      rw [Int.natAbs_natCast, show decide ((((Nat.gcd (natOf s) (natOf d) : Nat)) : Int) < 0) = false by simp]
      rfl
     rwa [e] at this
    have h5 : d.toList.isEmpty = false := by simpa using toList_ne h0
    by_cases hg : Nat.gcd (natOf s) (natOf d) = 1
    ·rw [chkq_ok ⟨o, od, natOf_pos od h0, hg⟩ zs zd]
     exact refc_ok n false s d _ w hs hd h5 (eq1 (by rw [hg, strOf_one])) HC HI HG
    ·rw [show chkq n s d = 1 by unfold chkq; rw [if_neg hl, if_pos (Or.inr (Or.inr (Or.inr hg)))]]
     exact refc_gcd n false s d _ w hs hd h5 (ne1 fun h => hg (by
      have := natOf_strOf (Nat.gcd (natOf s) (natOf d))
      rw [h, natOf_one] at this
      exact this.symm)) HC HI HG
  ·have g3 : d = ByteArray.empty := ByteArray.size_eq_zero_iff.1 (by omega)
   subst g3
   rw [show chkq n s ByteArray.empty = 1 by unfold chkq; rw [if_neg hl, if_pos (Or.inr (Or.inl (show ByteArray.empty.size = 0 from rfl)))]]
   exact refc_nil n s w hs HC (fun w1 => (isNat_yes ByteArray.empty w1 (fun h => absurd h h0)).mono fun e w' h => ⟨h.1, by rw [h.2]; exact Below.refl _ _⟩)
 ·have h1 : chk n s = 1 := by
   unfold chk at c0 ⊢
   rw [if_neg (by omega)] at c0 ⊢
   split at c0
   ·rw [if_pos (by assumption)]
   ·exact absurd rfl c0
  rw [show chkq n s d = 1 by unfold chkq; rw [if_neg hl, if_pos (Or.inl c0)]]
  refine refc_num n s d w hs hd 1 (by omega) (fun w1 => ?_)
  have := rcheck_any n s w1
  rwa [h1] at this
theorem bothq_bad (n0 n1 : Bool) (s0 d0 s1 d1 : ByteArray) (c : Int) (w : World) (hc : ¬ c = 0)
  (H1 : Hid (∀ w1, Calls Tryz.prog 127 #[.agg #[.bool n0, .string s0, .string d0]] w1 (Re w1 (.int .i64 c)))) :
  Calls Tryz.prog 88 #[.agg #[.bool n0, .string s0, .string d0], .agg #[.bool n1, .string s1, .string d1]] w (Re w (.int .i64 c)) := by
 go_enter Tryz.func88, Tryz.ntmps88
 go_wp2_with fail
 go_fit (H1.out _)
 rintro e w1 ⟨rfl, b1⟩
 obtain ⟨ka, kb, b1⟩ := al2 b1
 have sz := b1.size
 have bb := b1
 clear b1
 have ta := ka.lt
 have tb := kb.lt
 go_wp2
 go_ret
 exact ⟨rfl, bb⟩
theorem bothq_ok (n0 n1 : Bool) (s0 d0 s1 d1 : ByteArray) (c : Int) (w : World)
  (H1 : Hid (∀ w1, Calls Tryz.prog 127 #[.agg #[.bool n0, .string s0, .string d0]] w1 (Re w1 (.int .i64 0))))
  (H2 : Hid (∀ w1, Calls Tryz.prog 127 #[.agg #[.bool n1, .string s1, .string d1]] w1 (Re w1 (.int .i64 c)))) :
  Calls Tryz.prog 88 #[.agg #[.bool n0, .string s0, .string d0], .agg #[.bool n1, .string s1, .string d1]] w (Re w (.int .i64 c)) := by
 go_enter Tryz.func88, Tryz.ntmps88
 go_wp2_with fail
 go_fit (H1.out _)
 rintro e w1 ⟨rfl, b1⟩
 obtain ⟨ka, kb, b1⟩ := al2 b1
 have sz := b1.size
 have bb := b1
 clear b1
 have ta := ka.lt
 have tb := kb.lt
 obtain ⟨cb_0, cb_1, cb_2⟩ := xk3 kb
 go_wp2_with fail
 clear cb_0 cb_1 cb_2
 go_fit (H2.out _)
 rintro e w2 ⟨rfl, b1⟩
 have sz := b1.size
 replace ka := ka.below b1
 replace kb := kb.below b1
 replace bb := Below.after bb b1
 clear b1
 go_wp2
 go_ret
 exact ⟨rfl, bb⟩
theorem bothq_any (n0 n1 : Bool) (s0 d0 s1 d1 : ByteArray) (w : World) (z0 : s0.size ≤ 8000) (y0 : d0.size ≤ 8000) (z1 : s1.size ≤ 8000) (y1 : d1.size ≤ 8000) :
  Calls Tryz.prog 88 #[.agg #[.bool n0, .string s0, .string d0], .agg #[.bool n1, .string s1, .string d1]] w (Re w (.int .i64 (twoq n0 s0 d0 n1 s1 d1 : Nat))) := by
 unfold twoq
 by_cases e0 : chkq n0 s0 d0 = 0
 ·rw [if_pos e0]
  refine bothq_ok n0 n1 s0 d0 s1 d1 _ w (fun w1 => ?_) (fun w1 => refc_any n1 s1 d1 w1 z1 y1)
  have := refc_any n0 s0 d0 w1 z0 y0
  rwa [e0] at this
 ·rw [if_neg e0]
  exact bothq_bad n0 n1 s0 d0 s1 d1 _ w (by omega) (fun w1 => refc_any n0 s0 d0 w1 z0 y0)
end Go.Proofs.YtiiigiggcbbgjaaGreatDoor
namespace Go.Proofs.YtiiigiggcbbgjaaGreatDoor
open Go.RowKit Go.Shelf
theorem rorder_same (n0 n1 : Bool) (s0 d0 s1 d1 : ByteArray) (c : Int) (h : (d0.toList == d1.toList) = true) (w : World)
  (H1 : Hid (∀ w1, Calls Tryz.prog 85 #[.agg #[.bool n0, .string s0], .agg #[.bool n1, .string s1]] w1 (Re w1 (.int .i64 c)))) :
  Calls Tryz.prog 39 #[.agg #[.bool n0, .string s0, .string d0], .agg #[.bool n1, .string s1, .string d1]] w (Re w (.int .i64 c)) := by
 go_enter Tryz.func39, Tryz.ntmps39
 go_wp2_with fail
 obtain ⟨w1, hw, ka, kb, b1⟩ := mk2 w [.bool n0, .string s0, .string d0] [.bool n1, .string s1, .string d1] 26 26
 rw [← hw]
 clear hw
 have sz := b1.size
 have ta := ka.lt
 have tb := kb.lt
 have bb := b1
 clear b1
 obtain ⟨ca_0, ca_1, ca_2⟩ := xk3 ka
 obtain ⟨cb_3, cb_4, cb_5⟩ := xk3 kb
 go_wp2_with fail
 clear ca_0 ca_1 ca_2 cb_3 cb_4 cb_5
 go_fit (H1.out _)
 rintro e w2 ⟨rfl, b1⟩
 have sz := b1.size
 replace ka := ka.below b1
 replace kb := kb.below b1
 replace bb := Below.after bb b1
 clear b1
 go_wp2
 go_ret
 exact ⟨rfl, bb⟩
theorem rorder_walk (n0 n1 xN yN : Bool) (s0 d0 s1 d1 xS yS : ByteArray) (c : Int) (h : (d0.toList == d1.toList) = false) (w : World)
  (H1 : Hid (∀ w1, Calls Tryz.prog 86 #[.agg #[.bool n0, .string s0], .agg #[.bool false, .string d1]] w1 (Re w1 (.agg #[.bool xN, .string xS]))))
  (H2 : Hid (∀ w1, Calls Tryz.prog 86 #[.agg #[.bool n1, .string s1], .agg #[.bool false, .string d0]] w1 (Re w1 (.agg #[.bool yN, .string yS]))))
  (H3 : Hid (∀ w1, Calls Tryz.prog 85 #[.agg #[.bool xN, .string xS], .agg #[.bool yN, .string yS]] w1 (Re w1 (.int .i64 c)))) :
  Calls Tryz.prog 39 #[.agg #[.bool n0, .string s0, .string d0], .agg #[.bool n1, .string s1, .string d1]] w (Re w (.int .i64 c)) := by
 go_enter Tryz.func39, Tryz.ntmps39
 go_wp2_with fail
 obtain ⟨w1, hw, ka, kb, b1⟩ := mk2 w [.bool n0, .string s0, .string d0] [.bool n1, .string s1, .string d1] 26 26
 rw [← hw]
 clear hw
 have sz := b1.size
 have ta := ka.lt
 have tb := kb.lt
 have bb := b1
 clear b1
 obtain ⟨ca_0, ca_1, ca_2⟩ := xk3 ka
 obtain ⟨cb_3, cb_4, cb_5⟩ := xk3 kb
 go_wp2_with fail
 clear ca_0 ca_1 ca_2 cb_3 cb_4 cb_5
 go_region_held3 (fun w' => xc3 w' w.heap.size (.bool n0) (.string s0) (.string d0) ∧ xc3 w' (w.heap.size + 1) (.bool n1) (.string s1) (.string d1)) (exact ⟨xk3 ka, xk3 kb⟩) (first | (go_at_call 87; go_fit (rden_any _ _ _ _); rintro e wn ⟨rfl, bn⟩; replace ka := ka.below (un bn); replace kb := kb.below (un bn); replace bb := Below.after bb (un bn)) | (go_at_call 86; go_fit (H1.out _); rintro e wn ⟨rfl, bn⟩; replace ka := ka.below (un bn); replace kb := kb.below (un bn); replace bb := Below.after bb (un bn)) | (go_at_call 86; go_fit (H2.out _); rintro e wn ⟨rfl, bn⟩; replace ka := ka.below (un bn); replace kb := kb.below (un bn); replace bb := Below.after bb (un bn)) | (go_at_call 85; go_fit (H3.out _); rintro e wn ⟨rfl, bn⟩; replace ka := ka.below (un bn); replace kb := kb.below (un bn); replace bb := Below.after bb (un bn)))
 go_wp2
 go_ret
 exact ⟨rfl, bb⟩
theorem rsum_ones (n0 n1 xN : Bool) (s0 s1 xS d0 d1 : ByteArray) (h0 : (d0.toList == [1]) = true) (h : (d1.toList == [1]) = true) (w : World)
  (H1 : Hid (∀ w1, Calls Tryz.prog 107 #[.agg #[.bool n0, .string s0], .agg #[.bool n1, .string s1]] w1 (Re w1 (.agg #[.bool xN, .string xS])))) :
  Calls Tryz.prog 66 #[.agg #[.bool n0, .string s0, .string d0], .agg #[.bool n1, .string s1, .string d1]] w (Re w (.agg #[.bool xN, .string xS, .string ⟨#[1]⟩])) := by
 go_enter Tryz.func66, Tryz.ntmps66
 go_wp2_with fail
 obtain ⟨w1, hw, ka, kb, kr, b1⟩ := mk3 w [.bool n0, .string s0, .string d0] [.bool n1, .string s1, .string d1] [.bool false, .string { data := #[] }, .string { data := #[] }] 26 26 26
 rw [← hw]
 clear hw
 have sz := b1.size
 have ta := ka.lt
 have tb := kb.lt
 have tr := kr.lt
 have bb := b1
 clear b1
 obtain ⟨ca_0, ca_1, ca_2⟩ := xk3 ka
 obtain ⟨cb_3, cb_4, cb_5⟩ := xk3 kb
 go_wp2_with fail
 clear ca_0 ca_1 ca_2 cb_3 cb_4 cb_5
 go_fit (H1.out _)
 rintro e w2 ⟨rfl, b1⟩
 have sz := b1.size
 replace ka := ka.below b1
 replace kb := kb.below b1
 replace kr := kr.below b1
 replace bb := Below.after bb b1
 clear b1
 have cr_0 := cel3_0 kr
 have fr_1 := Cel.frozen kr 0
 have cr_2 := cel3_1 kr
 have fr_3 := Cel.frozen kr 1
 have cr_4 := cel3_2 kr
 have fr_5 := Cel.frozen kr 2
 go_wp2
 exact post_q (p := 4) (by kernel_rfl) rfl rfl (((kr.set 0 _).set 1 _).set 2 _) ⟨rfl, bset (bset (bset bb (by omega) 0 _) (by omega) 1 _) (by omega) 2 _⟩
theorem rnegq_walk (n0 xN : Bool) (s0 d0 xS : ByteArray) (w : World)
  (H1 : Hid (∀ w1, Calls Tryz.prog 119 #[.agg #[.bool n0, .string s0]] w1 (Re w1 (.agg #[.bool xN, .string xS])))) :
  Calls Tryz.prog 108 #[.agg #[.bool n0, .string s0, .string d0]] w (Re w (.agg #[.bool xN, .string xS, .string d0])) := by
 go_enter Tryz.func108, Tryz.ntmps108
 go_wp2_with fail
 obtain ⟨w1, hw, ka, kr, b1⟩ := mk2 w [.bool n0, .string s0, .string d0] [.bool false, .string { data := #[] }, .string { data := #[] }] 26 26
 rw [← hw]
 clear hw
 have sz := b1.size
 have ta := ka.lt
 have tr := kr.lt
 have bb := b1
 clear b1
 have qa : w.heap.size ≠ w.heap.size + 1 := by omega
 go_region_held3 (fun w' => xc3 w' w.heap.size (.bool n0) (.string s0) (.string d0)) (first | exact (xk3 ka) | exact (xk3 (Cel.other (Cel.other (Cel.other ka qa 0 _) qa 1 _) qa 2 _))) (first | (go_at_call 119; go_fit (H1.out _); rintro e wn ⟨rfl, bn⟩; replace ka := ka.below (un bn); replace kr := kr.below (un bn); replace bb := Below.after bb (un bn); have e0 := cel3_0 kr; have f0 := Cel.frozen kr 0; have e1 := cel3_1 kr; have f1 := Cel.frozen kr 1; have e2 := cel3_2 kr; have f2 := Cel.frozen kr 2) | fail)
 go_wp2
 exact post_q (p := 2) (by kernel_rfl) rfl rfl (((kr.set 0 _).set 1 _).set 2 _) ⟨rfl, bset (bset (bset bb (by omega) 0 _) (by omega) 1 _) (by omega) 2 _⟩
theorem rless_walk (n0 n1 xN rN : Bool) (s0 d0 s1 d1 xS xD rS rD : ByteArray) (w : World)
  (H1 : Hid (∀ w1, Calls Tryz.prog 108 #[.agg #[.bool n1, .string s1, .string d1]] w1 (Re w1 (.agg #[.bool xN, .string xS, .string xD]))))
  (H2 : Hid (∀ w1, Calls Tryz.prog 66 #[.agg #[.bool n0, .string s0, .string d0], .agg #[.bool xN, .string xS, .string xD]] w1 (Re w1 (.agg #[.bool rN, .string rS, .string rD])))) :
  Calls Tryz.prog 68 #[.agg #[.bool n0, .string s0, .string d0], .agg #[.bool n1, .string s1, .string d1]] w (Re w (.agg #[.bool rN, .string rS, .string rD])) := by
 go_enter Tryz.func68, Tryz.ntmps68
 go_wp2_with fail
 obtain ⟨w1, hw, ka, kb, kr, b1⟩ := mk3 w [.bool n0, .string s0, .string d0] [.bool n1, .string s1, .string d1] [.bool false, .string { data := #[] }, .string { data := #[] }] 26 26 26
 rw [← hw]
 clear hw
 have sz := b1.size
 have ta := ka.lt
 have tb := kb.lt
 have tr := kr.lt
 have bb := b1
 clear b1
 have qa : w.heap.size ≠ w.heap.size + 1 + 1 := by omega
 have qb : w.heap.size + 1 ≠ w.heap.size + 1 + 1 := by omega
 go_region_held3 (fun w' => xc3 w' w.heap.size (.bool n0) (.string s0) (.string d0) ∧ xc3 w' (w.heap.size + 1) (.bool n1) (.string s1) (.string d1)) (first | exact ⟨xk3 ka, xk3 kb⟩ | exact ⟨xk3 (Cel.other (Cel.other (Cel.other ka qa 0 _) qa 1 _) qa 2 _), xk3 (Cel.other (Cel.other (Cel.other kb qb 0 _) qb 1 _) qb 2 _)⟩) (first | (go_at_call 108; go_fit (H1.out _); rintro e wn ⟨rfl, bn⟩; replace ka := ka.below (un bn); replace kb := kb.below (un bn); replace kr := kr.below (un bn); replace bb := Below.after bb (un bn)) | (go_at_call 66; go_fit (H2.out _); rintro e wn ⟨rfl, bn⟩; replace ka := ka.below (un bn); replace kb := kb.below (un bn); replace kr := kr.below (un bn); replace bb := Below.after bb (un bn); have e0 := cel3_0 kr; have f0 := Cel.frozen kr 0; have e1 := cel3_1 kr; have f1 := Cel.frozen kr 1; have e2 := cel3_2 kr; have f2 := Cel.frozen kr 2))
 go_wp2
 exact post_q (p := 4) (by kernel_rfl) rfl rfl (((kr.set 0 _).set 1 _).set 2 _) ⟨rfl, bset (bset (bset bb (by omega) 0 _) (by omega) 1 _) (by omega) 2 _⟩
end Go.Proofs.YtiiigiggcbbgjaaGreatDoor
namespace Go.Proofs.YtiiigiggcbbgjaaGreatDoor
open Go.RowKit Go.Shelf
theorem rsum_walk0 (n0 n1 xN yN mN vN rN : Bool) (s0 d0 s1 d1 xS yS mS vS rS rD : ByteArray) (h : (d0.toList == [1]) = false) (w : World)
  (H1 : Hid (∀ w1, Calls Tryz.prog 86 #[.agg #[.bool n0, .string s0], .agg #[.bool false, .string d1]] w1 (Re w1 (.agg #[.bool xN, .string xS]))))
  (H2 : Hid (∀ w1, Calls Tryz.prog 86 #[.agg #[.bool n1, .string s1], .agg #[.bool false, .string d0]] w1 (Re w1 (.agg #[.bool yN, .string yS]))))
  (H3 : Hid (∀ w1, Calls Tryz.prog 107 #[.agg #[.bool xN, .string xS], .agg #[.bool yN, .string yS]] w1 (Re w1 (.agg #[.bool mN, .string mS]))))
  (H4 : Hid (∀ w1, Calls Tryz.prog 86 #[.agg #[.bool false, .string d0], .agg #[.bool false, .string d1]] w1 (Re w1 (.agg #[.bool vN, .string vS]))))
  (H5 : Hid (∀ w1, Calls Tryz.prog 83 #[.agg #[.bool mN, .string mS], .agg #[.bool vN, .string vS]] w1 (Re w1 (.agg #[.bool rN, .string rS, .string rD])))) :
  Calls Tryz.prog 66 #[.agg #[.bool n0, .string s0, .string d0], .agg #[.bool n1, .string s1, .string d1]] w (Re w (.agg #[.bool rN, .string rS, .string rD])) := by
 go_enter Tryz.func66, Tryz.ntmps66
 go_wp2_with fail
 obtain ⟨w1, hw, ka, kb, kr, b1⟩ := mk3 w [.bool n0, .string s0, .string d0] [.bool n1, .string s1, .string d1] [.bool false, .string { data := #[] }, .string { data := #[] }] 26 26 26
 rw [← hw]
 clear hw
 have sz := b1.size
 have ta := ka.lt
 have tb := kb.lt
 have tr := kr.lt
 have bb := b1
 clear b1
 obtain ⟨ca_0, ca_1, ca_2⟩ := xk3 ka
 obtain ⟨cb_3, cb_4, cb_5⟩ := xk3 kb
 go_wp2_with fail
 clear ca_0 ca_1 ca_2 cb_3 cb_4 cb_5
 have mk : Hid (∀ w', SB w1 w' → xc3 w' w.heap.size (.bool n0) (.string s0) (.string d0) ∧ xc3 w' (w.heap.size + 1) (.bool n1) (.string s1) (.string d1)) := fun w' h => ⟨xk3 (ka.below h), xk3 (kb.below h)⟩
 go_cut [5] from 20 to 30 (fun v wx => ∃ gc, v = .pointer (some ⟨gc, 0, none⟩) ∧ w1.heap.size ≤ gc ∧ Cel wx gc [.bool mN, .string mS] 24 ∧ Below w1.heap.size w1 wx)
 case first =>
  clear H4 H5 kr
  refine wp_region_held_drew (S := SB w1) (by kernel_rfl) (bdrew _) (fun bc => ?_)
  refine WA.start (n := 13) (by kernel_rfl) ?_
  refine WA.tl 0 rfl ?_
  refine WA.tl 1 rfl ?_
  refine WA.tl 2 rfl ?_
  refine WA.tl 5 rfl ?_
  refine WA.tl 6 rfl ?_
  refine WA.tl 7 rfl ?_
  refine WA.gen (i := 11) (s := 5) undef (Pt w1 [.bool false, .string { data := #[] }] 24) (fun b x hz => ?_)
  simp only [Act.put, List.setIfInBounds_toArray, List.set_cons_zero, List.set_cons_succ]
  revert b x
  refine WA.one 13 231 3 11 rfl rfl bc ?_
  clear bc
  intro b x w' hz bx bc K hK
  clear bx
  simp only [List.getElem_toArray, List.getElem_cons_succ, List.getElem_cons_zero]
  go_simp
  go_fit (rden_any n1 s1 d1 _)
  rintro e wn ⟨rfl, bn⟩
  replace bc := Below.after bc bn
  try go_wp2_with fail
  refine hK.out _ _ bc (fun _ => ?_)
  replace hz := fun h => (hz h).below bn
  clear hK K bn
  revert b x
  refine WA.one 13 239 4 11 rfl rfl bc ?_
  clear bc
  intro b x w' hz bx bc K hK
  clear bx
  simp only [List.getElem_toArray, List.getElem_cons_succ, List.getElem_cons_zero]
  go_simp
  go_fit (H1.out _)
  rintro e wn ⟨rfl, bn⟩
  replace bc := Below.after bc bn
  try go_wp2_with fail
  refine hK.out _ _ bc (fun _ => ?_)
  replace hz := fun h => (hz h).below bn
  clear hK K bn
  revert b x
  refine WA.one 13 255 8 11 rfl rfl bc ?_
  clear bc
  intro b x w' hz bx bc K hK
  clear bx
  simp only [List.getElem_toArray, List.getElem_cons_succ, List.getElem_cons_zero]
  go_simp
  go_fit (rden_any n0 s0 d0 _)
  rintro e wn ⟨rfl, bn⟩
  replace bc := Below.after bc bn
  try go_wp2_with fail
  refine hK.out _ _ bc (fun _ => ?_)
  replace hz := fun h => (hz h).below bn
  clear hK K bn
  revert b x
  refine WA.one 13 511 9 11 rfl rfl bc ?_
  clear bc
  intro b x w' hz bx bc K hK
  clear bx
  simp only [List.getElem_toArray, List.getElem_cons_succ, List.getElem_cons_zero]
  go_simp
  go_fit (H2.out _)
  rintro e wn ⟨rfl, bn⟩
  replace bc := Below.after bc bn
  try go_wp2_with fail
  refine hK.out _ _ bc (fun _ => ?_)
  replace hz := fun h => (hz h).below bn
  clear hK K bn
  revert b x
  refine WA.one 13 1023 10 11 rfl rfl bc ?_
  clear bc
  intro b x w' hz bx bc K hK
  clear bx
  simp only [List.getElem_toArray, List.getElem_cons_succ, List.getElem_cons_zero]
  go_simp
  go_fit (H3.out _)
  rintro e wn ⟨rfl, bn⟩
  replace bc := Below.after bc bn
  try go_wp2_with fail
  refine hK.out _ _ bc (fun _ => ?_)
  replace hz := fun h => (hz h).below bn
  clear hK K bn
  revert b x
  refine WA.fin 11 rfl bc ?_
  clear bc
  intro x w' hz bx bc
  obtain ⟨g0, rfl, h0, k0⟩ := hz
  clear bx
  have e0_0 := cel2_0' k0
  have f0_0 := Cel.frozen k0 0
  have e0_1 := cel2_1' k0
  have f0_1 := Cel.frozen k0 1
  refine WA.call 12 rfl (fun K hK => ?_)
  simp only [List.getElem_toArray, List.getElem_cons_succ, List.getElem_cons_zero]
  go_simp
  try go_wp2_with fail
  clear e0_0 f0_0 e0_1 f0_1
  refine hK.out _ _ (bset (bset bc h0 0 (.bool mN)) h0 1 (.string mS)) (fun hS => ?_)
  clear hK K
  replace k0 := (Cel.set (Cel.set k0 0 (.bool mN)) 1 (.string mS))
  replace bc := (bset (bset bc h0 0 (.bool mN)) h0 1 (.string mS))
  refine WA.done (by kernel_rfl) ?_
  go_wp2_with fail
  go_meet
  exact ⟨_, rfl, h0, k0, bc⟩
 case rest =>
 obtain ⟨gm, rfl, lm, km, b1⟩ := hcut
 clear mk
 have sz := b1.size
 replace ka := ka.below b1
 replace kb := kb.below b1
 replace kr := kr.below b1
 replace bb := Below.after bb b1
 clear b1
 have tm := km.lt
 go_wp2_with fail
 have qa : w.heap.size ≠ w.heap.size + 1 + 1 := by omega
 have qb : w.heap.size + 1 ≠ w.heap.size + 1 + 1 := by omega
 have qm : gm ≠ w.heap.size + 1 + 1 := by omega
 go_region_held3 (fun w' => xc3 w' w.heap.size (.bool n0) (.string s0) (.string d0) ∧ xc3 w' (w.heap.size + 1) (.bool n1) (.string s1) (.string d1) ∧ xc2 w' gm (.bool mN) (.string mS)) (first | exact ⟨xk3 ka, xk3 kb, xk2 km⟩ | exact ⟨xk3 (Cel.other (Cel.other (Cel.other ka qa 0 _) qa 1 _) qa 2 _), xk3 (Cel.other (Cel.other (Cel.other kb qb 0 _) qb 1 _) qb 2 _), xk2 (Cel.other (Cel.other (Cel.other km qm 0 _) qm 1 _) qm 2 _)⟩) (first | (go_at_call 87; go_fit (rden_any _ _ _ _); rintro e wn ⟨rfl, bn⟩; replace ka := ka.below (un bn); replace kb := kb.below (un bn); replace kr := kr.below (un bn); replace km := km.below (un bn); replace bb := Below.after bb (un bn)) | (go_at_call 86; go_fit (H4.out _); rintro e wn ⟨rfl, bn⟩; replace ka := ka.below (un bn); replace kb := kb.below (un bn); replace kr := kr.below (un bn); replace km := km.below (un bn); replace bb := Below.after bb (un bn)) | (go_at_call 83; go_fit (H5.out _); rintro e wn ⟨rfl, bn⟩; replace ka := ka.below (un bn); replace kb := kb.below (un bn); replace kr := kr.below (un bn); replace km := km.below (un bn); replace bb := Below.after bb (un bn); have e0 := cel3_0 kr; have f0 := Cel.frozen kr 0; have e1 := cel3_1 kr; have f1 := Cel.frozen kr 1; have e2 := cel3_2 kr; have f2 := Cel.frozen kr 2))
 go_wp2
 exact post_q (p := 4) (by kernel_rfl) rfl rfl (((kr.set 0 _).set 1 _).set 2 _) ⟨rfl, bset (bset (bset bb (by omega) 0 _) (by omega) 1 _) (by omega) 2 _⟩
theorem rsum_walk1 (n0 n1 xN yN mN vN rN : Bool) (s0 d0 s1 d1 xS yS mS vS rS rD : ByteArray) (h0 : (d0.toList == [1]) = true) (h : (d1.toList == [1]) = false) (w : World)
  (H1 : Hid (∀ w1, Calls Tryz.prog 86 #[.agg #[.bool n0, .string s0], .agg #[.bool false, .string d1]] w1 (Re w1 (.agg #[.bool xN, .string xS]))))
  (H2 : Hid (∀ w1, Calls Tryz.prog 86 #[.agg #[.bool n1, .string s1], .agg #[.bool false, .string d0]] w1 (Re w1 (.agg #[.bool yN, .string yS]))))
  (H3 : Hid (∀ w1, Calls Tryz.prog 107 #[.agg #[.bool xN, .string xS], .agg #[.bool yN, .string yS]] w1 (Re w1 (.agg #[.bool mN, .string mS]))))
  (H4 : Hid (∀ w1, Calls Tryz.prog 86 #[.agg #[.bool false, .string d0], .agg #[.bool false, .string d1]] w1 (Re w1 (.agg #[.bool vN, .string vS]))))
  (H5 : Hid (∀ w1, Calls Tryz.prog 83 #[.agg #[.bool mN, .string mS], .agg #[.bool vN, .string vS]] w1 (Re w1 (.agg #[.bool rN, .string rS, .string rD])))) :
  Calls Tryz.prog 66 #[.agg #[.bool n0, .string s0, .string d0], .agg #[.bool n1, .string s1, .string d1]] w (Re w (.agg #[.bool rN, .string rS, .string rD])) := by
 go_enter Tryz.func66, Tryz.ntmps66
 go_wp2_with fail
 obtain ⟨w1, hw, ka, kb, kr, b1⟩ := mk3 w [.bool n0, .string s0, .string d0] [.bool n1, .string s1, .string d1] [.bool false, .string { data := #[] }, .string { data := #[] }] 26 26 26
 rw [← hw]
 clear hw
 have sz := b1.size
 have ta := ka.lt
 have tb := kb.lt
 have tr := kr.lt
 have bb := b1
 clear b1
 obtain ⟨ca_0, ca_1, ca_2⟩ := xk3 ka
 obtain ⟨cb_3, cb_4, cb_5⟩ := xk3 kb
 go_wp2_with fail
 clear ca_0 ca_1 ca_2 cb_3 cb_4 cb_5
 have mk : Hid (∀ w', SB w1 w' → xc3 w' w.heap.size (.bool n0) (.string s0) (.string d0) ∧ xc3 w' (w.heap.size + 1) (.bool n1) (.string s1) (.string d1)) := fun w' h => ⟨xk3 (ka.below h), xk3 (kb.below h)⟩
 go_cut [5] from 20 to 30 (fun v wx => ∃ gc, v = .pointer (some ⟨gc, 0, none⟩) ∧ w1.heap.size ≤ gc ∧ Cel wx gc [.bool mN, .string mS] 24 ∧ Below w1.heap.size w1 wx)
 case first =>
  clear H4 H5 kr
  refine wp_region_held_drew (S := SB w1) (by kernel_rfl) (bdrew _) (fun bc => ?_)
  refine WA.start (n := 13) (by kernel_rfl) ?_
  refine WA.tl 0 rfl ?_
  refine WA.tl 1 rfl ?_
  refine WA.tl 2 rfl ?_
  refine WA.tl 5 rfl ?_
  refine WA.tl 6 rfl ?_
  refine WA.tl 7 rfl ?_
  refine WA.gen (i := 11) (s := 5) undef (Pt w1 [.bool false, .string { data := #[] }] 24) (fun b x hz => ?_)
  simp only [Act.put, List.setIfInBounds_toArray, List.set_cons_zero, List.set_cons_succ]
  revert b x
  refine WA.one 13 231 3 11 rfl rfl bc ?_
  clear bc
  intro b x w' hz bx bc K hK
  clear bx
  simp only [List.getElem_toArray, List.getElem_cons_succ, List.getElem_cons_zero]
  go_simp
  go_fit (rden_any n1 s1 d1 _)
  rintro e wn ⟨rfl, bn⟩
  replace bc := Below.after bc bn
  try go_wp2_with fail
  refine hK.out _ _ bc (fun _ => ?_)
  replace hz := fun h => (hz h).below bn
  clear hK K bn
  revert b x
  refine WA.one 13 239 4 11 rfl rfl bc ?_
  clear bc
  intro b x w' hz bx bc K hK
  clear bx
  simp only [List.getElem_toArray, List.getElem_cons_succ, List.getElem_cons_zero]
  go_simp
  go_fit (H1.out _)
  rintro e wn ⟨rfl, bn⟩
  replace bc := Below.after bc bn
  try go_wp2_with fail
  refine hK.out _ _ bc (fun _ => ?_)
  replace hz := fun h => (hz h).below bn
  clear hK K bn
  revert b x
  refine WA.one 13 255 8 11 rfl rfl bc ?_
  clear bc
  intro b x w' hz bx bc K hK
  clear bx
  simp only [List.getElem_toArray, List.getElem_cons_succ, List.getElem_cons_zero]
  go_simp
  go_fit (rden_any n0 s0 d0 _)
  rintro e wn ⟨rfl, bn⟩
  replace bc := Below.after bc bn
  try go_wp2_with fail
  refine hK.out _ _ bc (fun _ => ?_)
  replace hz := fun h => (hz h).below bn
  clear hK K bn
  revert b x
  refine WA.one 13 511 9 11 rfl rfl bc ?_
  clear bc
  intro b x w' hz bx bc K hK
  clear bx
  simp only [List.getElem_toArray, List.getElem_cons_succ, List.getElem_cons_zero]
  go_simp
  go_fit (H2.out _)
  rintro e wn ⟨rfl, bn⟩
  replace bc := Below.after bc bn
  try go_wp2_with fail
  refine hK.out _ _ bc (fun _ => ?_)
  replace hz := fun h => (hz h).below bn
  clear hK K bn
  revert b x
  refine WA.one 13 1023 10 11 rfl rfl bc ?_
  clear bc
  intro b x w' hz bx bc K hK
  clear bx
  simp only [List.getElem_toArray, List.getElem_cons_succ, List.getElem_cons_zero]
  go_simp
  go_fit (H3.out _)
  rintro e wn ⟨rfl, bn⟩
  replace bc := Below.after bc bn
  try go_wp2_with fail
  refine hK.out _ _ bc (fun _ => ?_)
  replace hz := fun h => (hz h).below bn
  clear hK K bn
  revert b x
  refine WA.fin 11 rfl bc ?_
  clear bc
  intro x w' hz bx bc
  obtain ⟨g0, rfl, h0, k0⟩ := hz
  clear bx
  have e0_0 := cel2_0' k0
  have f0_0 := Cel.frozen k0 0
  have e0_1 := cel2_1' k0
  have f0_1 := Cel.frozen k0 1
  refine WA.call 12 rfl (fun K hK => ?_)
  simp only [List.getElem_toArray, List.getElem_cons_succ, List.getElem_cons_zero]
  go_simp
  try go_wp2_with fail
  clear e0_0 f0_0 e0_1 f0_1
  refine hK.out _ _ (bset (bset bc h0 0 (.bool mN)) h0 1 (.string mS)) (fun hS => ?_)
  clear hK K
  replace k0 := (Cel.set (Cel.set k0 0 (.bool mN)) 1 (.string mS))
  replace bc := (bset (bset bc h0 0 (.bool mN)) h0 1 (.string mS))
  refine WA.done (by kernel_rfl) ?_
  go_wp2_with fail
  go_meet
  exact ⟨_, rfl, h0, k0, bc⟩
 case rest =>
 obtain ⟨gm, rfl, lm, km, b1⟩ := hcut
 clear mk
 have sz := b1.size
 replace ka := ka.below b1
 replace kb := kb.below b1
 replace kr := kr.below b1
 replace bb := Below.after bb b1
 clear b1
 have tm := km.lt
 go_wp2_with fail
 have qa : w.heap.size ≠ w.heap.size + 1 + 1 := by omega
 have qb : w.heap.size + 1 ≠ w.heap.size + 1 + 1 := by omega
 have qm : gm ≠ w.heap.size + 1 + 1 := by omega
 go_region_held3 (fun w' => xc3 w' w.heap.size (.bool n0) (.string s0) (.string d0) ∧ xc3 w' (w.heap.size + 1) (.bool n1) (.string s1) (.string d1) ∧ xc2 w' gm (.bool mN) (.string mS)) (first | exact ⟨xk3 ka, xk3 kb, xk2 km⟩ | exact ⟨xk3 (Cel.other (Cel.other (Cel.other ka qa 0 _) qa 1 _) qa 2 _), xk3 (Cel.other (Cel.other (Cel.other kb qb 0 _) qb 1 _) qb 2 _), xk2 (Cel.other (Cel.other (Cel.other km qm 0 _) qm 1 _) qm 2 _)⟩) (first | (go_at_call 87; go_fit (rden_any _ _ _ _); rintro e wn ⟨rfl, bn⟩; replace ka := ka.below (un bn); replace kb := kb.below (un bn); replace kr := kr.below (un bn); replace km := km.below (un bn); replace bb := Below.after bb (un bn)) | (go_at_call 86; go_fit (H4.out _); rintro e wn ⟨rfl, bn⟩; replace ka := ka.below (un bn); replace kb := kb.below (un bn); replace kr := kr.below (un bn); replace km := km.below (un bn); replace bb := Below.after bb (un bn)) | (go_at_call 83; go_fit (H5.out _); rintro e wn ⟨rfl, bn⟩; replace ka := ka.below (un bn); replace kb := kb.below (un bn); replace kr := kr.below (un bn); replace km := km.below (un bn); replace bb := Below.after bb (un bn); have e0 := cel3_0 kr; have f0 := Cel.frozen kr 0; have e1 := cel3_1 kr; have f1 := Cel.frozen kr 1; have e2 := cel3_2 kr; have f2 := Cel.frozen kr 2))
 go_wp2
 exact post_q (p := 4) (by kernel_rfl) rfl rfl (((kr.set 0 _).set 1 _).set 2 _) ⟨rfl, bset (bset (bset bb (by omega) 0 _) (by omega) 1 _) (by omega) 2 _⟩
end Go.Proofs.YtiiigiggcbbgjaaGreatDoor
