import Derived.Test.YtnplifkgeeicjaaGreatDoorQ31
import Derived.Test.YtnplifkgeeicjaaGreatDoorQ35
set_option maxRecDepth 100000
set_option maxHeartbeats 8000000
namespace Go.Proofs.YtnplifkgeeicjaaGreatDoor
open Go.RowKit Go.Shelf
theorem Bd9 (n0 gN : Bool) (s0 s1 gS : ByteArray) (w : World) (hg : (gS.toList == [1]) = true)
  (H1 : Hid (∀ w1, Calls Tryz.prog 110 #[.agg #[Iz n0, I s0], .agg #[Iz false, I s1]] w1 (Re w1 (.agg #[Iz gN, I gS])))) :
  Calls Tryz.prog 57 #[.agg #[Iz n0, I s0], .agg #[Iz false, I s1]] w (Re w ((Bo n0 s0 s1))) := by
 go_enter Tryz.func57, Tryz.ntmps57
 go_wp2_with fail
 go_fit (H1.out _)
 rintro e w1 ⟨rfl, b1⟩
 obtain ⟨ka, kb, kr, b1⟩ := al3 b1
 have sz := b1.size
 have bb := b1
 clear b1
 have ta := ka.lt
 have tb := kb.lt
 have tr := kr.lt
 clear ta tb tr
 obtain ⟨ca_0, ca_1⟩ := B7 (ka.alloc (.cells #[Iz gN, I gS] 24))
 obtain ⟨cb_2, cb_3⟩ := B7 (kb.alloc (.cells #[Iz gN, I gS] 24))
 have cr_4 := Ey (kr.alloc (.cells #[Iz gN, I gS] 24))
 have fr_5 := Be.o (kr.alloc (.cells #[Iz gN, I gS] 24)) 0
 have cr_6 := Ex (kr.alloc (.cells #[Iz gN, I gS] 24))
 have fr_7 := Be.o (kr.alloc (.cells #[Iz gN, I gS] 24)) 1
 have cr_8 := Dk (kr.alloc (.cells #[Iz gN, I gS] 24))
 have fr_9 := Be.o (kr.alloc (.cells #[Iz gN, I gS] 24)) 2
 go_wp2
 have kr' := kr.alloc (.cells #[Iz gN, I gS] 24)
 exact Cu (p := 4) (by kernel_rfl) rfl rfl (((kr'.set 0 _).set 1 _).set 2 _) ⟨rfl, Bi (Bi (Bi (ba bb _) (by omega) 0 _) (by omega) 1 _) (by omega) 2 _⟩
open Go.RowKit Go.Shelf
theorem Xz (s0 d0 : ByteArray) (w : World)
 :
   Calls Tryz.prog 71 #[(Bo true s0 d0)] w (Re w (.int .i64 (-1))) := by
  go_enter Tryz.func71, Tryz.ntmps71
  go_wp2
  go_ret
  exact ⟨rfl, Ct _ _⟩
theorem T6 (d0 : ByteArray) (w : World)
 :
   Calls Tryz.prog 71 #[(Bo false ByteArray.empty d0)] w (Re w (.int .i64 (0))) := by
  go_enter Tryz.func71, Tryz.ntmps71
  go_wp2
  go_ret
  exact ⟨rfl, Ct _ _⟩
theorem Xy (s0 d0 : ByteArray) (h : s0.toList.isEmpty = false) (w : World)
 :
   Calls Tryz.prog 71 #[(Bo false s0 d0)] w (Re w (.int .i64 (1))) := by
  go_enter Tryz.func71, Tryz.ntmps71
  go_wp2
  go_ret
  exact ⟨rfl, Ct _ _⟩
theorem Qi {d : ByteArray} (h : (d.toList == [1]) = true) : Bc d = 1 := by
 have e : d = ⟨#[1]⟩ := by
  have h2 : d.toList = [1] := by simpa using h
  by_cases hd : d = ⟨#[1]⟩
  ·exact hd
  ·have := Ss hd
   rw [h] at this
   cases this
 rw [e]; exact Dr
open Go.RowKit Go.Shelf
theorem Xv (n0 n1 xN : Bool) (s0 s1 xS d0 d1 : ByteArray) (h0 : (d0.toList == [1]) = true) (h : (d1.toList == [1]) = true) (w : World)
  (H1 : Hid (∀ w1, Calls Tryz.prog 81 #[.agg #[Iz n0, I s0], .agg #[Iz n1, I s1]] w1 (Re w1 (.agg #[Iz xN, I xS])))) :
  Calls Tryz.prog 41 #[(Bo n0 s0 d0), (Bo n1 s1 d1)] w (Re w ((Bo xN xS ⟨#[1]⟩))) := by
 go_enter Tryz.func41, Tryz.ntmps41
 go_wp2_with fail
 obtain ⟨w1, hw, ka, kb, kr, b1⟩ := K9 w (Bx n0 s0 d0) (Bx n1 s1 d1) (Bx false eB eB) 26 26 26
 rw [← hw]
 clear hw
 have sz := b1.size
 have ta := ka.lt
 have tb := kb.lt
 have tr := kr.lt
 have bb := b1
 clear b1
 obtain ⟨ca_0, ca_1, ca_2⟩ := Ch ka
 obtain ⟨cb_3, cb_4, cb_5⟩ := Ch kb
 go_wp2_with fail
 clear ca_0 ca_1 ca_2 cb_3 cb_4 cb_5
 go_fit (H1.out _)
 rintro e w2 ⟨rfl, b1⟩
 have sz := b1.size
 replace ka := ka.b b1
 replace kb := kb.b b1
 replace kr := kr.b b1
 replace bb := Ia bb b1
 clear b1
 have cr_0 := Ey kr
 have fr_1 := Be.o kr 0
 have cr_2 := Ex kr
 have fr_3 := Be.o kr 1
 have cr_4 := Dk kr
 have fr_5 := Be.o kr 2
 go_wp2
 exact Cu (p := 4) (by kernel_rfl) rfl rfl (((kr.set 0 _).set 1 _).set 2 _) ⟨rfl, Bi (Bi (Bi bb (by omega) 0 _) (by omega) 1 _) (by omega) 2 _⟩
theorem T7 (n0 xN : Bool) (s0 d0 xS : ByteArray) (w : World)
  (H1 : Hid (∀ w1, Calls Tryz.prog 111 #[.agg #[Iz n0, I s0]] w1 (Re w1 (.agg #[Iz xN, I xS])))) :
  Calls Tryz.prog 140 #[(Bo n0 s0 d0)] w (Re w ((Bo xN xS d0))) := by
 go_enter Tryz.func140, Tryz.ntmps140
 go_wp2_with fail
 obtain ⟨w1, hw, ka, kr, b1⟩ := Gx w (Bx n0 s0 d0) (Bx false eB eB) 26 26
 rw [← hw]
 clear hw
 have sz := b1.size
 have ta := ka.lt
 have tr := kr.lt
 have bb := b1
 clear b1
 have qa : w.heap.size ≠ w.heap.size + 1 := by omega
 go_region_held3 (fun w' => Gy w' w.heap.size (Iz n0) (I s0) (I d0)) (first | exact (Ch ka) | exact (Ch (Be.w (Be.w (Be.w ka qa 0 _) qa 1 _) qa 2 _))) (first | (go_at_call 111; go_fit (H1.out _); rintro e wn ⟨rfl, bn⟩; replace ka := ka.b (un bn); replace kr := kr.b (un bn); replace bb := Ia bb (un bn); have e0 := Ey kr; have f0 := Be.o kr 0; have e1 := Ex kr; have f1 := Be.o kr 1; have e2 := Dk kr; have f2 := Be.o kr 2) | fail)
 go_wp2
 exact Cu (p := 2) (by kernel_rfl) rfl rfl (((kr.set 0 _).set 1 _).set 2 _) ⟨rfl, Bi (Bi (Bi bb (by omega) 0 _) (by omega) 1 _) (by omega) 2 _⟩
theorem Uc (n0 n1 xN rN : Bool) (s0 d0 s1 d1 xS xD rS rD : ByteArray) (w : World)
  (H1 : Hid (∀ w1, Calls Tryz.prog 140 #[(Bo n1 s1 d1)] w1 (Re w1 ((Bo xN xS xD)))))
  (H2 : Hid (∀ w1, Calls Tryz.prog 41 #[(Bo n0 s0 d0), (Bo xN xS xD)] w1 (Re w1 ((Bo rN rS rD))))) :
  Calls Tryz.prog 80 #[(Bo n0 s0 d0), (Bo n1 s1 d1)] w (Re w ((Bo rN rS rD))) := by
 go_enter Tryz.func80, Tryz.ntmps80
 go_wp2_with fail
 obtain ⟨w1, hw, ka, kb, kr, b1⟩ := K9 w (Bx n0 s0 d0) (Bx n1 s1 d1) (Bx false eB eB) 26 26 26
 rw [← hw]
 clear hw
 have sz := b1.size
 have ta := ka.lt
 have tb := kb.lt
 have tr := kr.lt
 have bb := b1
 clear b1
 have qa : w.heap.size ≠ w.heap.size + 1 + 1 := by omega
 have qb : w.heap.size + 1 ≠ w.heap.size + 1 + 1 := by omega
 go_region_held3 (fun w' => Gy w' w.heap.size (Iz n0) (I s0) (I d0) ∧ Gy w' (w.heap.size + 1) (Iz n1) (I s1) (I d1)) (first | exact ⟨Ch ka, Ch kb⟩ | exact ⟨Ch (Be.w (Be.w (Be.w ka qa 0 _) qa 1 _) qa 2 _), Ch (Be.w (Be.w (Be.w kb qb 0 _) qb 1 _) qb 2 _)⟩) (first | (go_at_call 140; go_fit (H1.out _); rintro e wn ⟨rfl, bn⟩; replace ka := ka.b (un bn); replace kb := kb.b (un bn); replace kr := kr.b (un bn); replace bb := Ia bb (un bn)) | (go_at_call 41; go_fit (H2.out _); rintro e wn ⟨rfl, bn⟩; replace ka := ka.b (un bn); replace kb := kb.b (un bn); replace kr := kr.b (un bn); replace bb := Ia bb (un bn); have e0 := Ey kr; have f0 := Be.o kr 0; have e1 := Ex kr; have f1 := Be.o kr 1; have e2 := Dk kr; have f2 := Be.o kr 2))
 go_wp2
 exact Cu (p := 4) (by kernel_rfl) rfl rfl (((kr.set 0 _).set 1 _).set 2 _) ⟨rfl, Bi (Bi (Bi bb (by omega) 0 _) (by omega) 1 _) (by omega) 2 _⟩
open Go.RowKit Go.Shelf
theorem Wd {s g : ByteArray} (hs : s.size ≤ 20000) (hg : g.size ≤ 20000) (hG : 0 < Bc g) (v0 v1 : Value) (w : World) (r0 : Rd w v0 (M.digs Bm (Bc s))) (r1 : Rd w v1 (M.digs Bm (Bc g))) :
  Calls Tryz.prog 112 #[v0, v1] w fun e w' => ∃ q r, e = .returned (.tuple #[q, r]) ∧ Rd w' q (M.digs Bm (Bc s / Bc g)) ∧ Rd w' r (M.digs Bm (Bc s % Bc g)) ∧ Below w.heap.size w w' :=
 Bay (X := Bc s) (Y := Bc g) (K := 5000) (by omega) (Cj 5000 (by omega)) (Cj 5000 (by omega)) hG v0 v1 w r0 r1
theorem Bd3 {s : ByteArray} {g : Nat} (hs : s.size ≤ 20000) (v : Value) (w : World) (r : Rd w v (M.digs Bm (Bc s / g))) :
  Calls Tryz.prog 114 #[v] w (Re w (I (Bf (Bc s / g)))) := by
 have h : Bc s / g < Bm ^ 5000 := Nat.lt_of_le_of_lt (Nat.div_le_self _ _) (Cj 5000 (by omega))
 have := Sa v _ w r (M.Low.digs Bj _) (Jf (O4 h) (by omega))
 rwa [M.val_digs Bj] at this
theorem Bea (n0 gN : Bool) (s0 s1 gS : ByteArray) (w : World) (hg : (gS.toList == [1]) = false) (z0 : s0.size ≤ 20000) (z1 : s1.size ≤ 20000) (zg : gS.size ≤ 20000) (hG : 0 < Bc gS)
  (H1 : Hid (∀ w1, Calls Tryz.prog 110 #[.agg #[Iz n0, I s0], .agg #[Iz false, I s1]] w1 (Re w1 (.agg #[Iz gN, I gS])))) :
  Calls Tryz.prog 57 #[.agg #[Iz n0, I s0], .agg #[Iz false, I s1]] w (Re w ((Bo n0 (Bf (Bc s0 / Bc gS)) (Bf (Bc s1 / Bc gS))))) := by
 have HD0 := Ba (fun v0 v1 w r0 r1 => Wd (s := s0) (g := gS) z0 zg hG v0 v1 w r0 r1)
 have HD1 := Ba (fun v0 v1 w r0 r1 => Wd (s := s1) (g := gS) z1 zg hG v0 v1 w r0 r1)
 have HN0 := Ba (fun v w r => Bd3 (s := s0) (g := Bc gS) z0 v w r)
 have HN1 := Ba (fun v w r => Bd3 (s := s1) (g := Bc gS) z1 v w r)
 clear hG
 generalize Bf (Bc s0 / Bc gS) = S at *
 generalize Bf (Bc s1 / Bc gS) = D at *
 go_enter Tryz.func57, Tryz.ntmps57
 go_wp2_with fail
 go_fit (H1.out _)
 rintro e w1 ⟨rfl, b1⟩
 obtain ⟨ka, kb, kr, bb⟩ := al3 b1
 clear b1
 obtain ⟨c0, c1⟩ := B7 (ka.alloc (.cells #[Iz gN, I gS] 24))
 obtain ⟨c2, c3⟩ := B7 (kb.alloc (.cells #[Iz gN, I gS] 24))
 go_wp2_with fail
 clear c0 c1 c2 c3
 obtain ⟨w2, hw, kg, b1⟩ := D7 w1 [Iz gN, I gS] 24
 rw [← hw]
 clear hw
 replace ka := ka.b b1
 replace kb := kb.b b1
 replace kr := kr.b b1
 replace bb := Ia bb b1
 clear b1
 go_region_held3 (fun w' => Fb w' w.heap.size (Iz n0) (I s0) ∧ Fb w' w1.heap.size (Iz gN) (I gS)) (exact ⟨B7 ka, B7 kg⟩) (first | (go_at_call 112; refine (HD0.out _ _ _ rx ry).mono ?_; rintro e wn ⟨vq, vr, rfl, rq, rr, bn⟩; obtain ⟨aq, cq, rfl, -, -⟩ := id rq; obtain ⟨ar, cr, rfl, -, -⟩ := id rr; replace ka := ka.b bn; replace kb := kb.b bn; replace kr := kr.b bn; replace kg := kg.b bn; replace bb := Ia bb bn; clear bn) | (go_at_call 113; go_fit (Dc s0 _ (by omega)); rintro e wn ⟨vx, rfl, rx, bn⟩; obtain ⟨ax, cx, rfl, -, -⟩ := id rx; replace ka := ka.b (un bn); replace kb := kb.b (un bn); replace kr := kr.b (un bn); replace kg := kg.b (un bn); replace bb := Ia bb (un bn); clear bn) | (go_at_call 113; go_fit (Dc gS _ (by omega)); rintro e wn ⟨vy, rfl, ry, bn⟩; obtain ⟨ay, cy, rfl, -, -⟩ := id ry; replace rx := rx.b bn; replace ka := ka.b bn; replace kb := kb.b bn; replace kr := kr.b bn; replace kg := kg.b bn; replace bb := Ia bb bn; clear bn))
 go_wp2_with fail
 clear rx ry rr
 go_region_held3 (fun w' => Fb w' (w.heap.size + 1) (Iz false) (I s1) ∧ Fb w' w1.heap.size (Iz gN) (I gS)) (exact ⟨B7 kb, B7 kg⟩) (first | (go_at_call 112; refine (HD1.out _ _ _ rx ry).mono ?_; rintro e wn ⟨vp, vr, rfl, rp, rr, bn⟩; obtain ⟨ap, cp, rfl, -, -⟩ := id rp; obtain ⟨ar, cr, rfl, -, -⟩ := id rr; replace rq := rq.b bn; replace ka := ka.b bn; replace kb := kb.b bn; replace kr := kr.b bn; replace kg := kg.b bn; replace bb := Ia bb bn; clear bn) | (go_at_call 113; go_fit (Dc s1 _ (by omega)); rintro e wn ⟨vx, rfl, rx, bn⟩; obtain ⟨ax, cx, rfl, -, -⟩ := id rx; replace rq := rq.b (un bn); replace ka := ka.b (un bn); replace kb := kb.b (un bn); replace kr := kr.b (un bn); replace kg := kg.b (un bn); replace bb := Ia bb (un bn); clear bn) | (go_at_call 113; go_fit (Dc gS _ (by omega)); rintro e wn ⟨vy, rfl, ry, bn⟩; obtain ⟨ay, cy, rfl, -, -⟩ := id ry; replace rx := rx.b bn; replace rq := rq.b bn; replace ka := ka.b bn; replace kb := kb.b bn; replace kr := kr.b bn; replace kg := kg.b bn; replace bb := Ia bb bn; clear bn))
 go_wp2_with fail
 clear rx ry rr
 have qa : w.heap.size ≠ w.heap.size + 1 + 1 := by omega
 go_region_held3 (fun w' => Fb w' w.heap.size (Iz n0) (I s0)) (first | exact (B7 ka) | exact (B7 (Be.w (Be.w (Be.w ka qa 0 _) qa 1 _) qa 2 _))) (first | (go_at_call 114; go_fit (HN0.out _ _ ?_); (first | exact rq | exact rq.drew); rintro e wn ⟨rfl, bn⟩; replace rp := rp.b (un bn); replace ka := ka.b (un bn); replace kb := kb.b (un bn); replace kr := kr.b (un bn); replace kg := kg.b (un bn); replace bb := Ia bb (un bn); clear bn) | (go_at_call 114; go_fit (HN1.out _ _ ?_); exact rp; rintro e wn ⟨rfl, bn⟩; replace ka := ka.b bn; replace kb := kb.b bn; replace kr := kr.b bn; replace kg := kg.b bn; replace bb := Ia bb bn; clear bn; have e0 := Ey kr; have e1 := Ex kr; have e2 := Dk kr; have f0 := kr.o 0; have f1 := kr.o 1; have f2 := kr.o 2))
 go_wp2
 exact Cu (p := 4) (by kernel_rfl) rfl rfl (((kr.set 0 _).set 1 _).set 2 _) ⟨rfl, Bi (Bi (Bi bb (by omega) 0 _) (by omega) 1 _) (by omega) 2 _⟩
open Go.RowKit Go.Shelf
theorem Bbm (n0 m0 gN : Bool) (s0 s1 gS : ByteArray) (w : World) (hg : (gS.toList == [1]) = false) (z0 : s0.size ≤ 20000) (z1 : s1.size ≤ 20000) (zg : gS.size ≤ 20000) (hG : 0 < Bc gS)
  (H1 : Hid (∀ w1, Calls Tryz.prog 110 #[.agg #[Iz n0, I s0], .agg #[Iz true, I s1]] w1 (Re w1 (.agg #[Iz gN, I gS]))))
  (H2 : Hid (∀ w1, Calls Tryz.prog 111 #[.agg #[Iz n0, I s0]] w1 (Re w1 (.agg #[Iz m0, I s0]))))
  (H3 : Hid (∀ w1, Calls Tryz.prog 111 #[.agg #[Iz true, I s1]] w1 (Re w1 (.agg #[Iz false, I s1])))) :
  Calls Tryz.prog 57 #[.agg #[Iz n0, I s0], .agg #[Iz true, I s1]] w (Re w ((Bo m0 (Bf (Bc s0 / Bc gS)) (Bf (Bc s1 / Bc gS))))) := by
 have HD0 := Ba (fun v0 v1 w r0 r1 => Wd (s := s0) (g := gS) z0 zg hG v0 v1 w r0 r1)
 have HD1 := Ba (fun v0 v1 w r0 r1 => Wd (s := s1) (g := gS) z1 zg hG v0 v1 w r0 r1)
 have HN0 := Ba (fun v w r => Bd3 (s := s0) (g := Bc gS) z0 v w r)
 have HN1 := Ba (fun v w r => Bd3 (s := s1) (g := Bc gS) z1 v w r)
 clear hG
 generalize Bf (Bc s0 / Bc gS) = S at *
 generalize Bf (Bc s1 / Bc gS) = D at *
 go_enter Tryz.func57, Tryz.ntmps57
 go_wp2_with fail
 go_fit (H1.out _)
 rintro e w1 ⟨rfl, b1⟩
 obtain ⟨ka, kb, kr, bb⟩ := al3 b1
 clear b1
 obtain ⟨c2, c3⟩ := B7 (kb.alloc (.cells #[Iz gN, I gS] 24))
 obtain ⟨c0, c1⟩ := B7 (ka.alloc (.cells #[Iz gN, I gS] 24))
 go_wp2_with fail
 clear c0 c1 c2 c3
 have t0 := kr.lt
 go_fit (H2.out _)
 rintro e w2 ⟨rfl, b1⟩
 obtain ⟨kg, b1⟩ := Tf b1
 replace ka := ka.b b1
 replace kb := kb.b b1
 replace kr := kr.b b1
 replace bb := Ia bb b1
 clear b1
 obtain ⟨w3, hw⟩ : ∃ x, x = (w2.setCell ⟨w.heap.size, 0, none⟩ (Iz m0)).setCell ⟨w.heap.size, 1, none⟩ (I s0) := ⟨_, rfl⟩
 have kb1 := Be.w (g' := w.heap.size) (Be.w (g' := w.heap.size) kb (by omega) 0 (Iz m0)) (by omega) 1 (I s0)
 have kr1 := Be.w (g' := w.heap.size) (Be.w (g' := w.heap.size) kr (by omega) 0 (Iz m0)) (by omega) 1 (I s0)
 have kg1 := Be.w (g' := w.heap.size) (Be.w (g' := w.heap.size) kg (by omega) 0 (Iz m0)) (by omega) 1 (I s0)
 have ka1 := (ka.set 0 (Iz m0)).set 1 (I s0)
 have bb1 := Bi (g := w.heap.size) (Bi (g := w.heap.size) bb (by omega) 0 (Iz m0)) (by omega) 1 (I s0)
 obtain ⟨c0, c1⟩ := B7 ka
 have f0 := ka.o 0
 have f1 := ka.o 1
 obtain ⟨c2, c3⟩ := B7 kb1
 have tt := t0
 clear t0
 go_wp2_with fail
 rw [← hw]
 rw [← hw] at ka1 kb1 kr1 kg1 bb1
 clear hw c0 c1 f0 f1 c2 c3 ka kb kr kg bb
 go_fit (H3.out _)
 rintro e w4 ⟨rfl, b1⟩
 have ka := ka1.b b1
 have kb := kb1.b b1
 have kr := kr1.b b1
 have kg := kg1.b b1
 have bb := Ia bb1 b1
 clear b1 ka1 kb1 kr1 kg1 bb1
 obtain ⟨w5, hw⟩ : ∃ x, x = (w4.setCell ⟨w.heap.size + 1, 0, none⟩ (Iz false)).setCell ⟨w.heap.size + 1, 1, none⟩ (I s1) := ⟨_, rfl⟩
 have ka1 := Be.w (g' := w.heap.size + 1) (Be.w (g' := w.heap.size + 1) ka (by omega) 0 (Iz false)) (by omega) 1 (I s1)
 have kr1 := Be.w (g' := w.heap.size + 1) (Be.w (g' := w.heap.size + 1) kr (by omega) 0 (Iz false)) (by omega) 1 (I s1)
 have kg1 := Be.w (g' := w.heap.size + 1) (Be.w (g' := w.heap.size + 1) kg (by omega) 0 (Iz false)) (by omega) 1 (I s1)
 have kb1 := (kb.set 0 (Iz false)).set 1 (I s1)
 have bb1 := Bi (g := w.heap.size + 1) (Bi (g := w.heap.size + 1) bb (by omega) 0 (Iz false)) (by omega) 1 (I s1)
 obtain ⟨c0, c1⟩ := B7 kb
 have f0 := kb.o 0
 have f1 := kb.o 1
 obtain ⟨c2, c3⟩ := B7 kg1
 go_wp2_with fail
 rw [← hw]
 rw [← hw] at ka1 kb1 kr1 kg1 bb1
 clear hw c0 c1 f0 f1 c2 c3 ka kb kr kg bb
 have ka := ka1
 have kb := kb1
 have kr := kr1
 have kg := kg1
 have bb := bb1
 clear ka1 kb1 kr1 kg1 bb1
 go_region_held3 (fun w' => Fb w' w.heap.size (Iz m0) (I s0) ∧ Fb w' w1.heap.size (Iz gN) (I gS)) (exact ⟨B7 ka, B7 kg⟩) (first | (go_at_call 112; refine (HD0.out _ _ _ rx ry).mono ?_; rintro e wn ⟨vq, vr, rfl, rq, rr, bn⟩; obtain ⟨aq, cq, rfl, -, -⟩ := id rq; obtain ⟨ar, cr, rfl, -, -⟩ := id rr; replace ka := ka.b bn; replace kb := kb.b bn; replace kr := kr.b bn; replace kg := kg.b bn; replace bb := Ia bb bn; clear bn) | (go_at_call 113; go_fit (Dc s0 _ (by omega)); rintro e wn ⟨vx, rfl, rx, bn⟩; obtain ⟨ax, cx, rfl, -, -⟩ := id rx; replace ka := ka.b (un bn); replace kb := kb.b (un bn); replace kr := kr.b (un bn); replace kg := kg.b (un bn); replace bb := Ia bb (un bn); clear bn) | (go_at_call 113; go_fit (Dc gS _ (by omega)); rintro e wn ⟨vy, rfl, ry, bn⟩; obtain ⟨ay, cy, rfl, -, -⟩ := id ry; replace rx := rx.b bn; replace ka := ka.b bn; replace kb := kb.b bn; replace kr := kr.b bn; replace kg := kg.b bn; replace bb := Ia bb bn; clear bn))
 go_wp2_with fail
 clear rx ry rr
 go_region_held3 (fun w' => Fb w' (w.heap.size + 1) (Iz false) (I s1) ∧ Fb w' w1.heap.size (Iz gN) (I gS)) (exact ⟨B7 kb, B7 kg⟩) (first | (go_at_call 112; refine (HD1.out _ _ _ rx ry).mono ?_; rintro e wn ⟨vp, vr, rfl, rp, rr, bn⟩; obtain ⟨ap, cp, rfl, -, -⟩ := id rp; obtain ⟨ar, cr, rfl, -, -⟩ := id rr; replace rq := rq.b bn; replace ka := ka.b bn; replace kb := kb.b bn; replace kr := kr.b bn; replace kg := kg.b bn; replace bb := Ia bb bn; clear bn) | (go_at_call 113; go_fit (Dc s1 _ (by omega)); rintro e wn ⟨vx, rfl, rx, bn⟩; obtain ⟨ax, cx, rfl, -, -⟩ := id rx; replace rq := rq.b (un bn); replace ka := ka.b (un bn); replace kb := kb.b (un bn); replace kr := kr.b (un bn); replace kg := kg.b (un bn); replace bb := Ia bb (un bn); clear bn) | (go_at_call 113; go_fit (Dc gS _ (by omega)); rintro e wn ⟨vy, rfl, ry, bn⟩; obtain ⟨ay, cy, rfl, -, -⟩ := id ry; replace rx := rx.b bn; replace rq := rq.b bn; replace ka := ka.b bn; replace kb := kb.b bn; replace kr := kr.b bn; replace kg := kg.b bn; replace bb := Ia bb bn; clear bn))
 go_wp2_with fail
 clear rx ry rr
 have qa : w.heap.size ≠ w.heap.size + 1 + 1 := by omega
 go_region_held3 (fun w' => Fb w' w.heap.size (Iz m0) (I s0)) (first | exact (B7 ka) | exact (B7 (Be.w (Be.w (Be.w ka qa 0 _) qa 1 _) qa 2 _))) (first | (go_at_call 114; go_fit (HN0.out _ _ ?_); (first | exact rq | exact rq.drew); rintro e wn ⟨rfl, bn⟩; replace rp := rp.b (un bn); replace ka := ka.b (un bn); replace kb := kb.b (un bn); replace kr := kr.b (un bn); replace kg := kg.b (un bn); replace bb := Ia bb (un bn); clear bn) | (go_at_call 114; go_fit (HN1.out _ _ ?_); exact rp; rintro e wn ⟨rfl, bn⟩; replace ka := ka.b bn; replace kb := kb.b bn; replace kr := kr.b bn; replace kg := kg.b bn; replace bb := Ia bb bn; clear bn; have e0 := Ey kr; have e1 := Ex kr; have e2 := Dk kr; have f0 := kr.o 0; have f1 := kr.o 1; have f2 := kr.o 2))
 go_wp2
 exact Cu (p := 4) (by kernel_rfl) rfl rfl (((kr.set 0 _).set 1 _).set 2 _) ⟨rfl, Bi (Bi (Bi bb (by omega) 0 _) (by omega) 1 _) (by omega) 2 _⟩
theorem Bbl (n0 m0 gN : Bool) (s0 s1 gS : ByteArray) (w : World) (hg : (gS.toList == [1]) = true)
  (H1 : Hid (∀ w1, Calls Tryz.prog 110 #[.agg #[Iz n0, I s0], .agg #[Iz true, I s1]] w1 (Re w1 (.agg #[Iz gN, I gS]))))
  (H2 : Hid (∀ w1, Calls Tryz.prog 111 #[.agg #[Iz n0, I s0]] w1 (Re w1 (.agg #[Iz m0, I s0]))))
  (H3 : Hid (∀ w1, Calls Tryz.prog 111 #[.agg #[Iz true, I s1]] w1 (Re w1 (.agg #[Iz false, I s1])))) :
  Calls Tryz.prog 57 #[.agg #[Iz n0, I s0], .agg #[Iz true, I s1]] w (Re w ((Bo m0 s0 s1))) := by
 go_enter Tryz.func57, Tryz.ntmps57
 go_wp2_with fail
 go_fit (H1.out _)
 rintro e w1 ⟨rfl, b1⟩
 obtain ⟨ka, kb, kr, bb⟩ := al3 b1
 clear b1
 obtain ⟨c2, c3⟩ := B7 (kb.alloc (.cells #[Iz gN, I gS] 24))
 obtain ⟨c0, c1⟩ := B7 (ka.alloc (.cells #[Iz gN, I gS] 24))
 go_wp2_with fail
 clear c0 c1 c2 c3
 have t0 := kr.lt
 go_fit (H2.out _)
 rintro e w2 ⟨rfl, b1⟩
 obtain ⟨kg, b1⟩ := Tf b1
 replace ka := ka.b b1
 replace kb := kb.b b1
 replace kr := kr.b b1
 replace bb := Ia bb b1
 clear b1
 obtain ⟨w3, hw⟩ : ∃ x, x = (w2.setCell ⟨w.heap.size, 0, none⟩ (Iz m0)).setCell ⟨w.heap.size, 1, none⟩ (I s0) := ⟨_, rfl⟩
 have kb1 := Be.w (g' := w.heap.size) (Be.w (g' := w.heap.size) kb (by omega) 0 (Iz m0)) (by omega) 1 (I s0)
 have kr1 := Be.w (g' := w.heap.size) (Be.w (g' := w.heap.size) kr (by omega) 0 (Iz m0)) (by omega) 1 (I s0)
 have kg1 := Be.w (g' := w.heap.size) (Be.w (g' := w.heap.size) kg (by omega) 0 (Iz m0)) (by omega) 1 (I s0)
 have ka1 := (ka.set 0 (Iz m0)).set 1 (I s0)
 have bb1 := Bi (g := w.heap.size) (Bi (g := w.heap.size) bb (by omega) 0 (Iz m0)) (by omega) 1 (I s0)
 obtain ⟨c0, c1⟩ := B7 ka
 have f0 := ka.o 0
 have f1 := ka.o 1
 obtain ⟨c2, c3⟩ := B7 kb1
 have tt := t0
 clear t0
 go_wp2_with fail
 rw [← hw]
 rw [← hw] at ka1 kb1 kr1 kg1 bb1
 clear hw c0 c1 f0 f1 c2 c3 ka kb kr kg bb
 go_fit (H3.out _)
 rintro e w4 ⟨rfl, b1⟩
 have ka := ka1.b b1
 have kb := kb1.b b1
 have kr := kr1.b b1
 have kg := kg1.b b1
 have bb := Ia bb1 b1
 clear b1 ka1 kb1 kr1 kg1 bb1
 obtain ⟨w5, hw⟩ : ∃ x, x = (w4.setCell ⟨w.heap.size + 1, 0, none⟩ (Iz false)).setCell ⟨w.heap.size + 1, 1, none⟩ (I s1) := ⟨_, rfl⟩
 have ka1 := Be.w (g' := w.heap.size + 1) (Be.w (g' := w.heap.size + 1) ka (by omega) 0 (Iz false)) (by omega) 1 (I s1)
 have kr1 := Be.w (g' := w.heap.size + 1) (Be.w (g' := w.heap.size + 1) kr (by omega) 0 (Iz false)) (by omega) 1 (I s1)
 have kg1 := Be.w (g' := w.heap.size + 1) (Be.w (g' := w.heap.size + 1) kg (by omega) 0 (Iz false)) (by omega) 1 (I s1)
 have kb1 := (kb.set 0 (Iz false)).set 1 (I s1)
 have bb1 := Bi (g := w.heap.size + 1) (Bi (g := w.heap.size + 1) bb (by omega) 0 (Iz false)) (by omega) 1 (I s1)
 obtain ⟨c0, c1⟩ := B7 kb
 have f0 := kb.o 0
 have f1 := kb.o 1
 obtain ⟨c2, c3⟩ := B7 kg1
 obtain ⟨e0, e1⟩ := B7 ka1
 obtain ⟨e2, e3⟩ := B7 kb1
 obtain ⟨r0, r1, r2⟩ := Ch kr1
 have g0 := kr1.o 0
 have g1 := kr1.o 1
 have g2 := kr1.o 2
 go_wp2
 exact Cu (p := 4) (by kernel_rfl) rfl rfl (((kr1.set 0 _).set 1 _).set 2 _) ⟨rfl, Bi (Bi (Bi bb1 (by omega) 0 _) (by omega) 1 _) (by omega) 2 _⟩
theorem Pd (n : Bool) (s : ByteArray) (w : World) (hs : s.toList.isEmpty = false) :
  Calls Tryz.prog 111 #[.agg #[Iz n, I s]] w (Re w (.agg #[Iz (!n), I s])) := by
 cases n
 ·go_enter Tryz.func111, Tryz.ntmps111
  go_wp2
  obtain ⟨w0, hw, k0, k1, b⟩ := Gx w [Iz false, I s] [Iz true, I s] 24 24
  rw [← hw]
  exact Dg (p := 2) (by kernel_rfl) rfl rfl k1 ⟨rfl, b⟩
 ·go_enter Tryz.func111, Tryz.ntmps111
  go_wp2
  obtain ⟨w0, hw, k0, k1, b⟩ := Gx w [Iz true, I s] [Iz false, I s] 24 24
  rw [← hw]
  exact Dg (p := 2) (by kernel_rfl) rfl rfl k1 ⟨rfl, b⟩
theorem X0 (w : World) :
  Calls Tryz.prog 111 #[.agg #[Iz false, I ByteArray.empty]] w (Re w (.agg #[Iz false, I ByteArray.empty])) := by
 go_enter Tryz.func111, Tryz.ntmps111
 go_wp2
 obtain ⟨w0, hw, k0, k1, b⟩ := Gx w [Iz false, I ByteArray.empty] [Iz false, I ByteArray.empty] 24 24
 rw [← hw]
 exact Dg (p := 2) (by kernel_rfl) rfl rfl k1 ⟨rfl, b⟩
theorem Wc (n : Bool) (s : ByteArray) (o : Kj n s) : ∃ m, Cq m s = -Cq n s ∧ Kj m s ∧ ∀ w, Calls Tryz.prog 111 #[.agg #[Iz n, I s]] w (Re w (.agg #[Iz m, I s])) := by
 by_cases hs : 0 < s.size
 ·exact ⟨!n, by cases n <;> simp [Cq], ⟨o.1, fun _ => hs⟩, fun w => Pd n s w (by simpa using Dp hs)⟩
 ·have g3 : s = ByteArray.empty := ByteArray.size_eq_zero_iff.1 (by omega)
  subst g3
  have hn : n = false := by
   cases n with
   | false => rfl
   | true => exact absurd (o.2 rfl) hs
  subst hn
  exact ⟨false, rfl, o, fun w => X0 w⟩
theorem Vv {n : Bool} {s : ByteArray} {G : Nat} (o : Kj n s) (hG : 0 < G) (hd : G ∣ Bc s) : zI (Cq n s / (G : Int)) = .agg #[Iz n, I (Bf (Bc s / G))] := by
 obtain ⟨k, hk⟩ := hd
 have hne : (G : Int) ≠ 0 := by omega
 have e : Cq n s / (G : Int) = if n then -(k : Int) else (k : Int) := by
  cases n with
  | false => rw [show Cq false s = (G : Int) * k by simp [Cq, hk], Int.mul_ediv_cancel_left _ hne]; rfl
  | true => rw [show Cq true s = (G : Int) * (-(k : Int)) by simp [Cq, hk, Int.mul_neg], Int.mul_ediv_cancel_left _ hne]; rfl
 rw [e, hk, Nat.mul_div_cancel_left k hG]
 cases n with
 | false => show zV (decide (((k : Nat) : Int) < 0)) (Bf ((k : Nat) : Int).natAbs) = _; rw [show decide (((k : Nat) : Int) < 0) = false by simp]; rfl
 | true =>
  have hp := Ft o.1 (o.2 rfl)
  have hkp : 0 < k := Nat.pos_of_ne_zero fun e => by rw [e, Nat.mul_zero] at hk; omega
  show zV (decide (-((k : Nat) : Int) < 0)) (Bf (-((k : Nat) : Int)).natAbs) = _
  rw [show decide (-((k : Nat) : Int) < 0) = true by simp; omega, show (-((k : Nat) : Int)).natAbs = k by omega]
  rfl
theorem M7 (n0 n1 : Bool) (s0 s1 : ByteArray) (w : World) (o0 : Kj n0 s0) (o1 : Kj n1 s1) (z0 : s0.size ≤ 20000) (z1 : s1.size ≤ 20000) (hp : 0 < Bc s1) :
  Calls Tryz.prog 57 #[.agg #[Iz n0, I s0], .agg #[Iz n1, I s1]] w (Re w (qI (Rat.divInt (Cq n0 s0) (Cq n1 s1)))) := by
 obtain ⟨G, hG⟩ : ∃ G, G = Nat.gcd (Bc s0) (Bc s1) := ⟨_, rfl⟩
 have hGp : 0 < G := by rw [hG]; exact Nat.gcd_pos_of_pos_right _ hp
 have d0 : G ∣ Bc s0 := by rw [hG]; exact Nat.gcd_dvd_left _ _
 have hd : Cq n1 s1 ≠ 0 := fun e => by have := D9 n1 s1; rw [e] at this; simp at this; omega
 have key := Q.make_low (Cq n0 s0) (Cq n1 s1) hd G (by rw [D9, D9]; exact hG)
 rw [D9] at key
 have H1 : Hid (∀ w1, Calls Tryz.prog 110 #[.agg #[Iz n0, I s0], .agg #[Iz n1, I s1]] w1 (Re w1 (.agg #[Iz false, I (Bf G)]))) := by
  intro w1
  have := Ml n0 n1 s0 s1 w1 (by omega) (by omega)
  rw [← hG] at this
  have e : zI ((G : Nat) : Int) = .agg #[Iz false, I (Bf G)] := by
   show zV _ _ = _
   rw [Int.natAbs_natCast, show decide (((G : Nat) : Int) < 0) = false by simp]
   rfl
  rwa [e] at this
 have zG : (Bf G).size ≤ 20000 := by
  have hb : Bd (G : Int) s1.size := (Bgz (Jb _)).nat (by rw [hG]; exact Nat.le_of_dvd hp (Nat.gcd_dvd_right _ _))
  have := hb.size
  rw [Int.natAbs_natCast] at this
  omega
 have nG : Bc (Bf G) = G := Bu G
 cases n1 with
 | false =>
  rw [if_neg (show ¬ Cq false s1 < 0 by simp [Cq])] at key
  rw [Wk key (Vv o0 hGp d0) rfl]
  by_cases hg : G = 1
  ·rw [hg, Nat.div_one, Nat.div_one, Cz o0.1, Cz o1.1]
   exact Bd9 n0 false s0 s1 (Bf G) w (eq1 (by rw [hg, Eb])) H1
  ·have := Bea n0 false s0 s1 (Bf G) w (Ss fun e => hg (by rw [← nG, e, Dr])) z0 z1 zG (by omega) H1
   rwa [nG] at this
 | true =>
  have hs0 : (if Cq true s1 < 0 then -Cq n0 s0 else Cq n0 s0) = -Cq n0 s0 := if_pos (by simp [Cq]; omega)
  rw [hs0] at key
  obtain ⟨m0, em, om, hm⟩ := Wc n0 s0 o0
  rw [← em] at key
  rw [Wk key (Vv om hGp d0) rfl]
  have H3 : Hid (∀ w1, Calls Tryz.prog 111 #[.agg #[Iz true, I s1]] w1 (Re w1 (.agg #[Iz false, I s1]))) := fun w1 => Pd true s1 w1 (isE hp)
  by_cases hg : G = 1
  ·rw [hg, Nat.div_one, Nat.div_one, Cz o0.1, Cz o1.1]
   exact Bbl n0 m0 false s0 s1 (Bf G) w (eq1 (by rw [hg, Eb])) H1 hm H3
  ·have := Bbm n0 m0 false s0 s1 (Bf G) w (Ss fun e => hg (by rw [← nG, e, Dr])) z0 z1 zG (by omega) H1 hm H3
   rwa [nG] at this
open Go.RowKit Go.Shelf
theorem Em (n : Bool) (s d : ByteArray) (w : World) :
  Calls Tryz.prog 75 #[(Bo n s d)] w (Re w (.agg #[Iz false, I d])) := by
 go_enter Tryz.func75, Tryz.ntmps75
 go_wp2
 obtain ⟨w0, hw, k0, k1, b⟩ := Gx w (Bx n s d) [Iz false, I d] 26 24
 rw [← hw]
 exact Dg (p := 2) (by kernel_rfl) rfl rfl k1 ⟨rfl, b⟩
theorem Bar (n : Bool) (s d : ByteArray) (w : World) (hs : ¬ (8000 : Int) < s.size) (hd : ¬ (8000 : Int) < d.size) (c : Int) (hc : ¬ c = 0)
  (HC : Hid (∀ w1, Calls Tryz.prog 181 #[.agg #[Iz n, I s]] w1 (Re w1 (.int .i64 c)))) :
  Calls Tryz.prog 134 #[(Bo n s d)] w (Re w (.int .i64 1)) := by
 have hc' : (c != 0) = true := by simpa using hc
 go_enter Tryz.func134, Tryz.ntmps134
 go_wp2_with fail
 obtain ⟨w0, hw, k0, bb⟩ := D7 w (Bx n s d) 26
 rw [← hw]
 clear hw
 refine Jc (S := (fun w' => Gy w' w.heap.size (Iz n) (I s) (I d))) (by kernel_rfl) ?_ (fun hHeld => ?_)
 ·exact (Ch k0)
 refine tq 0 rfl ?_
 refine tq 1 rfl ?_
 refine wpAnyH_ready (rs := [2]) (by kernel_rfl) (by simp) ?_
 refine AllReadyH.cons (o := _) rfl (fun K hK => ?_) AllReadyH.nil
 simp only [Jq]
 go_simp
 go_fit (HC.out _)
 rintro e wn ⟨rfl, bn⟩
 replace k0 := k0.b (un bn)
 replace bb := Ia bb (un bn)
 clear bn
 try go_wp2_with fail
 refine hK.out _ _ ?_ (fun hHeld => ?_)
 ·exact (Ch k0)
 clear hK K
 refine tq 3 rfl ?_
 refine tq 4 rfl ?_
 refine tu 5 rfl ?_
 refine tu 6 rfl ?_
 refine tu 7 rfl ?_
 refine tu 8 rfl ?_
 refine tq 9 rfl ?_
 refine tq 10 rfl ?_
 refine tu 11 rfl ?_
 refine tu 12 rfl ?_
 refine tu 13 rfl ?_
 refine tq 14 rfl ?_
 refine tq 15 rfl ?_
 refine tu 16 rfl ?_
 refine tu 17 rfl ?_
 refine tu 18 rfl ?_
 refine tu 19 rfl ?_
 refine tu 20 rfl ?_
 refine tu 21 rfl ?_
 refine tu 22 rfl ?_
 refine tq 23 rfl ?_
 refine wpAnyH_done (by kernel_rfl) ?_ _
 go_wp2
 go_ret
 exact ⟨rfl, bb⟩
theorem Bat (n : Bool) (s d : ByteArray) (w : World) (hs : ¬ (8000 : Int) < s.size) (hd : ¬ (8000 : Int) < d.size)
  (HC : Hid (∀ w1, Calls Tryz.prog 181 #[.agg #[Iz n, I s]] w1 (Re w1 (.int .i64 0))))
  (HI : Hid (∀ w1, Calls Tryz.prog 182 #[I d] w1 (Re w1 (Iz false)))) :
  Calls Tryz.prog 134 #[(Bo n s d)] w (Re w (.int .i64 1)) := by
 go_enter Tryz.func134, Tryz.ntmps134
 go_wp2_with fail
 obtain ⟨w0, hw, k0, bb⟩ := D7 w (Bx n s d) 26
 rw [← hw]
 clear hw
 refine Jc (S := (fun w' => Gy w' w.heap.size (Iz n) (I s) (I d))) (by kernel_rfl) ?_ (fun hHeld => ?_)
 ·exact (Ch k0)
 refine tq 0 rfl ?_
 refine tq 1 rfl ?_
 refine wpAnyH_ready (rs := [2]) (by kernel_rfl) (by simp) ?_
 refine AllReadyH.cons (o := _) rfl (fun K hK => ?_) AllReadyH.nil
 simp only [Jq]
 go_simp
 go_fit (HC.out _)
 rintro e wn ⟨rfl, bn⟩
 replace k0 := k0.b (un bn)
 replace bb := Ia bb (un bn)
 clear bn
 try go_wp2_with fail
 refine hK.out _ _ ?_ (fun hHeld => ?_)
 ·exact (Ch k0)
 clear hK K
 refine tq 3 rfl ?_
 refine tq 4 rfl ?_
 refine tq 5 rfl ?_
 refine tq 6 rfl ?_
 refine wpAnyH_ready (rs := [7]) (by kernel_rfl) (by simp) ?_
 refine AllReadyH.cons (o := _) rfl (fun K hK => ?_) AllReadyH.nil
 simp only [Jq]
 go_simp
 go_fit (HI.out _)
 rintro e wn ⟨rfl, bn⟩
 replace k0 := k0.b (un bn)
 replace bb := Ia bb (un bn)
 clear bn
 try go_wp2_with fail
 refine hK.out _ _ ?_ (fun hHeld => ?_)
 ·exact (Ch k0)
 clear hK K
 refine tq 8 rfl ?_
 refine tq 9 rfl ?_
 refine tq 10 rfl ?_
 refine tu 11 rfl ?_
 refine tu 12 rfl ?_
 refine tu 13 rfl ?_
 refine tq 14 rfl ?_
 refine tq 15 rfl ?_
 refine tu 16 rfl ?_
 refine tu 17 rfl ?_
 refine tu 18 rfl ?_
 refine tu 19 rfl ?_
 refine tu 20 rfl ?_
 refine tu 21 rfl ?_
 refine tu 22 rfl ?_
 refine tq 23 rfl ?_
 refine wpAnyH_done (by kernel_rfl) ?_ _
 go_wp2
 go_ret
 exact ⟨rfl, bb⟩
theorem Bas (n : Bool) (s : ByteArray) (w : World) (hs : ¬ (8000 : Int) < s.size)
  (HC : Hid (∀ w1, Calls Tryz.prog 181 #[.agg #[Iz n, I s]] w1 (Re w1 (.int .i64 0))))
  (HI : Hid (∀ w1, Calls Tryz.prog 182 #[I ByteArray.empty] w1 (Re w1 (Iz true)))) :
  Calls Tryz.prog 134 #[(Bo n s ByteArray.empty)] w (Re w (.int .i64 1)) := by
 go_enter Tryz.func134, Tryz.ntmps134
 go_wp2_with fail
 obtain ⟨w0, hw, k0, bb⟩ := D7 w (Bx n s ByteArray.empty) 26
 rw [← hw]
 clear hw
 refine Jc (S := (fun w' => Gy w' w.heap.size (Iz n) (I s) (I ByteArray.empty))) (by kernel_rfl) ?_ (fun hHeld => ?_)
 ·exact (Ch k0)
 refine tq 0 rfl ?_
 refine tq 1 rfl ?_
 refine wpAnyH_ready (rs := [2]) (by kernel_rfl) (by simp) ?_
 refine AllReadyH.cons (o := _) rfl (fun K hK => ?_) AllReadyH.nil
 simp only [Jq]
 go_simp
 go_fit (HC.out _)
 rintro e wn ⟨rfl, bn⟩
 replace k0 := k0.b (un bn)
 replace bb := Ia bb (un bn)
 clear bn
 try go_wp2_with fail
 refine hK.out _ _ ?_ (fun hHeld => ?_)
 ·exact (Ch k0)
 clear hK K
 refine tq 3 rfl ?_
 refine tq 4 rfl ?_
 refine tq 5 rfl ?_
 refine tq 6 rfl ?_
 refine wpAnyH_ready (rs := [7]) (by kernel_rfl) (by simp) ?_
 refine AllReadyH.cons (o := _) rfl (fun K hK => ?_) AllReadyH.nil
 simp only [Jq]
 go_simp
 go_fit (HI.out _)
 rintro e wn ⟨rfl, bn⟩
 replace k0 := k0.b (un bn)
 replace bb := Ia bb (un bn)
 clear bn
 try go_wp2_with fail
 refine hK.out _ _ ?_ (fun hHeld => ?_)
 ·exact (Ch k0)
 clear hK K
 refine tq 8 rfl ?_
 refine tq 9 rfl ?_
 refine tq 10 rfl ?_
 refine tq 11 rfl ?_
 refine tq 12 rfl ?_
 refine tq 13 rfl ?_
 refine tq 14 rfl ?_
 refine tq 15 rfl ?_
 refine tu 16 rfl ?_
 refine tu 17 rfl ?_
 refine tu 18 rfl ?_
 refine tu 19 rfl ?_
 refine tu 20 rfl ?_
 refine tu 21 rfl ?_
 refine tu 22 rfl ?_
 refine tq 23 rfl ?_
 refine wpAnyH_done (by kernel_rfl) ?_ _
 go_wp2
 go_ret
 exact ⟨rfl, bb⟩
theorem Bau (n zN : Bool) (s d zS : ByteArray) (w : World) (hs : ¬ (8000 : Int) < s.size) (hd : ¬ (8000 : Int) < d.size) (h0 : d.toList.isEmpty = false) (hz : (zS.toList == [1]) = false)
  (HC : Hid (∀ w1, Calls Tryz.prog 181 #[.agg #[Iz n, I s]] w1 (Re w1 (.int .i64 0))))
  (HI : Hid (∀ w1, Calls Tryz.prog 182 #[I d] w1 (Re w1 (Iz true))))
  (HG : Hid (∀ w1, Calls Tryz.prog 110 #[.agg #[Iz n, I s], .agg #[Iz false, I d]] w1 (Re w1 (.agg #[Iz zN, I zS])))) :
  Calls Tryz.prog 134 #[(Bo n s d)] w (Re w (.int .i64 1)) := by
 have gf := Bb2 zN zS
 go_enter Tryz.func134, Tryz.ntmps134
 go_wp2_with fail
 obtain ⟨w0, hw, k0, bb⟩ := D7 w (Bx n s d) 26
 rw [← hw]
 clear hw
 refine Jc (S := (fun w' => Gy w' w.heap.size (Iz n) (I s) (I d))) (by kernel_rfl) ?_ (fun hHeld => ?_)
 ·exact (Ch k0)
 refine tq 0 rfl ?_
 refine tq 1 rfl ?_
 refine wpAnyH_ready (rs := [2]) (by kernel_rfl) (by simp) ?_
 refine AllReadyH.cons (o := _) rfl (fun K hK => ?_) AllReadyH.nil
 simp only [Jq]
 go_simp
 go_fit (HC.out _)
 rintro e wn ⟨rfl, bn⟩
 replace k0 := k0.b (un bn)
 replace bb := Ia bb (un bn)
 clear bn
 try go_wp2_with fail
 refine hK.out _ _ ?_ (fun hHeld => ?_)
 ·exact (Ch k0)
 clear hK K
 refine tq 3 rfl ?_
 refine tq 4 rfl ?_
 refine tq 5 rfl ?_
 refine tq 6 rfl ?_
 refine wpAnyH_ready (rs := [7]) (by kernel_rfl) (by simp) ?_
 refine AllReadyH.cons (o := _) rfl (fun K hK => ?_) AllReadyH.nil
 simp only [Jq]
 go_simp
 go_fit (HI.out _)
 rintro e wn ⟨rfl, bn⟩
 replace k0 := k0.b (un bn)
 replace bb := Ia bb (un bn)
 clear bn
 try go_wp2_with fail
 refine hK.out _ _ ?_ (fun hHeld => ?_)
 ·exact (Ch k0)
 clear hK K
 refine tq 8 rfl ?_
 refine tq 9 rfl ?_
 refine tq 10 rfl ?_
 refine tq 11 rfl ?_
 refine tq 12 rfl ?_
 refine tq 13 rfl ?_
 refine tq 14 rfl ?_
 refine tq 15 rfl ?_
 refine tq 16 rfl ?_
 refine tq 17 rfl ?_
 refine tq 18 rfl ?_
 refine wpAnyH_ready (rs := [19]) (by kernel_rfl) (by simp) ?_
 refine AllReadyH.cons (o := _) rfl (fun K hK => ?_) AllReadyH.nil
 simp only [Jq]
 go_simp
 go_fit (Em _ _ _ _)
 rintro e wn ⟨rfl, bn⟩
 replace k0 := k0.b (un bn)
 replace bb := Ia bb (un bn)
 clear bn
 try go_wp2_with fail
 refine hK.out _ _ ?_ (fun hHeld => ?_)
 ·exact (Ch k0)
 clear hK K
 refine wpAnyH_ready (rs := [20]) (by kernel_rfl) (by simp) ?_
 refine AllReadyH.cons (o := _) rfl (fun K hK => ?_) AllReadyH.nil
 simp only [Jq]
 go_simp
 go_fit (HG.out _)
 rintro e wn ⟨rfl, bn⟩
 replace k0 := k0.b (un bn)
 replace bb := Ia bb (un bn)
 clear bn
 try go_wp2_with fail
 refine hK.out _ _ ?_ (fun hHeld => ?_)
 ·exact (Ch k0)
 clear hK K
 refine tq 21 rfl ?_
 refine tq 22 rfl ?_
 refine tq 23 rfl ?_
 refine wpAnyH_done (by kernel_rfl) ?_ _
 go_wp2
 go_ret
 exact ⟨rfl, bb⟩
theorem Bdj (n zN : Bool) (s d zS : ByteArray) (w : World) (hs : ¬ (8000 : Int) < s.size) (hd : ¬ (8000 : Int) < d.size) (h0 : d.toList.isEmpty = false) (hz : (zS.toList == [1]) = true)
  (HC : Hid (∀ w1, Calls Tryz.prog 181 #[.agg #[Iz n, I s]] w1 (Re w1 (.int .i64 0))))
  (HI : Hid (∀ w1, Calls Tryz.prog 182 #[I d] w1 (Re w1 (Iz true))))
  (HG : Hid (∀ w1, Calls Tryz.prog 110 #[.agg #[Iz n, I s], .agg #[Iz false, I d]] w1 (Re w1 (.agg #[Iz zN, I zS])))) :
  Calls Tryz.prog 134 #[(Bo n s d)] w (Re w (.int .i64 0)) := by
 have gf := Bb2 zN zS
 go_enter Tryz.func134, Tryz.ntmps134
 go_wp2_with fail
 obtain ⟨w0, hw, k0, bb⟩ := D7 w (Bx n s d) 26
 rw [← hw]
 clear hw
 refine Jc (S := (fun w' => Gy w' w.heap.size (Iz n) (I s) (I d))) (by kernel_rfl) ?_ (fun hHeld => ?_)
 ·exact (Ch k0)
 refine tq 0 rfl ?_
 refine tq 1 rfl ?_
 refine wpAnyH_ready (rs := [2]) (by kernel_rfl) (by simp) ?_
 refine AllReadyH.cons (o := _) rfl (fun K hK => ?_) AllReadyH.nil
 simp only [Jq]
 go_simp
 go_fit (HC.out _)
 rintro e wn ⟨rfl, bn⟩
 replace k0 := k0.b (un bn)
 replace bb := Ia bb (un bn)
 clear bn
 try go_wp2_with fail
 refine hK.out _ _ ?_ (fun hHeld => ?_)
 ·exact (Ch k0)
 clear hK K
 refine tq 3 rfl ?_
 refine tq 4 rfl ?_
 refine tq 5 rfl ?_
 refine tq 6 rfl ?_
 refine wpAnyH_ready (rs := [7]) (by kernel_rfl) (by simp) ?_
 refine AllReadyH.cons (o := _) rfl (fun K hK => ?_) AllReadyH.nil
 simp only [Jq]
 go_simp
 go_fit (HI.out _)
 rintro e wn ⟨rfl, bn⟩
 replace k0 := k0.b (un bn)
 replace bb := Ia bb (un bn)
 clear bn
 try go_wp2_with fail
 refine hK.out _ _ ?_ (fun hHeld => ?_)
 ·exact (Ch k0)
 clear hK K
 refine tq 8 rfl ?_
 refine tq 9 rfl ?_
 refine tq 10 rfl ?_
 refine tq 11 rfl ?_
 refine tq 12 rfl ?_
 refine tq 13 rfl ?_
 refine tq 14 rfl ?_
 refine tq 15 rfl ?_
 refine tq 16 rfl ?_
 refine tq 17 rfl ?_
 refine tq 18 rfl ?_
 refine wpAnyH_ready (rs := [19]) (by kernel_rfl) (by simp) ?_
 refine AllReadyH.cons (o := _) rfl (fun K hK => ?_) AllReadyH.nil
 simp only [Jq]
 go_simp
 go_fit (Em _ _ _ _)
 rintro e wn ⟨rfl, bn⟩
 replace k0 := k0.b (un bn)
 replace bb := Ia bb (un bn)
 clear bn
 try go_wp2_with fail
 refine hK.out _ _ ?_ (fun hHeld => ?_)
 ·exact (Ch k0)
 clear hK K
 refine wpAnyH_ready (rs := [20]) (by kernel_rfl) (by simp) ?_
 refine AllReadyH.cons (o := _) rfl (fun K hK => ?_) AllReadyH.nil
 simp only [Jq]
 go_simp
 go_fit (HG.out _)
 rintro e wn ⟨rfl, bn⟩
 replace k0 := k0.b (un bn)
 replace bb := Ia bb (un bn)
 clear bn
 try go_wp2_with fail
 refine hK.out _ _ ?_ (fun hHeld => ?_)
 ·exact (Ch k0)
 clear hK K
 refine tq 21 rfl ?_
 refine tq 22 rfl ?_
 refine tq 23 rfl ?_
 refine wpAnyH_done (by kernel_rfl) ?_ _
 go_wp2
 go_ret
 exact ⟨rfl, bb⟩
theorem Bav (n : Bool) (s d : ByteArray) (w : World) (zs : s.size ≤ 8000) (zd : d.size ≤ 8000) :
  Calls Tryz.prog 134 #[(Bo n s d)] w (Re w (.int .i64 (Bt n s d : Nat))) := by
 have hs : ¬ (8000 : Int) < s.size := by omega
 have hd : ¬ (8000 : Int) < d.size := by omega
 have hl : ¬ (8000 < s.size ∨ 8000 < d.size) := by omega
 by_cases c0 : Lp n s = 0
 ·have HC : Hid (∀ w1, Calls Tryz.prog 181 #[.agg #[Iz n, I s]] w1 (Re w1 (.int .i64 0))) := by
   intro w1
   have := Nv n s w1
   rwa [c0] at this
  have o := (H8 (by omega)).1 c0
  by_cases h0 : 0 < d.size
  ·by_cases hb : lm (B9 d) 0 = 0
   ·rw [show Bt n s d = 1 by unfold Bt; rw [if_neg hl, if_pos (Or.inr (Or.inr (Or.inl hb)))]]
    exact Bat n s d w hs hd HC (fun w1 => (Sy d w1 h0 hb).mono fun e w' h => ⟨h.1, by rw [h.2]; exact Jg _ _⟩)
   ·have od : Pn d := fun _ => hb
    have HI : Hid (∀ w1, Calls Tryz.prog 182 #[I d] w1 (Re w1 (Iz true))) := fun w1 => (Kf d w1 (fun _ => hb)).mono fun e w' h => ⟨h.1, by rw [h.2]; exact Jg _ _⟩
    have HG : Hid (∀ w1, Calls Tryz.prog 110 #[.agg #[Iz n, I s], .agg #[Iz false, I d]] w1 (Re w1 (.agg #[Iz false, I (Bf (Nat.gcd (Bc s) (Bc d)))]))) := by
     intro w1
     have := Ml n false s d w1 (by omega) (by omega)
     have e : zI ((Nat.gcd (Bc s) (Bc d) : Nat) : Int) = .agg #[Iz false, I (Bf (Nat.gcd (Bc s) (Bc d)))] := by
      show zV _ _ = _
      rw [Int.natAbs_natCast, show decide ((((Nat.gcd (Bc s) (Bc d) : Nat)) : Int) < 0) = false by simp]
      rfl
     rwa [e] at this
    have h5 : d.toList.isEmpty = false := by simpa using Dp h0
    by_cases hg : Nat.gcd (Bc s) (Bc d) = 1
    ·rw [Q6 ⟨o, od, Ft od h0, hg⟩ zs zd]
     exact Bdj n false s d _ w hs hd h5 (eq1 (by rw [hg, Eb])) HC HI HG
    ·rw [show Bt n s d = 1 by unfold Bt; rw [if_neg hl, if_pos (Or.inr (Or.inr (Or.inr hg)))]]
     exact Bau n false s d _ w hs hd h5 (Ss fun h => hg (by
      have := Bu (Nat.gcd (Bc s) (Bc d))
      rw [h, Dr] at this
      exact this.symm)) HC HI HG
  ·have g3 : d = ByteArray.empty := ByteArray.size_eq_zero_iff.1 (by omega)
   subst g3
   rw [show Bt n s ByteArray.empty = 1 by unfold Bt; rw [if_neg hl, if_pos (Or.inr (Or.inl (show ByteArray.empty.size = 0 from rfl)))]]
   exact Bas n s w hs HC (fun w1 => (Kf ByteArray.empty w1 (fun h => absurd h h0)).mono fun e w' h => ⟨h.1, by rw [h.2]; exact Jg _ _⟩)
 ·have h1 : Lp n s = 1 := by
   unfold Lp at c0 ⊢
   rw [if_neg (by omega)] at c0 ⊢
   split at c0
   ·rw [if_pos (by assumption)]
   ·exact absurd rfl c0
  rw [show Bt n s d = 1 by unfold Bt; rw [if_neg hl, if_pos (Or.inl c0)]]
  refine Bar n s d w hs hd 1 (by omega) (fun w1 => ?_)
  have := Nv n s w1
  rwa [h1] at this
open Go.RowKit Go.Shelf
theorem Tx (n0 n1 xN yN mN vN rN : Bool) (s0 d0 s1 d1 xS yS mS vS rS rD : ByteArray) (h : (d0.toList == [1]) = false) (w : World)
  (H1 : Hid (∀ w1, Calls Tryz.prog 74 #[.agg #[Iz n0, I s0], .agg #[Iz false, I d1]] w1 (Re w1 (.agg #[Iz xN, I xS]))))
  (H2 : Hid (∀ w1, Calls Tryz.prog 74 #[.agg #[Iz n1, I s1], .agg #[Iz false, I d0]] w1 (Re w1 (.agg #[Iz yN, I yS]))))
  (H3 : Hid (∀ w1, Calls Tryz.prog 81 #[.agg #[Iz xN, I xS], .agg #[Iz yN, I yS]] w1 (Re w1 (.agg #[Iz mN, I mS]))))
  (H4 : Hid (∀ w1, Calls Tryz.prog 74 #[.agg #[Iz false, I d0], .agg #[Iz false, I d1]] w1 (Re w1 (.agg #[Iz vN, I vS]))))
  (H5 : Hid (∀ w1, Calls Tryz.prog 57 #[.agg #[Iz mN, I mS], .agg #[Iz vN, I vS]] w1 (Re w1 ((Bo rN rS rD))))) :
  Calls Tryz.prog 41 #[(Bo n0 s0 d0), (Bo n1 s1 d1)] w (Re w ((Bo rN rS rD))) := by
 go_enter Tryz.func41, Tryz.ntmps41
 go_wp2_with fail
 obtain ⟨w1, hw, ka, kb, kr, b1⟩ := K9 w (Bx n0 s0 d0) (Bx n1 s1 d1) (Bx false eB eB) 26 26 26
 rw [← hw]
 clear hw
 have sz := b1.size
 have ta := ka.lt
 have tb := kb.lt
 have tr := kr.lt
 have bb := b1
 clear b1
 obtain ⟨ca_0, ca_1, ca_2⟩ := Ch ka
 obtain ⟨cb_3, cb_4, cb_5⟩ := Ch kb
 go_wp2_with fail
 clear ca_0 ca_1 ca_2 cb_3 cb_4 cb_5
 have mk : Hid (∀ w', SB w1 w' → Gy w' w.heap.size (Iz n0) (I s0) (I d0) ∧ Gy w' (w.heap.size + 1) (Iz n1) (I s1) (I d1)) := fun w' h => ⟨Ch (ka.b h), Ch (kb.b h)⟩
 go_cut [5] from 20 to 30 (fun v wx => ∃ gc, v = .pointer (some ⟨gc, 0, none⟩) ∧ w1.heap.size ≤ gc ∧ Be wx gc [Iz mN, I mS] 24 ∧ Below w1.heap.size w1 wx)
 case first =>
  clear H4 H5 kr
  refine Jc (S := SB w1) (by kernel_rfl) (Cd _) (fun bc => ?_)
  refine WA.start (n := 13) (by kernel_rfl) ?_
  refine WA.tl 0 rfl ?_
  refine WA.tl 1 rfl ?_
  refine WA.tl 2 rfl ?_
  refine WA.tl 5 rfl ?_
  refine WA.tl 6 rfl ?_
  refine WA.tl 7 rfl ?_
  refine WA.gen (i := 11) (s := 5) undef (Pt w1 [Iz false, .string { data := #[] }] 24) (fun b x hz => ?_)
  simp only [Jp]
  revert b x
  refine WA.one 13 231 3 11 rfl rfl bc ?_
  clear bc
  intro b x w' hz bx bc K hK
  clear bx
  simp only [Jq]
  go_simp
  go_fit (Em n1 s1 d1 _)
  rintro e wn ⟨rfl, bn⟩
  replace bc := Ia bc bn
  try go_wp2_with fail
  refine hK.out _ _ bc (fun _ => ?_)
  replace hz := fun h => (hz h).b bn
  clear hK K bn
  revert b x
  refine WA.one 13 239 4 11 rfl rfl bc ?_
  clear bc
  intro b x w' hz bx bc K hK
  clear bx
  simp only [Jq]
  go_simp
  go_fit (H1.out _)
  rintro e wn ⟨rfl, bn⟩
  replace bc := Ia bc bn
  try go_wp2_with fail
  refine hK.out _ _ bc (fun _ => ?_)
  replace hz := fun h => (hz h).b bn
  clear hK K bn
  revert b x
  refine WA.one 13 255 8 11 rfl rfl bc ?_
  clear bc
  intro b x w' hz bx bc K hK
  clear bx
  simp only [Jq]
  go_simp
  go_fit (Em n0 s0 d0 _)
  rintro e wn ⟨rfl, bn⟩
  replace bc := Ia bc bn
  try go_wp2_with fail
  refine hK.out _ _ bc (fun _ => ?_)
  replace hz := fun h => (hz h).b bn
  clear hK K bn
  revert b x
  refine WA.one 13 511 9 11 rfl rfl bc ?_
  clear bc
  intro b x w' hz bx bc K hK
  clear bx
  simp only [Jq]
  go_simp
  go_fit (H2.out _)
  rintro e wn ⟨rfl, bn⟩
  replace bc := Ia bc bn
  try go_wp2_with fail
  refine hK.out _ _ bc (fun _ => ?_)
  replace hz := fun h => (hz h).b bn
  clear hK K bn
  revert b x
  refine WA.one 13 1023 10 11 rfl rfl bc ?_
  clear bc
  intro b x w' hz bx bc K hK
  clear bx
  simp only [Jq]
  go_simp
  go_fit (H3.out _)
  rintro e wn ⟨rfl, bn⟩
  replace bc := Ia bc bn
  try go_wp2_with fail
  refine hK.out _ _ bc (fun _ => ?_)
  replace hz := fun h => (hz h).b bn
  clear hK K bn
  revert b x
  refine WA.fin 11 rfl bc ?_
  clear bc
  intro x w' hz bx bc
  obtain ⟨g0, rfl, h0, k0⟩ := hz
  clear bx
  have e0_0 := Bw k0
  have f0_0 := Be.o k0 0
  have e0_1 := C8 k0
  have f0_1 := Be.o k0 1
  refine WA.call 12 rfl (fun K hK => ?_)
  simp only [Jq]
  go_simp
  try go_wp2_with fail
  clear e0_0 f0_0 e0_1 f0_1
  refine hK.out _ _ (Bi (Bi bc h0 0 (Iz mN)) h0 1 (I mS)) (fun hS => ?_)
  clear hK K
  replace k0 := (Be.set (Be.set k0 0 (Iz mN)) 1 (I mS))
  replace bc := (Bi (Bi bc h0 0 (Iz mN)) h0 1 (I mS))
  refine WA.done (by kernel_rfl) ?_
  go_wp2_with fail
  go_meet
  exact ⟨_, rfl, h0, k0, bc⟩
 case rest =>
 obtain ⟨gm, rfl, lm, km, b1⟩ := hcut
 clear mk
 have sz := b1.size
 replace ka := ka.b b1
 replace kb := kb.b b1
 replace kr := kr.b b1
 replace bb := Ia bb b1
 clear b1
 have tm := km.lt
 go_wp2_with fail
 have qa : w.heap.size ≠ w.heap.size + 1 + 1 := by omega
 have qb : w.heap.size + 1 ≠ w.heap.size + 1 + 1 := by omega
 have qm : gm ≠ w.heap.size + 1 + 1 := by omega
 go_region_held3 (fun w' => Gy w' w.heap.size (Iz n0) (I s0) (I d0) ∧ Gy w' (w.heap.size + 1) (Iz n1) (I s1) (I d1) ∧ Fb w' gm (Iz mN) (I mS)) (first | exact ⟨Ch ka, Ch kb, B7 km⟩ | exact ⟨Ch (Be.w (Be.w (Be.w ka qa 0 _) qa 1 _) qa 2 _), Ch (Be.w (Be.w (Be.w kb qb 0 _) qb 1 _) qb 2 _), B7 (Be.w (Be.w (Be.w km qm 0 _) qm 1 _) qm 2 _)⟩) (first | (go_at_call 75; go_fit (Em _ _ _ _); rintro e wn ⟨rfl, bn⟩; replace ka := ka.b (un bn); replace kb := kb.b (un bn); replace kr := kr.b (un bn); replace km := km.b (un bn); replace bb := Ia bb (un bn)) | (go_at_call 74; go_fit (H4.out _); rintro e wn ⟨rfl, bn⟩; replace ka := ka.b (un bn); replace kb := kb.b (un bn); replace kr := kr.b (un bn); replace km := km.b (un bn); replace bb := Ia bb (un bn)) | (go_at_call 57; go_fit (H5.out _); rintro e wn ⟨rfl, bn⟩; replace ka := ka.b (un bn); replace kb := kb.b (un bn); replace kr := kr.b (un bn); replace km := km.b (un bn); replace bb := Ia bb (un bn); have e0 := Ey kr; have f0 := Be.o kr 0; have e1 := Ex kr; have f1 := Be.o kr 1; have e2 := Dk kr; have f2 := Be.o kr 2))
 go_wp2
 exact Cu (p := 4) (by kernel_rfl) rfl rfl (((kr.set 0 _).set 1 _).set 2 _) ⟨rfl, Bi (Bi (Bi bb (by omega) 0 _) (by omega) 1 _) (by omega) 2 _⟩
theorem Tw (n0 n1 xN yN mN vN rN : Bool) (s0 d0 s1 d1 xS yS mS vS rS rD : ByteArray) (h0 : (d0.toList == [1]) = true) (h : (d1.toList == [1]) = false) (w : World)
  (H1 : Hid (∀ w1, Calls Tryz.prog 74 #[.agg #[Iz n0, I s0], .agg #[Iz false, I d1]] w1 (Re w1 (.agg #[Iz xN, I xS]))))
  (H2 : Hid (∀ w1, Calls Tryz.prog 74 #[.agg #[Iz n1, I s1], .agg #[Iz false, I d0]] w1 (Re w1 (.agg #[Iz yN, I yS]))))
  (H3 : Hid (∀ w1, Calls Tryz.prog 81 #[.agg #[Iz xN, I xS], .agg #[Iz yN, I yS]] w1 (Re w1 (.agg #[Iz mN, I mS]))))
  (H4 : Hid (∀ w1, Calls Tryz.prog 74 #[.agg #[Iz false, I d0], .agg #[Iz false, I d1]] w1 (Re w1 (.agg #[Iz vN, I vS]))))
  (H5 : Hid (∀ w1, Calls Tryz.prog 57 #[.agg #[Iz mN, I mS], .agg #[Iz vN, I vS]] w1 (Re w1 ((Bo rN rS rD))))) :
  Calls Tryz.prog 41 #[(Bo n0 s0 d0), (Bo n1 s1 d1)] w (Re w ((Bo rN rS rD))) := by
 go_enter Tryz.func41, Tryz.ntmps41
 go_wp2_with fail
 obtain ⟨w1, hw, ka, kb, kr, b1⟩ := K9 w (Bx n0 s0 d0) (Bx n1 s1 d1) (Bx false eB eB) 26 26 26
 rw [← hw]
 clear hw
 have sz := b1.size
 have ta := ka.lt
 have tb := kb.lt
 have tr := kr.lt
 have bb := b1
 clear b1
 obtain ⟨ca_0, ca_1, ca_2⟩ := Ch ka
 obtain ⟨cb_3, cb_4, cb_5⟩ := Ch kb
 go_wp2_with fail
 clear ca_0 ca_1 ca_2 cb_3 cb_4 cb_5
 have mk : Hid (∀ w', SB w1 w' → Gy w' w.heap.size (Iz n0) (I s0) (I d0) ∧ Gy w' (w.heap.size + 1) (Iz n1) (I s1) (I d1)) := fun w' h => ⟨Ch (ka.b h), Ch (kb.b h)⟩
 go_cut [5] from 20 to 30 (fun v wx => ∃ gc, v = .pointer (some ⟨gc, 0, none⟩) ∧ w1.heap.size ≤ gc ∧ Be wx gc [Iz mN, I mS] 24 ∧ Below w1.heap.size w1 wx)
 case first =>
  clear H4 H5 kr
  refine Jc (S := SB w1) (by kernel_rfl) (Cd _) (fun bc => ?_)
  refine WA.start (n := 13) (by kernel_rfl) ?_
  refine WA.tl 0 rfl ?_
  refine WA.tl 1 rfl ?_
  refine WA.tl 2 rfl ?_
  refine WA.tl 5 rfl ?_
  refine WA.tl 6 rfl ?_
  refine WA.tl 7 rfl ?_
  refine WA.gen (i := 11) (s := 5) undef (Pt w1 [Iz false, .string { data := #[] }] 24) (fun b x hz => ?_)
  simp only [Jp]
  revert b x
  refine WA.one 13 231 3 11 rfl rfl bc ?_
  clear bc
  intro b x w' hz bx bc K hK
  clear bx
  simp only [Jq]
  go_simp
  go_fit (Em n1 s1 d1 _)
  rintro e wn ⟨rfl, bn⟩
  replace bc := Ia bc bn
  try go_wp2_with fail
  refine hK.out _ _ bc (fun _ => ?_)
  replace hz := fun h => (hz h).b bn
  clear hK K bn
  revert b x
  refine WA.one 13 239 4 11 rfl rfl bc ?_
  clear bc
  intro b x w' hz bx bc K hK
  clear bx
  simp only [Jq]
  go_simp
  go_fit (H1.out _)
  rintro e wn ⟨rfl, bn⟩
  replace bc := Ia bc bn
  try go_wp2_with fail
  refine hK.out _ _ bc (fun _ => ?_)
  replace hz := fun h => (hz h).b bn
  clear hK K bn
  revert b x
  refine WA.one 13 255 8 11 rfl rfl bc ?_
  clear bc
  intro b x w' hz bx bc K hK
  clear bx
  simp only [Jq]
  go_simp
  go_fit (Em n0 s0 d0 _)
  rintro e wn ⟨rfl, bn⟩
  replace bc := Ia bc bn
  try go_wp2_with fail
  refine hK.out _ _ bc (fun _ => ?_)
  replace hz := fun h => (hz h).b bn
  clear hK K bn
  revert b x
  refine WA.one 13 511 9 11 rfl rfl bc ?_
  clear bc
  intro b x w' hz bx bc K hK
  clear bx
  simp only [Jq]
  go_simp
  go_fit (H2.out _)
  rintro e wn ⟨rfl, bn⟩
  replace bc := Ia bc bn
  try go_wp2_with fail
  refine hK.out _ _ bc (fun _ => ?_)
  replace hz := fun h => (hz h).b bn
  clear hK K bn
  revert b x
  refine WA.one 13 1023 10 11 rfl rfl bc ?_
  clear bc
  intro b x w' hz bx bc K hK
  clear bx
  simp only [Jq]
  go_simp
  go_fit (H3.out _)
  rintro e wn ⟨rfl, bn⟩
  replace bc := Ia bc bn
  try go_wp2_with fail
  refine hK.out _ _ bc (fun _ => ?_)
  replace hz := fun h => (hz h).b bn
  clear hK K bn
  revert b x
  refine WA.fin 11 rfl bc ?_
  clear bc
  intro x w' hz bx bc
  obtain ⟨g0, rfl, h0, k0⟩ := hz
  clear bx
  have e0_0 := Bw k0
  have f0_0 := Be.o k0 0
  have e0_1 := C8 k0
  have f0_1 := Be.o k0 1
  refine WA.call 12 rfl (fun K hK => ?_)
  simp only [Jq]
  go_simp
  try go_wp2_with fail
  clear e0_0 f0_0 e0_1 f0_1
  refine hK.out _ _ (Bi (Bi bc h0 0 (Iz mN)) h0 1 (I mS)) (fun hS => ?_)
  clear hK K
  replace k0 := (Be.set (Be.set k0 0 (Iz mN)) 1 (I mS))
  replace bc := (Bi (Bi bc h0 0 (Iz mN)) h0 1 (I mS))
  refine WA.done (by kernel_rfl) ?_
  go_wp2_with fail
  go_meet
  exact ⟨_, rfl, h0, k0, bc⟩
 case rest =>
 obtain ⟨gm, rfl, lm, km, b1⟩ := hcut
 clear mk
 have sz := b1.size
 replace ka := ka.b b1
 replace kb := kb.b b1
 replace kr := kr.b b1
 replace bb := Ia bb b1
 clear b1
 have tm := km.lt
 go_wp2_with fail
 have qa : w.heap.size ≠ w.heap.size + 1 + 1 := by omega
 have qb : w.heap.size + 1 ≠ w.heap.size + 1 + 1 := by omega
 have qm : gm ≠ w.heap.size + 1 + 1 := by omega
 go_region_held3 (fun w' => Gy w' w.heap.size (Iz n0) (I s0) (I d0) ∧ Gy w' (w.heap.size + 1) (Iz n1) (I s1) (I d1) ∧ Fb w' gm (Iz mN) (I mS)) (first | exact ⟨Ch ka, Ch kb, B7 km⟩ | exact ⟨Ch (Be.w (Be.w (Be.w ka qa 0 _) qa 1 _) qa 2 _), Ch (Be.w (Be.w (Be.w kb qb 0 _) qb 1 _) qb 2 _), B7 (Be.w (Be.w (Be.w km qm 0 _) qm 1 _) qm 2 _)⟩) (first | (go_at_call 75; go_fit (Em _ _ _ _); rintro e wn ⟨rfl, bn⟩; replace ka := ka.b (un bn); replace kb := kb.b (un bn); replace kr := kr.b (un bn); replace km := km.b (un bn); replace bb := Ia bb (un bn)) | (go_at_call 74; go_fit (H4.out _); rintro e wn ⟨rfl, bn⟩; replace ka := ka.b (un bn); replace kb := kb.b (un bn); replace kr := kr.b (un bn); replace km := km.b (un bn); replace bb := Ia bb (un bn)) | (go_at_call 57; go_fit (H5.out _); rintro e wn ⟨rfl, bn⟩; replace ka := ka.b (un bn); replace kb := kb.b (un bn); replace kr := kr.b (un bn); replace km := km.b (un bn); replace bb := Ia bb (un bn); have e0 := Ey kr; have f0 := Be.o kr 0; have e1 := Ex kr; have f1 := Be.o kr 1; have e2 := Dk kr; have f2 := Be.o kr 2))
 go_wp2
 exact Cu (p := 4) (by kernel_rfl) rfl rfl (((kr.set 0 _).set 1 _).set 2 _) ⟨rfl, Bi (Bi (Bi bb (by omega) 0 _) (by omega) 1 _) (by omega) 2 _⟩
open Go.RowKit Go.Shelf
theorem Bb5 (z : Int) : Rat.divInt z 1 = (z : Rat) := by
 rw [show (1 : Int) = ((1 : Nat) : Int) from rfl, Rat.divInt_ofNat]
 exact Rat.ext (Q.mk_low (by omega) (by simp)).1 (Q.mk_low (by omega) (by simp)).2
theorem Pc (n0 n1 : Bool) (s0 d0 s1 d1 : ByteArray) (w : World) (o0 : On n0 s0 d0) (o1 : On n1 s1 d1) {K : Nat} (hK : K ≤ 4000) (z0 : s0.size ≤ K) (y0 : d0.size ≤ K) (z1 : s1.size ≤ K) (y1 : d1.size ≤ K) :
  Calls Tryz.prog 41 #[(Bo n0 s0 d0), (Bo n1 s1 d1)] w (Re w (qI (Gh n0 s0 d0 + Gh n1 s1 d1))) := by
 obtain ⟨nf, sf, hf, hok, hsz, hz, hnat, hneg, hstr, hnn, hfn⟩ := Bbi
 obtain ⟨nq, sq, dq, hq, -⟩ := Us
 have bx : Bd (Cq n0 s0 * Cq false d1) (K + K) := (E9 z0).mul (E9 y1)
 have bY : Bd (Cq n1 s1 * Cq false d0) (K + K) := (E9 z1).mul (E9 y0)
 have h0 := fun w1 => R7 n0 n1 s0 s1 w1 (by omega) (by omega)
 have h1 := fun w1 => F6 n0 false s0 d1 w1 (by omega) (by omega)
 have h2 := fun w1 => F6 n1 false s1 d0 w1 (by omega) (by omega)
 have h3 := fun w1 => R7 (nf (Cq n0 s0 * Cq false d1)) (nf (Cq n1 s1 * Cq false d0)) (sf (Cq n0 s0 * Cq false d1)) (sf (Cq n1 s1 * Cq false d0)) w1 (Jf (hsz _ _ bx) (by omega)) (Jf (hsz _ _ bY) (by omega))
 have h4 := fun w1 => F6 false false d0 d1 w1 (by omega) (by omega)
 have key : Gh n0 s0 d0 + Gh n1 s1 d1 = Rat.divInt (Cq n0 s0 * Cq false d1 + Cq n1 s1 * Cq false d0) (Cq false d0 * Cq false d1) := by
  have p0 := o0.2.2.1
  have p1 := o1.2.2.1
  unfold Gh
  rw [Rat.mkRat_add_mkRat _ _ (by omega) (by omega), Dh, Dh, ← Int.natCast_mul, Rat.divInt_ofNat]
 have hp : 0 < Bc (sf (Cq false d0 * Cq false d1)) := by
  rw [Dh, Dh, ← Int.natCast_mul, hnn]
  exact Nat.mul_pos o0.2.2.1 o1.2.2.1
 have hl := fun w1 => M7 (nf (Cq n0 s0 * Cq false d1 + Cq n1 s1 * Cq false d0)) (nf (Cq false d0 * Cq false d1)) (sf (Cq n0 s0 * Cq false d1 + Cq n1 s1 * Cq false d0)) (sf (Cq false d0 * Cq false d1)) w1 (hok _) (hok _) (Jf (hsz _ _ (bx.add bY)) (by omega)) (Jf (hsz _ _ ((E9 y0).mul (E9 y1))) (by omega)) hp
 rw [key]
 simp only [hz] at h3
 simp only [hf] at h0 h1 h2 h3 h4
 simp only [hz, hq] at hl
 rw [hq]
 cases e0 : (d0.toList == [1]) with
 | false => exact Tx n0 n1 _ _ _ _ _ s0 d0 s1 d1 _ _ _ _ _ _ e0 w h1 h2 h3 h4 hl
 | true =>
  cases e1 : (d1.toList == [1]) with
  | false => exact Tw n0 n1 _ _ _ _ _ s0 d0 s1 d1 _ _ _ _ _ _ e0 e1 w h1 h2 h3 h4 hl
  | true =>
   rw [← hq, Dh, Dh, Qi e0, Qi e1, show ((1 : Nat) : Int) * ((1 : Nat) : Int) = 1 from rfl, show Cq n0 s0 * ((1 : Nat) : Int) + Cq n1 s1 * ((1 : Nat) : Int) = Cq n0 s0 + Cq n1 s1 from by omega, Bb5, Ba5 _ (hf _)]
   exact Xv n0 n1 _ s0 s1 _ d0 d1 e0 e1 w h0
theorem Ban (n : Bool) (s d : ByteArray) (o : On n s d) : ∃ m, On m s d ∧ Gh m s d = -Gh n s d ∧ ∀ w, Calls Tryz.prog 140 #[(Bo n s d)] w (Re w ((Bo m s d))) := by
 obtain ⟨m, h1, h2, h3⟩ := Wc n s o.1
 refine ⟨m, ⟨h2, o.2⟩, ?_, fun w => T7 n m s d s w h3⟩
 unfold Gh
 rw [h1, Rat.neg_mkRat]
theorem Ub (n0 n1 : Bool) (s0 d0 s1 d1 : ByteArray) (w : World) (o0 : On n0 s0 d0) (o1 : On n1 s1 d1) {K : Nat} (hK : K ≤ 4000) (z0 : s0.size ≤ K) (y0 : d0.size ≤ K) (z1 : s1.size ≤ K) (y1 : d1.size ≤ K) :
  Calls Tryz.prog 80 #[(Bo n0 s0 d0), (Bo n1 s1 d1)] w (Re w (qI (Gh n0 s0 d0 - Gh n1 s1 d1))) := by
 obtain ⟨m, om, em, hm⟩ := Ban n1 s1 d1 o1
 obtain ⟨nq, sq, dq, hq, -⟩ := Us
 have h2 := fun w1 => Pc n0 m s0 d0 s1 d1 w1 o0 om hK z0 y0 z1 y1
 rw [em, ← Rat.sub_eq_add_neg] at h2
 rw [hq]
 simp only [hq] at h2
 exact Uc n0 n1 m _ s0 d0 s1 d1 s1 d1 _ _ w hm h2
open Go.RowKit Go.Shelf
theorem Qb (n0 n1 xN yN rN : Bool) (s0 d0 s1 d1 xS yS rS rD : ByteArray) (h : (d0.toList == [1]) = false) (w : World)
  (H1 : Hid (∀ w1, Calls Tryz.prog 74 #[.agg #[Iz n0, I s0], .agg #[Iz n1, I s1]] w1 (Re w1 (.agg #[Iz xN, I xS]))))
  (H2 : Hid (∀ w1, Calls Tryz.prog 74 #[.agg #[Iz false, I d0], .agg #[Iz false, I d1]] w1 (Re w1 (.agg #[Iz yN, I yS]))))
  (H3 : Hid (∀ w1, Calls Tryz.prog 57 #[.agg #[Iz xN, I xS], .agg #[Iz yN, I yS]] w1 (Re w1 ((Bo rN rS rD))))) :
  Calls Tryz.prog 36 #[(Bo n0 s0 d0), (Bo n1 s1 d1)] w (Re w ((Bo rN rS rD))) := by
 go_enter Tryz.func36, Tryz.ntmps36
 go_wp2_with fail
 obtain ⟨w1, hw, ka, kb, kr, b1⟩ := K9 w (Bx n0 s0 d0) (Bx n1 s1 d1) (Bx false eB eB) 26 26 26
 rw [← hw]
 clear hw
 have sz := b1.size
 have ta := ka.lt
 have tb := kb.lt
 have tr := kr.lt
 have bb := b1
 clear b1
 obtain ⟨ca_0, ca_1, ca_2⟩ := Ch ka
 obtain ⟨cb_3, cb_4, cb_5⟩ := Ch kb
 go_wp2_with fail
 clear ca_0 ca_1 ca_2 cb_3 cb_4 cb_5
 have qa : w.heap.size ≠ w.heap.size + 1 + 1 := by omega
 have qb : w.heap.size + 1 ≠ w.heap.size + 1 + 1 := by omega
 go_region_held3 (fun w' => Gy w' w.heap.size (Iz n0) (I s0) (I d0) ∧ Gy w' (w.heap.size + 1) (Iz n1) (I s1) (I d1)) (first | exact ⟨Ch ka, Ch kb⟩ | exact ⟨Ch (Be.w (Be.w (Be.w ka qa 0 _) qa 1 _) qa 2 _), Ch (Be.w (Be.w (Be.w kb qb 0 _) qb 1 _) qb 2 _)⟩) (first | (go_at_call 74; go_fit (H1.out _); rintro e wn ⟨rfl, bn⟩; replace ka := ka.b (un bn); replace kb := kb.b (un bn); replace kr := kr.b (un bn); replace bb := Ia bb (un bn)) | (go_at_call 75; go_fit (Em _ _ _ _); rintro e wn ⟨rfl, bn⟩; replace ka := ka.b (un bn); replace kb := kb.b (un bn); replace kr := kr.b (un bn); replace bb := Ia bb (un bn)) | (go_at_call 74; go_fit (H2.out _); rintro e wn ⟨rfl, bn⟩; replace ka := ka.b (un bn); replace kb := kb.b (un bn); replace kr := kr.b (un bn); replace bb := Ia bb (un bn)) | (go_at_call 57; go_fit (H3.out _); rintro e wn ⟨rfl, bn⟩; replace ka := ka.b (un bn); replace kb := kb.b (un bn); replace kr := kr.b (un bn); replace bb := Ia bb (un bn); have e0 := Ey kr; have f0 := Be.o kr 0; have e1 := Ex kr; have f1 := Be.o kr 1; have e2 := Dk kr; have f2 := Be.o kr 2))
 go_wp2
 exact Cu (p := 4) (by kernel_rfl) rfl rfl (((kr.set 0 _).set 1 _).set 2 _) ⟨rfl, Bi (Bi (Bi bb (by omega) 0 _) (by omega) 1 _) (by omega) 2 _⟩
theorem Qa (n0 n1 xN yN rN : Bool) (s0 d0 s1 d1 xS yS rS rD : ByteArray) (h0 : (d0.toList == [1]) = true) (h : (d1.toList == [1]) = false) (w : World)
  (H1 : Hid (∀ w1, Calls Tryz.prog 74 #[.agg #[Iz n0, I s0], .agg #[Iz n1, I s1]] w1 (Re w1 (.agg #[Iz xN, I xS]))))
  (H2 : Hid (∀ w1, Calls Tryz.prog 74 #[.agg #[Iz false, I d0], .agg #[Iz false, I d1]] w1 (Re w1 (.agg #[Iz yN, I yS]))))
  (H3 : Hid (∀ w1, Calls Tryz.prog 57 #[.agg #[Iz xN, I xS], .agg #[Iz yN, I yS]] w1 (Re w1 ((Bo rN rS rD))))) :
  Calls Tryz.prog 36 #[(Bo n0 s0 d0), (Bo n1 s1 d1)] w (Re w ((Bo rN rS rD))) := by
 go_enter Tryz.func36, Tryz.ntmps36
 go_wp2_with fail
 obtain ⟨w1, hw, ka, kb, kr, b1⟩ := K9 w (Bx n0 s0 d0) (Bx n1 s1 d1) (Bx false eB eB) 26 26 26
 rw [← hw]
 clear hw
 have sz := b1.size
 have ta := ka.lt
 have tb := kb.lt
 have tr := kr.lt
 have bb := b1
 clear b1
 obtain ⟨ca_0, ca_1, ca_2⟩ := Ch ka
 obtain ⟨cb_3, cb_4, cb_5⟩ := Ch kb
 go_wp2_with fail
 clear ca_0 ca_1 ca_2 cb_3 cb_4 cb_5
 have qa : w.heap.size ≠ w.heap.size + 1 + 1 := by omega
 have qb : w.heap.size + 1 ≠ w.heap.size + 1 + 1 := by omega
 go_region_held3 (fun w' => Gy w' w.heap.size (Iz n0) (I s0) (I d0) ∧ Gy w' (w.heap.size + 1) (Iz n1) (I s1) (I d1)) (first | exact ⟨Ch ka, Ch kb⟩ | exact ⟨Ch (Be.w (Be.w (Be.w ka qa 0 _) qa 1 _) qa 2 _), Ch (Be.w (Be.w (Be.w kb qb 0 _) qb 1 _) qb 2 _)⟩) (first | (go_at_call 74; go_fit (H1.out _); rintro e wn ⟨rfl, bn⟩; replace ka := ka.b (un bn); replace kb := kb.b (un bn); replace kr := kr.b (un bn); replace bb := Ia bb (un bn)) | (go_at_call 75; go_fit (Em _ _ _ _); rintro e wn ⟨rfl, bn⟩; replace ka := ka.b (un bn); replace kb := kb.b (un bn); replace kr := kr.b (un bn); replace bb := Ia bb (un bn)) | (go_at_call 74; go_fit (H2.out _); rintro e wn ⟨rfl, bn⟩; replace ka := ka.b (un bn); replace kb := kb.b (un bn); replace kr := kr.b (un bn); replace bb := Ia bb (un bn)) | (go_at_call 57; go_fit (H3.out _); rintro e wn ⟨rfl, bn⟩; replace ka := ka.b (un bn); replace kb := kb.b (un bn); replace kr := kr.b (un bn); replace bb := Ia bb (un bn); have e0 := Ey kr; have f0 := Be.o kr 0; have e1 := Ex kr; have f1 := Be.o kr 1; have e2 := Dk kr; have f2 := Be.o kr 2))
 go_wp2
 exact Cu (p := 4) (by kernel_rfl) rfl rfl (((kr.set 0 _).set 1 _).set 2 _) ⟨rfl, Bi (Bi (Bi bb (by omega) 0 _) (by omega) 1 _) (by omega) 2 _⟩
open Go.RowKit Go.Shelf
theorem Rz (n0 n1 xN : Bool) (s0 s1 xS d0 d1 : ByteArray) (h0 : (d0.toList == [1]) = true) (h : (d1.toList == [1]) = true) (w : World)
  (H1 : Hid (∀ w1, Calls Tryz.prog 74 #[.agg #[Iz n0, I s0], .agg #[Iz n1, I s1]] w1 (Re w1 (.agg #[Iz xN, I xS])))) :
  Calls Tryz.prog 36 #[(Bo n0 s0 d0), (Bo n1 s1 d1)] w (Re w ((Bo xN xS ⟨#[1]⟩))) := by
 go_enter Tryz.func36, Tryz.ntmps36
 go_wp2_with fail
 obtain ⟨w1, hw, ka, kb, kr, b1⟩ := K9 w (Bx n0 s0 d0) (Bx n1 s1 d1) (Bx false eB eB) 26 26 26
 rw [← hw]
 clear hw
 have sz := b1.size
 have ta := ka.lt
 have tb := kb.lt
 have tr := kr.lt
 have bb := b1
 clear b1
 obtain ⟨ca_0, ca_1, ca_2⟩ := Ch ka
 obtain ⟨cb_3, cb_4, cb_5⟩ := Ch kb
 go_wp2_with fail
 clear ca_0 ca_1 ca_2 cb_3 cb_4 cb_5
 go_fit (H1.out _)
 rintro e w2 ⟨rfl, b1⟩
 have sz := b1.size
 replace ka := ka.b b1
 replace kb := kb.b b1
 replace kr := kr.b b1
 replace bb := Ia bb b1
 clear b1
 have cr_0 := Ey kr
 have fr_1 := Be.o kr 0
 have cr_2 := Ex kr
 have fr_3 := Be.o kr 1
 have cr_4 := Dk kr
 have fr_5 := Be.o kr 2
 go_wp2
 exact Cu (p := 4) (by kernel_rfl) rfl rfl (((kr.set 0 _).set 1 _).set 2 _) ⟨rfl, Bi (Bi (Bi bb (by omega) 0 _) (by omega) 1 _) (by omega) 2 _⟩
theorem Ry (n0 n1 : Bool) (s0 d0 s1 d1 : ByteArray) (w : World) (o0 : On n0 s0 d0) (o1 : On n1 s1 d1) {K : Nat} (hK : K ≤ 4000) (z0 : s0.size ≤ K) (y0 : d0.size ≤ K) (z1 : s1.size ≤ K) (y1 : d1.size ≤ K) :
  Calls Tryz.prog 36 #[(Bo n0 s0 d0), (Bo n1 s1 d1)] w (Re w (qI (Gh n0 s0 d0 * Gh n1 s1 d1))) := by
 obtain ⟨nf, sf, hf, hok, hsz, hz, hnat, hneg, hstr, hnn, hfn⟩ := Bbi
 obtain ⟨nq, sq, dq, hq, -⟩ := Us
 have h1 := fun w1 => F6 n0 n1 s0 s1 w1 (by omega) (by omega)
 have h2 := fun w1 => F6 false false d0 d1 w1 (by omega) (by omega)
 have key : Gh n0 s0 d0 * Gh n1 s1 d1 = Rat.divInt (Cq n0 s0 * Cq n1 s1) (Cq false d0 * Cq false d1) := by
  unfold Gh
  rw [Dh, Dh, ← Rat.divInt_mul_divInt, ← Rat.divInt_ofNat, ← Rat.divInt_ofNat]
 have hp : 0 < Bc (sf (Cq false d0 * Cq false d1)) := by
  rw [Dh, Dh, ← Int.natCast_mul, hnn]
  exact Nat.mul_pos o0.2.2.1 o1.2.2.1
 have hl := fun w1 => M7 (nf (Cq n0 s0 * Cq n1 s1)) (nf (Cq false d0 * Cq false d1)) (sf (Cq n0 s0 * Cq n1 s1)) (sf (Cq false d0 * Cq false d1)) w1 (hok _) (hok _) (Jf (hsz _ _ ((E9 z0).mul (E9 z1))) (by omega)) (Jf (hsz _ _ ((E9 y0).mul (E9 y1))) (by omega)) hp
 rw [key]
 simp only [hf] at h1 h2
 simp only [hz, hq] at hl
 rw [hq]
 cases e0 : (d0.toList == [1]) with
 | false => exact Qb n0 n1 _ _ _ s0 d0 s1 d1 _ _ _ _ e0 w h1 h2 hl
 | true =>
  cases e1 : (d1.toList == [1]) with
  | false => exact Qa n0 n1 _ _ _ s0 d0 s1 d1 _ _ _ _ e0 e1 w h1 h2 hl
  | true =>
   rw [← hq, Dh, Dh, Qi e0, Qi e1, show ((1 : Nat) : Int) * ((1 : Nat) : Int) = 1 from rfl, show Rat.divInt (Cq n0 s0 * Cq n1 s1) 1 = ((Cq n0 s0 * Cq n1 s1 : Int) : Rat) from (by first | (rw [show (1 : Int) = ((1 : Nat) : Int) from rfl, Rat.divInt_ofNat, Rat.mkRat_one]) | (rw [show (1 : Int) = ((1 : Nat) : Int) from rfl, Rat.divInt_ofNat]; exact Rat.ext (Q.mk_low (by omega) (by simp)).1 (Q.mk_low (by omega) (by simp)).2)), Ba5 _ (hf _)]
   exact Rz n0 n1 _ s0 s1 _ d0 d1 e0 e1 w h1
end Go.Proofs.YtnplifkgeeicjaaGreatDoor
