/-
  gussetref03: Lowest, where the divisor is below 0; Lowest, of any.
  gussetref03: Sign, Over, Times.
-/
import Derived.Test.YtafikdacdfkkhaaGreatDoorG36
namespace Go.Proofs.YtafikdacdfkkhaaGreatDoor
open Go.RowKit Go.Shelf

set_option maxRecDepth 100000 in
set_option maxHeartbeats 8000000 in
theorem low_ncut (n0 m0 gN : Bool) (s0 s1 gS : ByteArray) (w : World) (hg : (gS.toList == [1]) = false) (z0 : s0.size ≤ 20000) (z1 : s1.size ≤ 20000) (zg : gS.size ≤ 20000) (hG : 0 < natOf gS)
  (H1 : Hid (∀ w1, Calls Tryz.prog 62 #[.agg #[.bool n0, .string s0], .agg #[.bool true, .string s1]] w1 fun e w' => e = .returned (.agg #[.bool gN, .string gS]) ∧ Below w1.heap.size w1 w'))
  (H2 : Hid (∀ w1, Calls Tryz.prog 139 #[.agg #[.bool n0, .string s0]] w1 fun e w' => e = .returned (.agg #[.bool m0, .string s0]) ∧ Below w1.heap.size w1 w'))
  (H3 : Hid (∀ w1, Calls Tryz.prog 139 #[.agg #[.bool true, .string s1]] w1 fun e w' => e = .returned (.agg #[.bool false, .string s1]) ∧ Below w1.heap.size w1 w')) :
  Calls Tryz.prog 107 #[.agg #[.bool n0, .string s0], .agg #[.bool true, .string s1]] w fun e w' => e = .returned (.agg #[.bool m0, .string (strOf (natOf s0 / natOf gS)), .string (strOf (natOf s1 / natOf gS))]) ∧ Below w.heap.size w w' := by
 have HD0 := shut (fun v0 v1 w r0 r1 => rdivN (s := s0) (g := gS) z0 zg hG v0 v1 w r0 r1)
 have HD1 := shut (fun v0 v1 w r0 r1 => rdivN (s := s1) (g := gS) z1 zg hG v0 v1 w r0 r1)
 have HN0 := shut (fun v w r => natN (s := s0) (g := natOf gS) z0 v w r)
 have HN1 := shut (fun v w r => natN (s := s1) (g := natOf gS) z1 v w r)
 clear hG
 generalize strOf (natOf s0 / natOf gS) = S at *
 generalize strOf (natOf s1 / natOf gS) = D at *
 go_enter Tryz.func107, Tryz.ntmps107
 go_wp2_with fail
 go_fit (H1.out _)
 rintro e w1 ⟨rfl, b1⟩
 obtain ⟨ka, kb, kr, bb⟩ := al3 b1
 clear b1
 have c2 := cel2_0' (kb.alloc (.cells #[.bool gN, .string gS] 24))
 have c3 := cel2_1' (kb.alloc (.cells #[.bool gN, .string gS] 24))
 have c0 := cel2_0' (ka.alloc (.cells #[.bool gN, .string gS] 24))
 have c1 := cel2_1' (ka.alloc (.cells #[.bool gN, .string gS] 24))
 go_wp2_with fail
 clear c0 c1 c2 c3
 have t0 := kr.lt
 go_fit (H2.out _)
 rintro e w2 ⟨rfl, b1⟩
 obtain ⟨kg, b1⟩ := al1 b1
 replace ka := ka.below b1
 replace kb := kb.below b1
 replace kr := kr.below b1
 replace bb := Below.after bb b1
 clear b1
 obtain ⟨w3, hw⟩ : ∃ x, x = (w2.setCell ⟨w.heap.size, 0, none⟩ (.bool m0)).setCell ⟨w.heap.size, 1, none⟩ (.string s0) := ⟨_, rfl⟩
 have kb1 := Cel.other (g' := w.heap.size) (Cel.other (g' := w.heap.size) kb (by omega) 0 (.bool m0)) (by omega) 1 (.string s0)
 have kr1 := Cel.other (g' := w.heap.size) (Cel.other (g' := w.heap.size) kr (by omega) 0 (.bool m0)) (by omega) 1 (.string s0)
 have kg1 := Cel.other (g' := w.heap.size) (Cel.other (g' := w.heap.size) kg (by omega) 0 (.bool m0)) (by omega) 1 (.string s0)
 have ka1 := (ka.set 0 (.bool m0)).set 1 (.string s0)
 have bb1 := bset (g := w.heap.size) (bset (g := w.heap.size) bb (by omega) 0 (.bool m0)) (by omega) 1 (.string s0)
 have c0 := cel2_0' ka
 have c1 := cel2_1' ka
 have f0 := ka.frozen 0
 have f1 := ka.frozen 1
 have c2 := cel2_0' kb1
 have c3 := cel2_1' kb1
 have tt := t0
 clear t0
 go_wp2_with fail
 rw [← hw]
 rw [← hw] at ka1 kb1 kr1 kg1 bb1
 clear hw c0 c1 f0 f1 c2 c3 ka kb kr kg bb
 go_fit (H3.out _)
 rintro e w4 ⟨rfl, b1⟩
 have ka := ka1.below b1
 have kb := kb1.below b1
 have kr := kr1.below b1
 have kg := kg1.below b1
 have bb := Below.after bb1 b1
 clear b1 ka1 kb1 kr1 kg1 bb1
 obtain ⟨w5, hw⟩ : ∃ x, x = (w4.setCell ⟨w.heap.size + 1, 0, none⟩ (.bool false)).setCell ⟨w.heap.size + 1, 1, none⟩ (.string s1) := ⟨_, rfl⟩
 have ka1 := Cel.other (g' := w.heap.size + 1) (Cel.other (g' := w.heap.size + 1) ka (by omega) 0 (.bool false)) (by omega) 1 (.string s1)
 have kr1 := Cel.other (g' := w.heap.size + 1) (Cel.other (g' := w.heap.size + 1) kr (by omega) 0 (.bool false)) (by omega) 1 (.string s1)
 have kg1 := Cel.other (g' := w.heap.size + 1) (Cel.other (g' := w.heap.size + 1) kg (by omega) 0 (.bool false)) (by omega) 1 (.string s1)
 have kb1 := (kb.set 0 (.bool false)).set 1 (.string s1)
 have bb1 := bset (g := w.heap.size + 1) (bset (g := w.heap.size + 1) bb (by omega) 0 (.bool false)) (by omega) 1 (.string s1)
 have c0 := cel2_0' kb
 have c1 := cel2_1' kb
 have f0 := kb.frozen 0
 have f1 := kb.frozen 1
 have c2 := cel2_0' kg1
 have c3 := cel2_1' kg1
 go_wp2_with fail
 rw [← hw]
 rw [← hw] at ka1 kb1 kr1 kg1 bb1
 clear hw c0 c1 f0 f1 c2 c3 ka kb kr kg bb
 have ka := ka1
 have kb := kb1
 have kr := kr1
 have kg := kg1
 have bb := bb1
 clear ka1 kb1 kr1 kg1 bb1
 go_region_held3 (fun w' => w'.cell? ⟨w.heap.size, 0, none⟩ = some (.bool m0) ∧ w'.cell? ⟨w.heap.size, 1, none⟩ = some (.string s0) ∧ w'.cell? ⟨w1.heap.size, 0, none⟩ = some (.bool gN) ∧ w'.cell? ⟨w1.heap.size, 1, none⟩ = some (.string gS)) (exact ⟨cel2_0' ka, cel2_1' ka, cel2_0' kg, cel2_1' kg⟩) (first | (go_at_call 140; refine (HD0.out _ _ _ rx ry).mono ?_; rintro e wn ⟨vq, vr, rfl, rq, rr, bn⟩; obtain ⟨aq, cq, rfl, -, -⟩ := id rq; obtain ⟨ar, cr, rfl, -, -⟩ := id rr; replace ka := ka.below bn; replace kb := kb.below bn; replace kr := kr.below bn; replace kg := kg.below bn; replace bb := Below.after bb bn; clear bn) | (go_at_call 111; go_fit (dig_any s0 _ (by omega)); rintro e wn ⟨vx, rfl, rx, bn⟩; obtain ⟨ax, cx, rfl, -, -⟩ := id rx; replace ka := ka.below ⟨bn.os, bn.tape, bn.output, bn.size, bn.block⟩; replace kb := kb.below ⟨bn.os, bn.tape, bn.output, bn.size, bn.block⟩; replace kr := kr.below ⟨bn.os, bn.tape, bn.output, bn.size, bn.block⟩; replace kg := kg.below ⟨bn.os, bn.tape, bn.output, bn.size, bn.block⟩; replace bb := Below.after bb ⟨bn.os, bn.tape, bn.output, bn.size, bn.block⟩; clear bn) | (go_at_call 111; go_fit (dig_any gS _ (by omega)); rintro e wn ⟨vy, rfl, ry, bn⟩; obtain ⟨ay, cy, rfl, -, -⟩ := id ry; replace rx := rx.below bn; replace ka := ka.below bn; replace kb := kb.below bn; replace kr := kr.below bn; replace kg := kg.below bn; replace bb := Below.after bb bn; clear bn))
 go_wp2_with fail
 clear rx ry rr
 go_region_held3 (fun w' => w'.cell? ⟨w.heap.size + 1, 0, none⟩ = some (.bool false) ∧ w'.cell? ⟨w.heap.size + 1, 1, none⟩ = some (.string s1) ∧ w'.cell? ⟨w1.heap.size, 0, none⟩ = some (.bool gN) ∧ w'.cell? ⟨w1.heap.size, 1, none⟩ = some (.string gS)) (exact ⟨cel2_0' kb, cel2_1' kb, cel2_0' kg, cel2_1' kg⟩) (first | (go_at_call 140; refine (HD1.out _ _ _ rx ry).mono ?_; rintro e wn ⟨vp, vr, rfl, rp, rr, bn⟩; obtain ⟨ap, cp, rfl, -, -⟩ := id rp; obtain ⟨ar, cr, rfl, -, -⟩ := id rr; replace rq := rq.below bn; replace ka := ka.below bn; replace kb := kb.below bn; replace kr := kr.below bn; replace kg := kg.below bn; replace bb := Below.after bb bn; clear bn) | (go_at_call 111; go_fit (dig_any s1 _ (by omega)); rintro e wn ⟨vx, rfl, rx, bn⟩; obtain ⟨ax, cx, rfl, -, -⟩ := id rx; replace rq := rq.below ⟨bn.os, bn.tape, bn.output, bn.size, bn.block⟩; replace ka := ka.below ⟨bn.os, bn.tape, bn.output, bn.size, bn.block⟩; replace kb := kb.below ⟨bn.os, bn.tape, bn.output, bn.size, bn.block⟩; replace kr := kr.below ⟨bn.os, bn.tape, bn.output, bn.size, bn.block⟩; replace kg := kg.below ⟨bn.os, bn.tape, bn.output, bn.size, bn.block⟩; replace bb := Below.after bb ⟨bn.os, bn.tape, bn.output, bn.size, bn.block⟩; clear bn) | (go_at_call 111; go_fit (dig_any gS _ (by omega)); rintro e wn ⟨vy, rfl, ry, bn⟩; obtain ⟨ay, cy, rfl, -, -⟩ := id ry; replace rx := rx.below bn; replace rq := rq.below bn; replace ka := ka.below bn; replace kb := kb.below bn; replace kr := kr.below bn; replace kg := kg.below bn; replace bb := Below.after bb bn; clear bn))
 go_wp2_with fail
 clear rx ry rr
 have qa : w.heap.size ≠ w.heap.size + 1 + 1 := by omega
 go_region_held3 (fun w' => w'.cell? ⟨w.heap.size, 0, none⟩ = some (.bool m0) ∧ w'.cell? ⟨w.heap.size, 1, none⟩ = some (.string s0)) (first | exact ⟨cel2_0' ka, cel2_1' ka⟩ | exact ⟨cel2_0' (Cel.other (Cel.other (Cel.other ka qa 0 _) qa 1 _) qa 2 _), cel2_1' (Cel.other (Cel.other (Cel.other ka qa 0 _) qa 1 _) qa 2 _)⟩) (first | (go_at_call 141; go_fit (HN0.out _ _ ?_); (first | exact rq | exact rq.drew); rintro e wn ⟨rfl, bn⟩; replace rp := rp.below ⟨bn.os, bn.tape, bn.output, bn.size, bn.block⟩; replace ka := ka.below ⟨bn.os, bn.tape, bn.output, bn.size, bn.block⟩; replace kb := kb.below ⟨bn.os, bn.tape, bn.output, bn.size, bn.block⟩; replace kr := kr.below ⟨bn.os, bn.tape, bn.output, bn.size, bn.block⟩; replace kg := kg.below ⟨bn.os, bn.tape, bn.output, bn.size, bn.block⟩; replace bb := Below.after bb ⟨bn.os, bn.tape, bn.output, bn.size, bn.block⟩; clear bn) | (go_at_call 141; go_fit (HN1.out _ _ ?_); exact rp; rintro e wn ⟨rfl, bn⟩; replace ka := ka.below bn; replace kb := kb.below bn; replace kr := kr.below bn; replace kg := kg.below bn; replace bb := Below.after bb bn; clear bn; have e0 := cel3_0 kr; have e1 := cel3_1 kr; have e2 := cel3_2 kr; have f0 := kr.frozen 0; have f1 := kr.frozen 1; have f2 := kr.frozen 2))
 go_wp2
 exact post_q (p := 4) (by kernel_rfl) rfl rfl (((kr.set 0 _).set 1 _).set 2 _) ⟨rfl, bset (bset (bset bb (by omega) 0 _) (by omega) 1 _) (by omega) 2 _⟩
set_option maxRecDepth 100000 in
set_option maxHeartbeats 8000000 in
theorem low_none (n0 m0 gN : Bool) (s0 s1 gS : ByteArray) (w : World) (hg : (gS.toList == [1]) = true)
  (H1 : Hid (∀ w1, Calls Tryz.prog 62 #[.agg #[.bool n0, .string s0], .agg #[.bool true, .string s1]] w1 fun e w' => e = .returned (.agg #[.bool gN, .string gS]) ∧ Below w1.heap.size w1 w'))
  (H2 : Hid (∀ w1, Calls Tryz.prog 139 #[.agg #[.bool n0, .string s0]] w1 fun e w' => e = .returned (.agg #[.bool m0, .string s0]) ∧ Below w1.heap.size w1 w'))
  (H3 : Hid (∀ w1, Calls Tryz.prog 139 #[.agg #[.bool true, .string s1]] w1 fun e w' => e = .returned (.agg #[.bool false, .string s1]) ∧ Below w1.heap.size w1 w')) :
  Calls Tryz.prog 107 #[.agg #[.bool n0, .string s0], .agg #[.bool true, .string s1]] w fun e w' => e = .returned (.agg #[.bool m0, .string s0, .string s1]) ∧ Below w.heap.size w w' := by
 go_enter Tryz.func107, Tryz.ntmps107
 go_wp2_with fail
 go_fit (H1.out _)
 rintro e w1 ⟨rfl, b1⟩
 obtain ⟨ka, kb, kr, bb⟩ := al3 b1
 clear b1
 have c2 := cel2_0' (kb.alloc (.cells #[.bool gN, .string gS] 24))
 have c3 := cel2_1' (kb.alloc (.cells #[.bool gN, .string gS] 24))
 have c0 := cel2_0' (ka.alloc (.cells #[.bool gN, .string gS] 24))
 have c1 := cel2_1' (ka.alloc (.cells #[.bool gN, .string gS] 24))
 go_wp2_with fail
 clear c0 c1 c2 c3
 have t0 := kr.lt
 go_fit (H2.out _)
 rintro e w2 ⟨rfl, b1⟩
 obtain ⟨kg, b1⟩ := al1 b1
 replace ka := ka.below b1
 replace kb := kb.below b1
 replace kr := kr.below b1
 replace bb := Below.after bb b1
 clear b1
 obtain ⟨w3, hw⟩ : ∃ x, x = (w2.setCell ⟨w.heap.size, 0, none⟩ (.bool m0)).setCell ⟨w.heap.size, 1, none⟩ (.string s0) := ⟨_, rfl⟩
 have kb1 := Cel.other (g' := w.heap.size) (Cel.other (g' := w.heap.size) kb (by omega) 0 (.bool m0)) (by omega) 1 (.string s0)
 have kr1 := Cel.other (g' := w.heap.size) (Cel.other (g' := w.heap.size) kr (by omega) 0 (.bool m0)) (by omega) 1 (.string s0)
 have kg1 := Cel.other (g' := w.heap.size) (Cel.other (g' := w.heap.size) kg (by omega) 0 (.bool m0)) (by omega) 1 (.string s0)
 have ka1 := (ka.set 0 (.bool m0)).set 1 (.string s0)
 have bb1 := bset (g := w.heap.size) (bset (g := w.heap.size) bb (by omega) 0 (.bool m0)) (by omega) 1 (.string s0)
 have c0 := cel2_0' ka
 have c1 := cel2_1' ka
 have f0 := ka.frozen 0
 have f1 := ka.frozen 1
 have c2 := cel2_0' kb1
 have c3 := cel2_1' kb1
 have tt := t0
 clear t0
 go_wp2_with fail
 rw [← hw]
 rw [← hw] at ka1 kb1 kr1 kg1 bb1
 clear hw c0 c1 f0 f1 c2 c3 ka kb kr kg bb
 go_fit (H3.out _)
 rintro e w4 ⟨rfl, b1⟩
 have ka := ka1.below b1
 have kb := kb1.below b1
 have kr := kr1.below b1
 have kg := kg1.below b1
 have bb := Below.after bb1 b1
 clear b1 ka1 kb1 kr1 kg1 bb1
 obtain ⟨w5, hw⟩ : ∃ x, x = (w4.setCell ⟨w.heap.size + 1, 0, none⟩ (.bool false)).setCell ⟨w.heap.size + 1, 1, none⟩ (.string s1) := ⟨_, rfl⟩
 have ka1 := Cel.other (g' := w.heap.size + 1) (Cel.other (g' := w.heap.size + 1) ka (by omega) 0 (.bool false)) (by omega) 1 (.string s1)
 have kr1 := Cel.other (g' := w.heap.size + 1) (Cel.other (g' := w.heap.size + 1) kr (by omega) 0 (.bool false)) (by omega) 1 (.string s1)
 have kg1 := Cel.other (g' := w.heap.size + 1) (Cel.other (g' := w.heap.size + 1) kg (by omega) 0 (.bool false)) (by omega) 1 (.string s1)
 have kb1 := (kb.set 0 (.bool false)).set 1 (.string s1)
 have bb1 := bset (g := w.heap.size + 1) (bset (g := w.heap.size + 1) bb (by omega) 0 (.bool false)) (by omega) 1 (.string s1)
 have c0 := cel2_0' kb
 have c1 := cel2_1' kb
 have f0 := kb.frozen 0
 have f1 := kb.frozen 1
 have c2 := cel2_0' kg1
 have c3 := cel2_1' kg1
 have e0 := cel2_0' ka1
 have e1 := cel2_1' ka1
 have e2 := cel2_0' kb1
 have e3 := cel2_1' kb1
 have r0 := cel3_0 kr1
 have r1 := cel3_1 kr1
 have r2 := cel3_2 kr1
 have g0 := kr1.frozen 0
 have g1 := kr1.frozen 1
 have g2 := kr1.frozen 2
 go_wp2
 exact post_q (p := 4) (by kernel_rfl) rfl rfl (((kr1.set 0 _).set 1 _).set 2 _) ⟨rfl, bset (bset (bset bb1 (by omega) 0 _) (by omega) 1 _) (by omega) 2 _⟩

set_option maxHeartbeats 1000000 in
theorem rneg_some (n : Bool) (s : ByteArray) (w : World) (hs : s.toList.isEmpty = false) :
  Calls Tryz.prog 139 #[.agg #[.bool n, .string s]] w fun e w' => e = .returned (.agg #[.bool (!n), .string s]) ∧ Below w.heap.size w w' := by
 cases n
 ·go_enter Tryz.func139, Tryz.ntmps139
  go_wp2
  obtain ⟨w0, hw, k0, k1, b⟩ := mk2 w [.bool false, .string s] [.bool true, .string s] 24 24
  rw [← hw]
  exact post_z (p := 2) (by kernel_rfl) rfl rfl k1 ⟨rfl, b⟩
 ·go_enter Tryz.func139, Tryz.ntmps139
  go_wp2
  obtain ⟨w0, hw, k0, k1, b⟩ := mk2 w [.bool true, .string s] [.bool false, .string s] 24 24
  rw [← hw]
  exact post_z (p := 2) (by kernel_rfl) rfl rfl k1 ⟨rfl, b⟩
set_option maxHeartbeats 1000000 in
theorem rneg_none (w : World) :
  Calls Tryz.prog 139 #[.agg #[.bool false, .string ByteArray.empty]] w fun e w' => e = .returned (.agg #[.bool false, .string ByteArray.empty]) ∧ Below w.heap.size w w' := by
 go_enter Tryz.func139, Tryz.ntmps139
 go_wp2
 obtain ⟨w0, hw, k0, k1, b⟩ := mk2 w [.bool false, .string ByteArray.empty] [.bool false, .string ByteArray.empty] 24 24
 rw [← hw]
 exact post_z (p := 2) (by kernel_rfl) rfl rfl k1 ⟨rfl, b⟩
/-- The negative, in its one form. -/
theorem rneg_ok (n : Bool) (s : ByteArray) (o : OkZ n s) : ∃ m, zOf m s = -zOf n s ∧ OkZ m s ∧ ∀ w, Calls Tryz.prog 139 #[.agg #[.bool n, .string s]] w fun e w' => e = .returned (.agg #[.bool m, .string s]) ∧ Below w.heap.size w w' := by
 by_cases hs : 0 < s.size
 ·exact ⟨!n, by cases n <;> simp [zOf], ⟨o.1, fun _ => hs⟩, fun w => rneg_some n s w (by simpa using toList_ne hs)⟩
 ·have g3 : s = ByteArray.empty := ByteArray.size_eq_zero_iff.1 (by omega)
  subst g3
  have hn : n = false := by
   cases n with
   | false => rfl
   | true => exact absurd (o.2 rfl) hs
  subst hn
  exact ⟨false, rfl, o, fun w => rneg_none w⟩
theorem zI_quot {n : Bool} {s : ByteArray} {G : Nat} (o : OkZ n s) (hG : 0 < G) (hd : G ∣ natOf s) : zI (zOf n s / (G : Int)) = .agg #[.bool n, .string (strOf (natOf s / G))] := by
 obtain ⟨k, hk⟩ := hd
 have hne : (G : Int) ≠ 0 := by omega
 have e : zOf n s / (G : Int) = if n then -(k : Int) else (k : Int) := by
  cases n with
  | false => rw [show zOf false s = (G : Int) * k by simp [zOf, hk], Int.mul_ediv_cancel_left _ hne]; rfl
  | true => rw [show zOf true s = (G : Int) * (-(k : Int)) by simp [zOf, hk, Int.mul_neg], Int.mul_ediv_cancel_left _ hne]; rfl
 rw [e, hk, Nat.mul_div_cancel_left k hG]
 cases n with
 | false => show zV (decide (((k : Nat) : Int) < 0)) (strOf ((k : Nat) : Int).natAbs) = _; rw [show decide (((k : Nat) : Int) < 0) = false by simp]; rfl
 | true =>
  have hp := natOf_pos o.1 (o.2 rfl)
  have hkp : 0 < k := Nat.pos_of_ne_zero fun e => by rw [e, Nat.mul_zero] at hk; omega
  show zV (decide (-((k : Nat) : Int) < 0)) (strOf (-((k : Nat) : Int)).natAbs) = _
  rw [show decide (-((k : Nat) : Int) < 0) = true by simp; omega, show (-((k : Nat) : Int)).natAbs = k by omega]
  rfl
/-- Lowest, of any two of which the second is not 0. -/
theorem low_any (n0 n1 : Bool) (s0 s1 : ByteArray) (w : World) (o0 : OkZ n0 s0) (o1 : OkZ n1 s1) (z0 : s0.size ≤ 20000) (z1 : s1.size ≤ 20000) (hp : 0 < natOf s1) :
  Calls Tryz.prog 107 #[.agg #[.bool n0, .string s0], .agg #[.bool n1, .string s1]] w fun e w' => e = .returned (qI (Rat.divInt (zOf n0 s0) (zOf n1 s1))) ∧ Below w.heap.size w w' := by
 obtain ⟨G, hG⟩ : ∃ G, G = Nat.gcd (natOf s0) (natOf s1) := ⟨_, rfl⟩
 have hGp : 0 < G := by rw [hG]; exact Nat.gcd_pos_of_pos_right _ hp
 have d0 : G ∣ natOf s0 := by rw [hG]; exact Nat.gcd_dvd_left _ _
 have hd : zOf n1 s1 ≠ 0 := fun e => by have := natAbs_zOf n1 s1; rw [e] at this; simp at this; omega
 have key := Q.make_low (zOf n0 s0) (zOf n1 s1) hd G (by rw [natAbs_zOf, natAbs_zOf]; exact hG)
 rw [natAbs_zOf] at key
 have H1 : Hid (∀ w1, Calls Tryz.prog 62 #[.agg #[.bool n0, .string s0], .agg #[.bool n1, .string s1]] w1 fun e w' => e = .returned (.agg #[.bool false, .string (strOf G)]) ∧ Below w1.heap.size w1 w') := by
  intro w1
  have := rcommon_any n0 n1 s0 s1 w1 (by omega) (by omega)
  rw [← hG] at this
  have e : zI ((G : Nat) : Int) = .agg #[.bool false, .string (strOf G)] := by
   show zV _ _ = _
   rw [Int.natAbs_natCast, show decide (((G : Nat) : Int) < 0) = false by simp]
   rfl
  rwa [e] at this
 have zG : (strOf G).size ≤ 20000 := by
  have hb : Bd (G : Int) s1.size := (bd_nat (Nat.le_refl _)).nat (by rw [hG]; exact Nat.le_of_dvd hp (Nat.gcd_dvd_right _ _))
  have := hb.size
  rw [Int.natAbs_natCast] at this
  omega
 have nG : natOf (strOf G) = G := natOf_strOf G
 cases n1 with
 | false =>
  rw [if_neg (show ¬ zOf false s1 < 0 by simp [zOf])] at key
  rw [qI_of key (zI_quot o0 hGp d0) rfl]
  by_cases hg : G = 1
  ·rw [hg, Nat.div_one, Nat.div_one, strOf_natOf o0.1, strOf_natOf o1.1]
   exact low_one n0 false s0 s1 (strOf G) w (eq1 (by rw [hg, strOf_one])) H1
  ·have := low_cut n0 false s0 s1 (strOf G) w (ne1 fun e => hg (by rw [← nG, e, natOf_one])) z0 z1 zG (by omega) H1
   rwa [nG] at this
 | true =>
  have hs0 : (if zOf true s1 < 0 then -zOf n0 s0 else zOf n0 s0) = -zOf n0 s0 := if_pos (by simp [zOf]; omega)
  rw [hs0] at key
  obtain ⟨m0, em, om, hm⟩ := rneg_ok n0 s0 o0
  rw [← em] at key
  rw [qI_of key (zI_quot om hGp d0) rfl]
  have H3 : Hid (∀ w1, Calls Tryz.prog 139 #[.agg #[.bool true, .string s1]] w1 fun e w' => e = .returned (.agg #[.bool false, .string s1]) ∧ Below w1.heap.size w1 w') := fun w1 => rneg_some true s1 w1 (isE hp)
  by_cases hg : G = 1
  ·rw [hg, Nat.div_one, Nat.div_one, strOf_natOf o0.1, strOf_natOf o1.1]
   exact low_none n0 m0 false s0 s1 (strOf G) w (eq1 (by rw [hg, strOf_one])) H1 hm H3
  ·have := low_ncut n0 m0 false s0 s1 (strOf G) w (ne1 fun e => hg (by rw [← nG, e, natOf_one])) z0 z1 zG (by omega) H1 hm H3
   rwa [nG] at this
end Go.Proofs.YtafikdacdfkkhaaGreatDoor
namespace Go.Proofs.YtafikdacdfkkhaaGreatDoor
open Go.RowKit Go.Shelf

set_option maxRecDepth 100000 in
set_option maxHeartbeats 4000000 in
theorem rover_walk (n0 n1 xN yN rN : Bool) (s0 d0 s1 d1 xS yS rS rD : ByteArray) (w : World)
  (H1 : Hid (∀ w1, Calls Tryz.prog 108 #[.agg #[.bool n0, .string s0], .agg #[.bool false, .string d1]] w1 fun e w' => e = .returned (.agg #[.bool xN, .string xS]) ∧ Below w1.heap.size w1 w'))
  (H2 : Hid (∀ w1, Calls Tryz.prog 108 #[.agg #[.bool false, .string d0], .agg #[.bool n1, .string s1]] w1 fun e w' => e = .returned (.agg #[.bool yN, .string yS]) ∧ Below w1.heap.size w1 w'))
  (H3 : Hid (∀ w1, Calls Tryz.prog 107 #[.agg #[.bool xN, .string xS], .agg #[.bool yN, .string yS]] w1 fun e w' => e = .returned (.agg #[.bool rN, .string rS, .string rD]) ∧ Below w1.heap.size w1 w')) :
  Calls Tryz.prog 57 #[.agg #[.bool n0, .string s0, .string d0], .agg #[.bool n1, .string s1, .string d1]] w fun e w' => e = .returned (.agg #[.bool rN, .string rS, .string rD]) ∧ Below w.heap.size w w' := by
 go_enter Tryz.func57, Tryz.ntmps57
 go_wp2_with fail
 obtain ⟨w1, hw, ka, kb, kr, b1⟩ := mk3 w [.bool n0, .string s0, .string d0] [.bool n1, .string s1, .string d1] [.bool false, .string { data := #[] }, .string { data := #[] }] 26 26 26
 rw [← hw]
 clear hw
 have sz := b1.size
 have ta := ka.lt
 have tb := kb.lt
 have tr := kr.lt
 have bb := b1
 clear b1
 have qa : w.heap.size ≠ w.heap.size + 1 + 1 := by omega
 have qb : w.heap.size + 1 ≠ w.heap.size + 1 + 1 := by omega
 go_region_held3 (fun w' => w'.cell? ⟨w.heap.size, 0, none⟩ = some (.bool n0) ∧ w'.cell? ⟨w.heap.size, 1, none⟩ = some (.string s0) ∧ w'.cell? ⟨w.heap.size, 2, none⟩ = some (.string d0) ∧ w'.cell? ⟨w.heap.size + 1, 0, none⟩ = some (.bool n1) ∧ w'.cell? ⟨w.heap.size + 1, 1, none⟩ = some (.string s1) ∧ w'.cell? ⟨w.heap.size + 1, 2, none⟩ = some (.string d1)) (first | exact ⟨cel3_0 ka, cel3_1 ka, cel3_2 ka, cel3_0 kb, cel3_1 kb, cel3_2 kb⟩ | exact ⟨cel3_0 (Cel.other (Cel.other (Cel.other ka qa 0 _) qa 1 _) qa 2 _), cel3_1 (Cel.other (Cel.other (Cel.other ka qa 0 _) qa 1 _) qa 2 _), cel3_2 (Cel.other (Cel.other (Cel.other ka qa 0 _) qa 1 _) qa 2 _), cel3_0 (Cel.other (Cel.other (Cel.other kb qb 0 _) qb 1 _) qb 2 _), cel3_1 (Cel.other (Cel.other (Cel.other kb qb 0 _) qb 1 _) qb 2 _), cel3_2 (Cel.other (Cel.other (Cel.other kb qb 0 _) qb 1 _) qb 2 _)⟩) (first | (go_at_call 63; go_fit (rden_any _ _ _ _); rintro e wn ⟨rfl, bn⟩; replace ka := ka.below ⟨bn.os, bn.tape, bn.output, bn.size, bn.block⟩; replace kb := kb.below ⟨bn.os, bn.tape, bn.output, bn.size, bn.block⟩; replace kr := kr.below ⟨bn.os, bn.tape, bn.output, bn.size, bn.block⟩; replace bb := Below.after bb ⟨bn.os, bn.tape, bn.output, bn.size, bn.block⟩) | (go_at_call 108; go_fit (H1.out _); rintro e wn ⟨rfl, bn⟩; replace ka := ka.below ⟨bn.os, bn.tape, bn.output, bn.size, bn.block⟩; replace kb := kb.below ⟨bn.os, bn.tape, bn.output, bn.size, bn.block⟩; replace kr := kr.below ⟨bn.os, bn.tape, bn.output, bn.size, bn.block⟩; replace bb := Below.after bb ⟨bn.os, bn.tape, bn.output, bn.size, bn.block⟩) | (go_at_call 108; go_fit (H2.out _); rintro e wn ⟨rfl, bn⟩; replace ka := ka.below ⟨bn.os, bn.tape, bn.output, bn.size, bn.block⟩; replace kb := kb.below ⟨bn.os, bn.tape, bn.output, bn.size, bn.block⟩; replace kr := kr.below ⟨bn.os, bn.tape, bn.output, bn.size, bn.block⟩; replace bb := Below.after bb ⟨bn.os, bn.tape, bn.output, bn.size, bn.block⟩) | (go_at_call 107; go_fit (H3.out _); rintro e wn ⟨rfl, bn⟩; replace ka := ka.below ⟨bn.os, bn.tape, bn.output, bn.size, bn.block⟩; replace kb := kb.below ⟨bn.os, bn.tape, bn.output, bn.size, bn.block⟩; replace kr := kr.below ⟨bn.os, bn.tape, bn.output, bn.size, bn.block⟩; replace bb := Below.after bb ⟨bn.os, bn.tape, bn.output, bn.size, bn.block⟩; have e0 := cel3_0 kr; have f0 := Cel.frozen kr 0; have e1 := cel3_1 kr; have f1 := Cel.frozen kr 1; have e2 := cel3_2 kr; have f2 := Cel.frozen kr 2))
 go_wp2
 exact post_q (p := 4) (by kernel_rfl) rfl rfl (((kr.set 0 _).set 1 _).set 2 _) ⟨rfl, bset (bset (bset bb (by omega) 0 _) (by omega) 1 _) (by omega) 2 _⟩
set_option maxRecDepth 100000 in
set_option maxHeartbeats 4000000 in
theorem rtimes_walk0 (n0 n1 xN yN rN : Bool) (s0 d0 s1 d1 xS yS rS rD : ByteArray) (h : (d0.toList == [1]) = false) (w : World)
  (H1 : Hid (∀ w1, Calls Tryz.prog 108 #[.agg #[.bool n0, .string s0], .agg #[.bool n1, .string s1]] w1 fun e w' => e = .returned (.agg #[.bool xN, .string xS]) ∧ Below w1.heap.size w1 w'))
  (H2 : Hid (∀ w1, Calls Tryz.prog 108 #[.agg #[.bool false, .string d0], .agg #[.bool false, .string d1]] w1 fun e w' => e = .returned (.agg #[.bool yN, .string yS]) ∧ Below w1.heap.size w1 w'))
  (H3 : Hid (∀ w1, Calls Tryz.prog 107 #[.agg #[.bool xN, .string xS], .agg #[.bool yN, .string yS]] w1 fun e w' => e = .returned (.agg #[.bool rN, .string rS, .string rD]) ∧ Below w1.heap.size w1 w')) :
  Calls Tryz.prog 79 #[.agg #[.bool n0, .string s0, .string d0], .agg #[.bool n1, .string s1, .string d1]] w fun e w' => e = .returned (.agg #[.bool rN, .string rS, .string rD]) ∧ Below w.heap.size w w' := by
 go_enter Tryz.func79, Tryz.ntmps79
 go_wp2_with fail
 obtain ⟨w1, hw, ka, kb, kr, b1⟩ := mk3 w [.bool n0, .string s0, .string d0] [.bool n1, .string s1, .string d1] [.bool false, .string { data := #[] }, .string { data := #[] }] 26 26 26
 rw [← hw]
 clear hw
 have sz := b1.size
 have ta := ka.lt
 have tb := kb.lt
 have tr := kr.lt
 have bb := b1
 clear b1
 have ca_0 := cel3_0 ka
 have ca_1 := cel3_1 ka
 have ca_2 := cel3_2 ka
 have cb_3 := cel3_0 kb
 have cb_4 := cel3_1 kb
 have cb_5 := cel3_2 kb
 go_wp2_with fail
 clear ca_0 ca_1 ca_2 cb_3 cb_4 cb_5
 have qa : w.heap.size ≠ w.heap.size + 1 + 1 := by omega
 have qb : w.heap.size + 1 ≠ w.heap.size + 1 + 1 := by omega
 go_region_held3 (fun w' => w'.cell? ⟨w.heap.size, 0, none⟩ = some (.bool n0) ∧ w'.cell? ⟨w.heap.size, 1, none⟩ = some (.string s0) ∧ w'.cell? ⟨w.heap.size, 2, none⟩ = some (.string d0) ∧ w'.cell? ⟨w.heap.size + 1, 0, none⟩ = some (.bool n1) ∧ w'.cell? ⟨w.heap.size + 1, 1, none⟩ = some (.string s1) ∧ w'.cell? ⟨w.heap.size + 1, 2, none⟩ = some (.string d1)) (first | exact ⟨cel3_0 ka, cel3_1 ka, cel3_2 ka, cel3_0 kb, cel3_1 kb, cel3_2 kb⟩ | exact ⟨cel3_0 (Cel.other (Cel.other (Cel.other ka qa 0 _) qa 1 _) qa 2 _), cel3_1 (Cel.other (Cel.other (Cel.other ka qa 0 _) qa 1 _) qa 2 _), cel3_2 (Cel.other (Cel.other (Cel.other ka qa 0 _) qa 1 _) qa 2 _), cel3_0 (Cel.other (Cel.other (Cel.other kb qb 0 _) qb 1 _) qb 2 _), cel3_1 (Cel.other (Cel.other (Cel.other kb qb 0 _) qb 1 _) qb 2 _), cel3_2 (Cel.other (Cel.other (Cel.other kb qb 0 _) qb 1 _) qb 2 _)⟩) (first | (go_at_call 108; go_fit (H1.out _); rintro e wn ⟨rfl, bn⟩; replace ka := ka.below ⟨bn.os, bn.tape, bn.output, bn.size, bn.block⟩; replace kb := kb.below ⟨bn.os, bn.tape, bn.output, bn.size, bn.block⟩; replace kr := kr.below ⟨bn.os, bn.tape, bn.output, bn.size, bn.block⟩; replace bb := Below.after bb ⟨bn.os, bn.tape, bn.output, bn.size, bn.block⟩) | (go_at_call 63; go_fit (rden_any _ _ _ _); rintro e wn ⟨rfl, bn⟩; replace ka := ka.below ⟨bn.os, bn.tape, bn.output, bn.size, bn.block⟩; replace kb := kb.below ⟨bn.os, bn.tape, bn.output, bn.size, bn.block⟩; replace kr := kr.below ⟨bn.os, bn.tape, bn.output, bn.size, bn.block⟩; replace bb := Below.after bb ⟨bn.os, bn.tape, bn.output, bn.size, bn.block⟩) | (go_at_call 108; go_fit (H2.out _); rintro e wn ⟨rfl, bn⟩; replace ka := ka.below ⟨bn.os, bn.tape, bn.output, bn.size, bn.block⟩; replace kb := kb.below ⟨bn.os, bn.tape, bn.output, bn.size, bn.block⟩; replace kr := kr.below ⟨bn.os, bn.tape, bn.output, bn.size, bn.block⟩; replace bb := Below.after bb ⟨bn.os, bn.tape, bn.output, bn.size, bn.block⟩) | (go_at_call 107; go_fit (H3.out _); rintro e wn ⟨rfl, bn⟩; replace ka := ka.below ⟨bn.os, bn.tape, bn.output, bn.size, bn.block⟩; replace kb := kb.below ⟨bn.os, bn.tape, bn.output, bn.size, bn.block⟩; replace kr := kr.below ⟨bn.os, bn.tape, bn.output, bn.size, bn.block⟩; replace bb := Below.after bb ⟨bn.os, bn.tape, bn.output, bn.size, bn.block⟩; have e0 := cel3_0 kr; have f0 := Cel.frozen kr 0; have e1 := cel3_1 kr; have f1 := Cel.frozen kr 1; have e2 := cel3_2 kr; have f2 := Cel.frozen kr 2))
 go_wp2
 exact post_q (p := 4) (by kernel_rfl) rfl rfl (((kr.set 0 _).set 1 _).set 2 _) ⟨rfl, bset (bset (bset bb (by omega) 0 _) (by omega) 1 _) (by omega) 2 _⟩
set_option maxRecDepth 100000 in
set_option maxHeartbeats 4000000 in
theorem rtimes_walk1 (n0 n1 xN yN rN : Bool) (s0 d0 s1 d1 xS yS rS rD : ByteArray) (h0 : (d0.toList == [1]) = true) (h : (d1.toList == [1]) = false) (w : World)
  (H1 : Hid (∀ w1, Calls Tryz.prog 108 #[.agg #[.bool n0, .string s0], .agg #[.bool n1, .string s1]] w1 fun e w' => e = .returned (.agg #[.bool xN, .string xS]) ∧ Below w1.heap.size w1 w'))
  (H2 : Hid (∀ w1, Calls Tryz.prog 108 #[.agg #[.bool false, .string d0], .agg #[.bool false, .string d1]] w1 fun e w' => e = .returned (.agg #[.bool yN, .string yS]) ∧ Below w1.heap.size w1 w'))
  (H3 : Hid (∀ w1, Calls Tryz.prog 107 #[.agg #[.bool xN, .string xS], .agg #[.bool yN, .string yS]] w1 fun e w' => e = .returned (.agg #[.bool rN, .string rS, .string rD]) ∧ Below w1.heap.size w1 w')) :
  Calls Tryz.prog 79 #[.agg #[.bool n0, .string s0, .string d0], .agg #[.bool n1, .string s1, .string d1]] w fun e w' => e = .returned (.agg #[.bool rN, .string rS, .string rD]) ∧ Below w.heap.size w w' := by
 go_enter Tryz.func79, Tryz.ntmps79
 go_wp2_with fail
 obtain ⟨w1, hw, ka, kb, kr, b1⟩ := mk3 w [.bool n0, .string s0, .string d0] [.bool n1, .string s1, .string d1] [.bool false, .string { data := #[] }, .string { data := #[] }] 26 26 26
 rw [← hw]
 clear hw
 have sz := b1.size
 have ta := ka.lt
 have tb := kb.lt
 have tr := kr.lt
 have bb := b1
 clear b1
 have ca_0 := cel3_0 ka
 have ca_1 := cel3_1 ka
 have ca_2 := cel3_2 ka
 have cb_3 := cel3_0 kb
 have cb_4 := cel3_1 kb
 have cb_5 := cel3_2 kb
 go_wp2_with fail
 clear ca_0 ca_1 ca_2 cb_3 cb_4 cb_5
 have qa : w.heap.size ≠ w.heap.size + 1 + 1 := by omega
 have qb : w.heap.size + 1 ≠ w.heap.size + 1 + 1 := by omega
 go_region_held3 (fun w' => w'.cell? ⟨w.heap.size, 0, none⟩ = some (.bool n0) ∧ w'.cell? ⟨w.heap.size, 1, none⟩ = some (.string s0) ∧ w'.cell? ⟨w.heap.size, 2, none⟩ = some (.string d0) ∧ w'.cell? ⟨w.heap.size + 1, 0, none⟩ = some (.bool n1) ∧ w'.cell? ⟨w.heap.size + 1, 1, none⟩ = some (.string s1) ∧ w'.cell? ⟨w.heap.size + 1, 2, none⟩ = some (.string d1)) (first | exact ⟨cel3_0 ka, cel3_1 ka, cel3_2 ka, cel3_0 kb, cel3_1 kb, cel3_2 kb⟩ | exact ⟨cel3_0 (Cel.other (Cel.other (Cel.other ka qa 0 _) qa 1 _) qa 2 _), cel3_1 (Cel.other (Cel.other (Cel.other ka qa 0 _) qa 1 _) qa 2 _), cel3_2 (Cel.other (Cel.other (Cel.other ka qa 0 _) qa 1 _) qa 2 _), cel3_0 (Cel.other (Cel.other (Cel.other kb qb 0 _) qb 1 _) qb 2 _), cel3_1 (Cel.other (Cel.other (Cel.other kb qb 0 _) qb 1 _) qb 2 _), cel3_2 (Cel.other (Cel.other (Cel.other kb qb 0 _) qb 1 _) qb 2 _)⟩) (first | (go_at_call 108; go_fit (H1.out _); rintro e wn ⟨rfl, bn⟩; replace ka := ka.below ⟨bn.os, bn.tape, bn.output, bn.size, bn.block⟩; replace kb := kb.below ⟨bn.os, bn.tape, bn.output, bn.size, bn.block⟩; replace kr := kr.below ⟨bn.os, bn.tape, bn.output, bn.size, bn.block⟩; replace bb := Below.after bb ⟨bn.os, bn.tape, bn.output, bn.size, bn.block⟩) | (go_at_call 63; go_fit (rden_any _ _ _ _); rintro e wn ⟨rfl, bn⟩; replace ka := ka.below ⟨bn.os, bn.tape, bn.output, bn.size, bn.block⟩; replace kb := kb.below ⟨bn.os, bn.tape, bn.output, bn.size, bn.block⟩; replace kr := kr.below ⟨bn.os, bn.tape, bn.output, bn.size, bn.block⟩; replace bb := Below.after bb ⟨bn.os, bn.tape, bn.output, bn.size, bn.block⟩) | (go_at_call 108; go_fit (H2.out _); rintro e wn ⟨rfl, bn⟩; replace ka := ka.below ⟨bn.os, bn.tape, bn.output, bn.size, bn.block⟩; replace kb := kb.below ⟨bn.os, bn.tape, bn.output, bn.size, bn.block⟩; replace kr := kr.below ⟨bn.os, bn.tape, bn.output, bn.size, bn.block⟩; replace bb := Below.after bb ⟨bn.os, bn.tape, bn.output, bn.size, bn.block⟩) | (go_at_call 107; go_fit (H3.out _); rintro e wn ⟨rfl, bn⟩; replace ka := ka.below ⟨bn.os, bn.tape, bn.output, bn.size, bn.block⟩; replace kb := kb.below ⟨bn.os, bn.tape, bn.output, bn.size, bn.block⟩; replace kr := kr.below ⟨bn.os, bn.tape, bn.output, bn.size, bn.block⟩; replace bb := Below.after bb ⟨bn.os, bn.tape, bn.output, bn.size, bn.block⟩; have e0 := cel3_0 kr; have f0 := Cel.frozen kr 0; have e1 := cel3_1 kr; have f1 := Cel.frozen kr 1; have e2 := cel3_2 kr; have f2 := Cel.frozen kr 2))
 go_wp2
 exact post_q (p := 4) (by kernel_rfl) rfl rfl (((kr.set 0 _).set 1 _).set 2 _) ⟨rfl, bset (bset (bset bb (by omega) 0 _) (by omega) 1 _) (by omega) 2 _⟩
end Go.Proofs.YtafikdacdfkkhaaGreatDoor
