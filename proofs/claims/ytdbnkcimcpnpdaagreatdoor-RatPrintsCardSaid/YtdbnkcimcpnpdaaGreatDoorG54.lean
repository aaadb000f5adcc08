/-
  What these laws reach and the others do not.
-/
import Derived.Test.YtdbnkcimcpnpdaaGreatDoorG27
import Derived.Test.YtdbnkcimcpnpdaaGreatDoorG33
import Derived.Test.YtdbnkcimcpnpdaaGreatDoorG36
namespace Go.Proofs.YtdbnkcimcpnpdaaGreatDoor
section
open Go.RowKit
/-- Two numbers in boxes, and two cells for the answers. -/
theorem rb4 (w : World) (x0 x1 y0 y1 : Value) : ∃ w0, w0 = (((w.alloc (.cells #[x0, x1] 24)).alloc (.cells #[y0, y1] 24)).alloc (.cells #[.bool false, .string { data := #[] }] 24)).alloc (.cells #[.bool false, .string { data := #[] }] 24) ∧
  Cel w0 w.heap.size [x0, x1] 24 ∧ Cel w0 (w.heap.size + 1) [y0, y1] 24 ∧ Cel w0 (w.heap.size + 1 + 1) [.bool false, .string { data := #[] }] 24 ∧ Cel w0 (w.heap.size + 1 + 1 + 1) [.bool false, .string { data := #[] }] 24 ∧ Below w.heap.size w w0 := by
 refine ⟨_, rfl, (((Cel.new w [x0, x1] _).alloc _).alloc _).alloc _, ?_, ?_, ?_, by go_grown⟩
 ·have := ((Cel.new (w.alloc (.cells #[x0, x1] 24)) [y0, y1] 24).alloc (.cells #[.bool false, .string { data := #[] }] 24)).alloc (.cells #[.bool false, .string { data := #[] }] 24)
  simpa using this
 ·have := (Cel.new ((w.alloc (.cells #[x0, x1] 24)).alloc (.cells #[y0, y1] 24)) [.bool false, .string { data := #[] }] 24).alloc (.cells #[.bool false, .string { data := #[] }] 24)
  simpa using this
 ·have := Cel.new (((w.alloc (.cells #[x0, x1] 24)).alloc (.cells #[y0, y1] 24)).alloc (.cells #[.bool false, .string { data := #[] }] 24)) [.bool false, .string { data := #[] }] 24
  simpa using this
theorem post_zz {fn : Func} {p q : Tmp} {R : Ending → World → Prop} {a : Act} {w : World} {g g' : Nat} {x y x' y' : Value} (h : fn.results = #[.cell p 24, .cell q 24]) (hp : a.tmps.getD p undef = .pointer (some ⟨g, 0, none⟩)) (hq : a.tmps.getD q undef = .pointer (some ⟨g', 0, none⟩)) (hd : a.defers = [])
  (hc : Cel w g [x, y] 24) (hc' : Cel w g' [x', y'] 24) (hR : R (.returned (.tuple #[.agg #[x, y], .agg #[x', y']])) w) : bodyPost Tryz.prog fn R .ret a w := by
 refine ⟨hd, .tuple #[.agg #[x, y], .agg #[x', y']], ?_, hR⟩
 have hp' : a.tmps[p]?.getD undef = .pointer (some ⟨g, 0, none⟩) := by simpa using hp
 have hq' : a.tmps[q]?.getD undef = .pointer (some ⟨g', 0, none⟩) := by simpa using hq
 simp only [results, h]
 simp [Sem.run_bind, Result.andThen, hp', hq', asAddr, load24 hc, load24 hc']

set_option maxRecDepth 100000 in
set_option maxHeartbeats 8000000 in
theorem rquo_plain (n0 n1 : Bool) (s0 s1 : ByteArray) (w : World) (z0 : s0.size ≤ 20000) (z1 : s1.size ≤ 20000) (hY : 0 < natOf s1) (hp : ¬ (n0 = true ∧ natOf s0 % natOf s1 ≠ 0)) :
  Calls Tryz.prog 63 #[.agg #[.bool n0, .string s0], .agg #[.bool n1, .string s1]] w fun e w' => e = .returned (.tuple #[zI (sgn (n0 != n1) (natOf s0 / natOf s1)), zI (sgn n0 (natOf s0 % natOf s1))]) ∧ Below w.heap.size w w' := by
 have HD := shut (fun v0 v1 w r0 r1 => rdiv_dig (X := natOf s0) (Y := natOf s1) (K := 10000) (by omega) (natOf_lt4 10000 (by omega)) (natOf_lt4 10000 (by omega)) hY v0 v1 w r0 r1)
 have HQ := shut (fun v w h => make0_val (n0 != n1) (V := natOf s0 / natOf s1) (K := 10000) (by omega) (Nat.lt_of_le_of_lt (Nat.div_le_self _ _) (natOf_lt4 10000 (by omega))) v w h)
 have HR := shut (fun v w h => make0_val n0 (V := natOf s0 % natOf s1) (K := 10000) (by omega) (Nat.lt_of_le_of_lt (Nat.mod_le _ _) (natOf_lt4 10000 (by omega))) v w h)
 generalize hR1 : zI (sgn (n0 != n1) (natOf s0 / natOf s1)) = R1 at *
 obtain ⟨za, zb, rfl⟩ : ∃ a b, R1 = .agg #[.bool a, .string b] := ⟨_, _, hR1.symm⟩
 have e2 : zI (sgn n0 (natOf s0 % natOf s1)) = .agg #[.bool false, .string (strOf (natOf s0 % natOf s1))] := by
  rw [zI_sgn]
  congr 3
  congr 1
  cases n0 with
  | false => rfl
  | true =>
   have h0 : natOf s0 % natOf s1 = 0 := Classical.not_not.1 fun h => hp ⟨rfl, h⟩
   rw [h0, strOf_empty]
   rfl
 rw [e2] at HR ⊢
 generalize strOf (natOf s0 % natOf s1) = zd at *
 clear hR1 e2 hp hY
 go_enter Tryz.func63, Tryz.ntmps63
 go_wp2
 obtain ⟨w0, hw0, k0, k1, k2, k3, bb⟩ := rb4 w (.bool n0) (.string s0) (.bool n1) (.string s1)
 rw [← hw0]
 clear hw0
 have y0 : s0.size ≤ 40000 := by omega
 have y1 : s1.size ≤ 40000 := by omega
 go_region_held3 (fun w' => w'.cell? ⟨w.heap.size, 1, none⟩ = some (.string s0) ∧ w'.cell? ⟨w.heap.size + 1, 1, none⟩ = some (.string s1)) (exact ⟨cel2_1' k0, cel2_1' k1⟩) (first | (go_at_call 70; refine (HD.out _ _ _ rx ry).mono ?_; rintro e w3 ⟨vq, vr, rfl, rq, rr, b3⟩; obtain ⟨aq, cq, rfl, -, -⟩ := id rq; obtain ⟨ar, cr, rfl, -, -⟩ := id rr; replace k0 := k0.below b3; replace k1 := k1.below b3; replace k2 := k2.below b3; replace k3 := k3.below b3; replace bb := Below.after bb b3) | (go_at_call 68; have _x := rx; refine (dig_any _ _ y1).mono ?_; rintro e w2 ⟨vy, rfl, ry, b2⟩; obtain ⟨ay, cy, rfl, -, -⟩ := id ry; replace rx := rx.below b2; replace k0 := k0.below b2; replace k1 := k1.below b2; replace k2 := k2.below b2; replace k3 := k3.below b2; replace bb := Below.after bb b2) | (go_at_call 68; refine (dig_any _ _ y0).mono ?_; rintro e w1 ⟨vx, rfl, rx, b1⟩; obtain ⟨ax, cx, rfl, -, -⟩ := id rx; replace k0 := k0.below ⟨b1.os, b1.tape, b1.output, b1.size, b1.block⟩; replace k1 := k1.below ⟨b1.os, b1.tape, b1.output, b1.size, b1.block⟩; replace k2 := k2.below ⟨b1.os, b1.tape, b1.output, b1.size, b1.block⟩; replace k3 := k3.below ⟨b1.os, b1.tape, b1.output, b1.size, b1.block⟩; replace bb := Below.after bb ⟨b1.os, b1.tape, b1.output, b1.size, b1.block⟩))
 have c0 := cel2_0' k0
 have c1 := cel2_0' k1
 clear HD rx ry
 go_wp2_with fail
 refine (HQ.out _ _ rq).mono ?_
 rintro e w4 ⟨rfl, b4⟩
 have hl2 := (k2.below b4).lt
 have hl3 := (k3.below b4).lt
 replace k0 := k0.below b4
 replace k1 := k1.below b4
 replace k2 := k2.below b4
 replace k3 := k3.below b4
 replace bb := Below.after bb b4
 replace rr := rr.below b4
 clear b4 c0 c1 HQ rq
 have d0 := cel2_0' (k0.alloc (.cells #[.bool za, .string zb] 24))
 go_wp2_with fail
 obtain ⟨w5, hw5, k4, b5⟩ : ∃ w5, w5 = w4.alloc (.cells #[.bool za, .string zb] 24) ∧ Cel w5 w4.heap.size [.bool za, .string zb] 24 ∧ Below w4.heap.size w4 w5 := ⟨_, rfl, Cel.new w4 _ _, (Below.refl _ _).alloc (Nat.le_refl _) _⟩
 rw [← hw5]
 clear hw5 d0
 replace k2 := k2.below b5
 replace k3 := k3.below b5
 replace bb := Below.after bb b5
 replace rr := rr.below b5
 clear b5
 refine (HR.out _ _ rr).mono ?_
 rintro e w6 ⟨rfl, b6⟩
 replace k2 := k2.below b6
 replace k3 := k3.below b6
 replace k4 := k4.below b6
 replace bb := Below.after bb b6
 clear b6 HR rr
 obtain ⟨w7, hw7, k5, b7⟩ : ∃ w7, w7 = w6.alloc (.cells #[.bool false, .string zd] 24) ∧ Cel w7 w6.heap.size [.bool false, .string zd] 24 ∧ Below w6.heap.size w6 w7 := ⟨_, rfl, Cel.new w6 _ _, (Below.refl _ _).alloc (Nat.le_refl _) _⟩
 have HW := shut hw7
 clear hw7
 go_wp2
 rw [← HW.out]
 have l2 := k2.lt
 have l3 := k3.lt
 have l4 := k4.lt
 have j2 := k2.below b7
 have j3 := k3.below b7
 have j4 := k4.below b7
 have bb7 := Below.after bb b7
 have hA : w.heap.size + 1 + 1 < w4.heap.size := hl2
 have hB : w.heap.size + 1 + 1 + 1 < w4.heap.size := hl3
 have a0 := cel2_0' j4
 have a1 := cel2_1' j4
 have a2 := cel2_0' k5
 have a3 := cel2_1' k5
 have a4 := cel2_0' j2
 have a5 := cel2_1' j2
 have a6 := cel2_0' j3
 have a7 := cel2_1' j3
 have f4 := j2.frozen 0
 have f5 := j2.frozen 1
 have f6 := j3.frozen 0
 have f7 := j3.frozen 1
 have u2 := cel2_0' ((k5.other (g' := w.heap.size + 1 + 1) (by omega) 0 (.bool za)).other (g' := w.heap.size + 1 + 1) (by omega) 1 (.string zb))
 have u3 := cel2_1' ((k5.other (g' := w.heap.size + 1 + 1) (by omega) 0 (.bool za)).other (g' := w.heap.size + 1 + 1) (by omega) 1 (.string zb))
 go_region
 all_goals try go_wp2
 all_goals exact post_zz (p := 4) (q := 5) (by kernel_rfl) rfl rfl rfl ((((j2.set 0 _).set 1 _).other (by omega) _ _).other (by omega) _ _) ((((j3.other (by omega) _ _).other (by omega) _ _).set 0 _).set 1 _) ⟨rfl, ((((bb7.setCell (by simp; omega) _).setCell (by simp; omega) _).setCell (by simp; omega) _).setCell (by simp; omega) _).drew⟩
end

section
open Go.RowKit
theorem strOf_le_size {X : Nat} {s : ByteArray} (h : X ≤ natOf s) : (strOf X).size ≤ s.size := strOf_lt (Nat.lt_of_le_of_lt h (natOf_lt s))

set_option maxRecDepth 100000 in
set_option maxHeartbeats 8000000 in
theorem rquo_more (n1 : Bool) (s0 s1 : ByteArray) (w : World) (z0 : s0.size ≤ 20000) (z1 : s1.size ≤ 20000) (hY : 0 < natOf s1) (hp : natOf s0 % natOf s1 ≠ 0) :
  Calls Tryz.prog 63 #[.agg #[.bool true, .string s0], .agg #[.bool n1, .string s1]] w fun e w' => e = .returned (.tuple #[zI (sgn (!n1) (natOf s0 / natOf s1) + sgn (!n1) 1), zI (sgn true (natOf s0 % natOf s1) + zOf false s1)]) ∧ Below w.heap.size w w' := by
 have HD := shut (fun v0 v1 w r0 r1 => rdiv_dig (X := natOf s0) (Y := natOf s1) (K := 10000) (by omega) (natOf_lt4 10000 (by omega)) (natOf_lt4 10000 (by omega)) hY v0 v1 w r0 r1)
 have HQ := shut (fun v w h => make0_val (!n1) (V := natOf s0 / natOf s1) (K := 10000) (by omega) (Nat.lt_of_le_of_lt (Nat.div_le_self _ _) (natOf_lt4 10000 (by omega))) v w h)
 have HR := shut (fun v w h => make0_val true (V := natOf s0 % natOf s1) (K := 10000) (by omega) (Nat.lt_of_le_of_lt (Nat.mod_le _ _) (natOf_lt4 10000 (by omega))) v w h)
 have q1 : (strOf (natOf s0 / natOf s1)).size ≤ 20000 := Nat.le_trans (strOf_le_size (Nat.div_le_self _ _)) z0
 have q2 : (strOf (natOf s0 % natOf s1)).size ≤ 20000 := Nat.le_trans (strOf_le_size (Nat.mod_le _ _)) z0
 have e1 := zI_sgn (!n1) (natOf s0 / natOf s1)
 have e2 : zI (sgn true (natOf s0 % natOf s1)) = .agg #[.bool true, .string (strOf (natOf s0 % natOf s1))] := by
  rw [zI_sgn, strOf_empty]
  simp [hp]
 have S1 : ∀ w, Calls Tryz.prog 49 #[.agg #[.bool true, .string (strOf (natOf s0 % natOf s1))], .agg #[.bool false, .string s1]] w fun e w' => e = .returned (zI (sgn true (natOf s0 % natOf s1) + zOf false s1)) ∧ Below w.heap.size w w' := fun w => by
  have := rsum_any true false (strOf (natOf s0 % natOf s1)) s1 w (by omega) (by omega)
  rwa [← sgn_natOf true, natOf_strOf] at this
 have S2 : ∀ w, Calls Tryz.prog 49 #[.agg #[.bool (!n1 && !(strOf (natOf s0 / natOf s1)).toList.isEmpty), .string (strOf (natOf s0 / natOf s1))], .agg #[.bool (!n1), .string ⟨#[1]⟩]] w fun e w' => e = .returned (zI (sgn (!n1) (natOf s0 / natOf s1) + sgn (!n1) 1)) ∧ Below w.heap.size w w' := fun w => by
  have := rsum_any (!n1 && !(strOf (natOf s0 / natOf s1)).toList.isEmpty) (!n1) (strOf (natOf s0 / natOf s1)) ⟨#[1]⟩ w (by omega) (by decide)
  have k1 : zOf (!n1 && !(strOf (natOf s0 / natOf s1)).toList.isEmpty) (strOf (natOf s0 / natOf s1)) = sgn (!n1) (natOf s0 / natOf s1) := by
   rw [strOf_empty, ← sgn_natOf, natOf_strOf]
   by_cases h : natOf s0 / natOf s1 = 0
   ·rw [h]; cases n1 <;> rfl
   ·simp [h]
  have k2 : zOf (!n1) ⟨#[1]⟩ = sgn (!n1) 1 := by rw [← sgn_natOf]; rfl
  rwa [k1, k2] at this
 rw [e1] at HQ
 rw [e2] at HR
 generalize (!n1 && !(strOf (natOf s0 / natOf s1)).toList.isEmpty) = za at *
 generalize strOf (natOf s0 / natOf s1) = zb at *
 generalize strOf (natOf s0 % natOf s1) = zd at *
 generalize hR3 : zI (sgn true (natOf s0 % natOf s1) + zOf false s1) = R3 at *
 obtain ⟨ze, zf, rfl⟩ : ∃ a b, R3 = .agg #[.bool a, .string b] := ⟨_, _, hR3.symm⟩
 generalize hR4 : zI (sgn (!n1) (natOf s0 / natOf s1) + sgn (!n1) 1) = R4 at *
 obtain ⟨zg, zh, rfl⟩ : ∃ a b, R4 = .agg #[.bool a, .string b] := ⟨_, _, hR4.symm⟩
 have HS1 := shut S1
 have HS2 := shut S2
 clear hR3 hR4 e1 e2 hp hY S1 S2 q1 q2
 go_enter Tryz.func63, Tryz.ntmps63
 go_wp2
 obtain ⟨w0, hw0, k0, k1, k2, k3, bb⟩ := rb4 w (.bool true) (.string s0) (.bool n1) (.string s1)
 rw [← hw0]
 clear hw0
 have y0 : s0.size ≤ 40000 := by omega
 have y1 : s1.size ≤ 40000 := by omega
 go_region_held3 (fun w' => w'.cell? ⟨w.heap.size, 1, none⟩ = some (.string s0) ∧ w'.cell? ⟨w.heap.size + 1, 1, none⟩ = some (.string s1)) (exact ⟨cel2_1' k0, cel2_1' k1⟩) (first | (go_at_call 70; refine (HD.out _ _ _ rx ry).mono ?_; rintro e w3 ⟨vq, vr, rfl, rq, rr, b3⟩; obtain ⟨aq, cq, rfl, -, -⟩ := id rq; obtain ⟨ar, cr, rfl, -, -⟩ := id rr; replace k0 := k0.below b3; replace k1 := k1.below b3; replace k2 := k2.below b3; replace k3 := k3.below b3; replace bb := Below.after bb b3) | (go_at_call 68; have _x := rx; refine (dig_any _ _ y1).mono ?_; rintro e w2 ⟨vy, rfl, ry, b2⟩; obtain ⟨ay, cy, rfl, -, -⟩ := id ry; replace rx := rx.below b2; replace k0 := k0.below b2; replace k1 := k1.below b2; replace k2 := k2.below b2; replace k3 := k3.below b2; replace bb := Below.after bb b2) | (go_at_call 68; refine (dig_any _ _ y0).mono ?_; rintro e w1 ⟨vx, rfl, rx, b1⟩; obtain ⟨ax, cx, rfl, -, -⟩ := id rx; replace k0 := k0.below ⟨b1.os, b1.tape, b1.output, b1.size, b1.block⟩; replace k1 := k1.below ⟨b1.os, b1.tape, b1.output, b1.size, b1.block⟩; replace k2 := k2.below ⟨b1.os, b1.tape, b1.output, b1.size, b1.block⟩; replace k3 := k3.below ⟨b1.os, b1.tape, b1.output, b1.size, b1.block⟩; replace bb := Below.after bb ⟨b1.os, b1.tape, b1.output, b1.size, b1.block⟩))
 have c0 := cel2_0' k0
 have c1 := cel2_0' k1
 clear HD rx ry
 go_wp2_with fail
 refine (HQ.out _ _ rq).mono ?_
 rintro e w4 ⟨rfl, b4⟩
 have hl2 := (k2.below b4).lt
 have hl3 := (k3.below b4).lt
 replace k0 := k0.below b4
 replace k1 := k1.below b4
 replace k2 := k2.below b4
 replace k3 := k3.below b4
 replace bb := Below.after bb b4
 replace rr := rr.below b4
 clear b4 c0 c1 HQ rq
 have d0 := cel2_0' (k0.alloc (.cells #[.bool za, .string zb] 24))
 go_wp2_with fail
 obtain ⟨w5, hw5, k4, b5⟩ : ∃ w5, w5 = w4.alloc (.cells #[.bool za, .string zb] 24) ∧ Cel w5 w4.heap.size [.bool za, .string zb] 24 ∧ Below w4.heap.size w4 w5 := ⟨_, rfl, Cel.new w4 _ _, (Below.refl _ _).alloc (Nat.le_refl _) _⟩
 rw [← hw5]
 clear hw5 d0
 replace k2 := k2.below b5
 replace k3 := k3.below b5
 replace bb := Below.after bb b5
 replace rr := rr.below b5
 have b5x := b5
 clear b5
 refine (HR.out _ _ rr).mono ?_
 rintro e w6 ⟨rfl, b6⟩
 replace k2 := k2.below b6
 replace k3 := k3.below b6
 replace k4 := k4.below b6
 replace bb := Below.after bb b6
 have b6x := b6
 have hs46 : w4.heap.size + 1 ≤ w6.heap.size := k4.lt
 clear b6 HR rr
 obtain ⟨w7, hw7, k5, b7⟩ : ∃ w7, w7 = w6.alloc (.cells #[.bool true, .string zd] 24) ∧ Cel w7 w6.heap.size [.bool true, .string zd] 24 ∧ Below w6.heap.size w6 w7 := ⟨_, rfl, Cel.new w6 _ _, (Below.refl _ _).alloc (Nat.le_refl _) _⟩
 have l2 := k2.lt
 replace k1 := k1.below b5x
 replace k1 := k1.below b6x
 have m1 := cel2_0' (k1.below b7)
 have m2 := cel2_1' (k1.below b7)
 rw [hw7] at m1 m2
 go_wp2_with fail
 rw [← hw7]
 clear hw7 m1 m2
 refine (HS1.out w7).mono ?_
 rintro e w8 ⟨rfl, b8⟩
 have b78 := Below.after b7 b8
 replace k1 := k1.below b78
 replace k2 := k2.below b78
 replace k3 := k3.below b78
 replace k4 := k4.below b78
 replace k5 := k5.below b8
 replace bb := Below.after bb b78
 have s64 : w4.heap.size < w6.heap.size := Nat.lt_of_lt_of_le (Nat.lt_succ_self _) hs46
 have ne1 : w.heap.size + 1 ≠ w6.heap.size := by omega
 have ne2 : w.heap.size + 1 + 1 ≠ w6.heap.size := by omega
 have ne3 : w.heap.size + 1 + 1 + 1 ≠ w6.heap.size := by omega
 have ne4 : w4.heap.size ≠ w6.heap.size := by omega
 have e0 := cel2_0' k5
 have e1 := cel2_1' k5
 have f0 := k5.frozen 0
 have f1 := k5.frozen 1
 obtain ⟨w9, hw9⟩ : ∃ w9, w9 = (w8.setCell ⟨w6.heap.size, 0, none⟩ (.bool ze)).setCell ⟨w6.heap.size, 1, none⟩ (.string zf) := ⟨_, rfl⟩
 have i1 : Cel w9 (w.heap.size + 1) [.bool n1, .string s1] 24 := by rw [hw9]; exact (k1.other ne1 _ _).other ne1 _ _
 have i2 : Cel w9 (w.heap.size + 1 + 1) [.bool false, .string { data := #[] }] 24 := by rw [hw9]; exact (k2.other ne2 _ _).other ne2 _ _
 have i3 : Cel w9 (w.heap.size + 1 + 1 + 1) [.bool false, .string { data := #[] }] 24 := by rw [hw9]; exact (k3.other ne3 _ _).other ne3 _ _
 have i4 : Cel w9 w4.heap.size [.bool za, .string zb] 24 := by rw [hw9]; exact (k4.other ne4 _ _).other ne4 _ _
 have i5 : Cel w9 w6.heap.size [.bool ze, .string zf] 24 := by rw [hw9]; exact (k5.set 0 _).set 1 _
 have ib : Below w.heap.size w w9 := by rw [hw9]; exact (bb.setCell (by simp; omega) _).setCell (by simp; omega) _
 have p1 := cel2_0' i1
 have p2 := cel2_0' (i4.alloc (.cells #[.bool (!n1), .string ⟨#[1]⟩] 24))
 have p3 := cel2_1' (i4.alloc (.cells #[.bool (!n1), .string ⟨#[1]⟩] 24))
 rw [hw9] at p1 p2 p3
 clear k1 k2 k3 k4 k5 bb b78 b8 HS1
 go_wp2_with fail
 rw [← hw9]
 clear hw9 p1 p2 p3 e0 e1 f0 f1
 obtain ⟨w10, hw10, b10⟩ : ∃ w10, w10 = w9.alloc (.cells #[.bool (!n1), .string ⟨#[1]⟩] 24) ∧ Below w9.heap.size w9 w10 := ⟨_, rfl, (Below.refl _ _).alloc (Nat.le_refl _) _⟩
 rw [← hw10]
 clear hw10
 refine (HS2.out w10).mono ?_
 rintro e w11 ⟨rfl, b11⟩
 have bx := Below.after b10 b11
 replace i2 := i2.below bx
 replace i3 := i3.below bx
 replace i4 := i4.below bx
 replace i5 := i5.below bx
 replace ib := Below.after ib bx
 clear b10 b11 bx HS2 i1
 have e0 := cel2_0' i4
 have e1 := cel2_1' i4
 have f0 := i4.frozen 0
 have f1 := i4.frozen 1
 obtain ⟨w12, hw12⟩ : ∃ w12, w12 = (w11.setCell ⟨w4.heap.size, 0, none⟩ (.bool zg)).setCell ⟨w4.heap.size, 1, none⟩ (.string zh) := ⟨_, rfl⟩
 have ne5 : w.heap.size + 1 + 1 ≠ w4.heap.size := by omega
 have ne6 : w.heap.size + 1 + 1 + 1 ≠ w4.heap.size := by omega
 have j2 : Cel w12 (w.heap.size + 1 + 1) [.bool false, .string { data := #[] }] 24 := by rw [hw12]; exact (i2.other ne5 _ _).other ne5 _ _
 have j3 : Cel w12 (w.heap.size + 1 + 1 + 1) [.bool false, .string { data := #[] }] 24 := by rw [hw12]; exact (i3.other ne6 _ _).other ne6 _ _
 have j4 : Cel w12 w4.heap.size [.bool zg, .string zh] 24 := by rw [hw12]; exact (i4.set 0 _).set 1 _
 have j5 : Cel w12 w6.heap.size [.bool ze, .string zf] 24 := by rw [hw12]; exact (i5.other ne4.symm _ _).other ne4.symm _ _
 have jb : Below w.heap.size w w12 := by rw [hw12]; exact (ib.setCell (by simp; omega) _).setCell (by simp; omega) _
 clear i2 i3 i4 i5 ib
 have HW := shut hw12
 clear hw12
 go_wp2
 rw [← HW.out]
 clear e0 e1 f0 f1 HW
 have a0 := cel2_0' j4
 have a1 := cel2_1' j4
 have a2 := cel2_0' j5
 have a3 := cel2_1' j5
 have a4 := cel2_0' j2
 have a5 := cel2_1' j2
 have a6 := cel2_0' j3
 have a7 := cel2_1' j3
 have f4 := j2.frozen 0
 have f5 := j2.frozen 1
 have f6 := j3.frozen 0
 have f7 := j3.frozen 1
 have u2 := cel2_0' ((j5.other (g' := w.heap.size + 1 + 1) (by omega) 0 (.bool zg)).other (g' := w.heap.size + 1 + 1) (by omega) 1 (.string zh))
 have u3 := cel2_1' ((j5.other (g' := w.heap.size + 1 + 1) (by omega) 0 (.bool zg)).other (g' := w.heap.size + 1 + 1) (by omega) 1 (.string zh))
 go_region
 all_goals try go_wp2
 all_goals exact post_zz (p := 4) (q := 5) (by kernel_rfl) rfl rfl rfl ((((j2.set 0 _).set 1 _).other (by omega) _ _).other (by omega) _ _) ((((j3.other (by omega) _ _).other (by omega) _ _).set 0 _).set 1 _) ⟨rfl, ((((jb.setCell (by simp; omega) _).setCell (by simp; omega) _).setCell (by simp; omega) _).setCell (by simp; omega) _).drew⟩

theorem rquo_any (n0 n1 : Bool) (s0 s1 : ByteArray) (w : World) (z0 : s0.size ≤ 20000) (z1 : s1.size ≤ 20000) (hY : 0 < natOf s1) :
  Calls Tryz.prog 63 #[.agg #[.bool n0, .string s0], .agg #[.bool n1, .string s1]] w fun e w' => e = .returned (.tuple #[zI (zOf n0 s0 / zOf n1 s1), zI (zOf n0 s0 % zOf n1 s1)]) ∧ Below w.heap.size w w' := by
 rw [← sgn_natOf, ← sgn_natOf, (sgn_ediv n0 n1 _ _ hY).1, (sgn_ediv n0 n1 _ _ hY).2]
 by_cases h : n0 = true ∧ natOf s0 % natOf s1 ≠ 0
 ·rw [if_pos h, if_pos h]
  obtain ⟨rfl, h⟩ := h
  have := rquo_more n1 s0 s1 w z0 z1 hY h
  have k1 : sgn (!n1) (natOf s0 / natOf s1) + sgn (!n1) 1 = sgn (!n1) (natOf s0 / natOf s1 + 1) := by
   cases n1 <;> simp [sgn] <;> omega
  have k2 : sgn true (natOf s0 % natOf s1) + zOf false s1 = sgn false (natOf s1 - natOf s0 % natOf s1) := by
   have hl := Nat.mod_lt (natOf s0) hY
   rw [← sgn_natOf]
   simp [sgn]
   omega
  rw [k1, k2] at this
  rw [Bool.true_bne]
  exact this
 ·rw [if_neg h, if_neg h]
  have := rquo_plain n0 n1 s0 s1 w z0 z1 hY h
  have k2 : sgn n0 (natOf s0 % natOf s1) = sgn false (natOf s0 % natOf s1) := by
   cases n0 with
   | false => rfl
   | true =>
    have h0 : natOf s0 % natOf s1 = 0 := Classical.not_not.1 fun h' => h ⟨rfl, h'⟩
    rw [h0]; rfl
  rwa [k2] at this
end

section
open Go.RowKit Go.Shelf
theorem dt_zero : dt 0 = [] := rfl
def strSz : Value → Nat
 | .string s => s.size
 | _ => 0
theorem bxt (w : World) (x0 x1 : Value) : ∃ w0, w0 = w.alloc (.cells #[x0, x1] 24) ∧ Cel w0 w.heap.size [x0, x1] 24 ∧ Below w.heap.size w w0 :=
 ⟨_, rfl, Cel.new w _ _, (Below.refl _ _).alloc (Nat.le_refl _) _⟩
theorem run_one (w : World) (d : Nat) : (convert 97 9 (.slice (some ⟨w.heap.size, 0, none⟩) 1 1)).run Tryz.prog (w.alloc (.cells #[.int .u8 (d : Int)] 5)) = .ok (.string (strB [d])) (w.alloc (.cells #[.int .u8 (d : Int)] 5)) := by
 rw [← strB_eq]
 refine run_convert_bytes_arg _ 97 5 Tryz.underlying97 Tryz.underlying5 w.heap.size 0 1 1 _ (by simp) ?_ 9 Tryz.underlying9
 intro i hi
 obtain rfl : i = 0 := by omega
 exact (Cel.new w [.int .u8 (d : Int)] 5).cell 0
theorem ten_lt : 10 < D32 ^ 200 := Nat.lt_of_lt_of_le (show 10 < D32 ^ 1 by decide) (Nat.pow_le_pow_right (by decide) (by omega))
theorem ten_dig : M.digs D32 10 = [10] := by unfold D32; decide
theorem mod_dig (m : Nat) : M.digs D32 (m % 10) = if m % 10 = 0 then [] else [m % 10] := by
 by_cases h : m % 10 = 0
 ·rw [if_pos h, h, M.digs_zero]
 ·rw [if_neg h, M.digs_pos D32_two (by omega), Nat.mod_eq_of_lt (by unfold D32; omega), Nat.div_eq_of_lt (by unfold D32; omega), M.digs_zero]

set_option maxRecDepth 100000 in
set_option maxHeartbeats 4000000 in
theorem rtext_loop (n0 : Bool) (s : ByteArray) (w : World) (hs : s.size ≤ 400) (T : List Nat) (hT : T = dt (natOf s)) :
  Calls Tryz.prog 59 #[.agg #[.bool n0, .string s]] w fun e w' => e = .returned (.string (if T = [] then ⟨#[48]⟩ else if n0 then strB (45 :: T) else strB T)) ∧ Below w.heap.size w w' := by
 have HG := shut (fun w => digits_any s w (by omega))
 obtain ⟨TT, hTT⟩ : ∃ t, t = (if T = [] then (⟨#[48]⟩ : ByteArray) else if n0 then strB (45 :: T) else strB T) := ⟨_, rfl⟩
 rw [← hTT]
 have HTT := shut hTT
 have HT := shut hT
 clear hTT hT
 go_enter Tryz.func59, Tryz.ntmps59
 go_wp2_with fail
 obtain ⟨w0, hw0, k0, bb⟩ := bxt w (.bool n0) (.string s)
 rw [← hw0]
 clear hw0
 refine (HG.out w0).mono ?_
 rintro e w1 ⟨v1, rfl, r1, b1⟩
 obtain ⟨a1, c1, rfl, -, -⟩ := id r1
 replace k0 := k0.below b1
 replace bb := Below.after bb b1
 clear b1 HG
 go_wp2
 go_loopw [3, 4] (fun nv sv wr => ∃ (m : Nat) (t : List Nat), m ≤ natOf s ∧ sv = .string (strB t) ∧ Rd wr nv (M.digs D32 m) ∧ Hid (dt (natOf s) = dt m ++ t) ∧ Cel wr w.heap.size [.bool n0, .string s] 24 ∧ Below w.heap.size w wr) (fun _ sv _ => (dt (natOf s)).length - strSz sv)
 case atStart => exact ⟨natOf s, [], Nat.le_refl _, rfl, r1, shut (by simp), k0, bb⟩
 case round =>
  clear r1 k0 bb
  obtain ⟨m, t, hm, rfl, rn, HD, kc, bb⟩ := hrel
  obtain ⟨an, cn, rfl, -, -⟩ := id rn
  have hlt : t.length ≤ 1200 := by
   have h1 := dt_size s 400 hs
   rw [HD.out, List.length_append] at h1
   omega
  have hsz : (strB t).size ≤ 1200 := by rw [strB_size]; exact hlt
  by_cases hm0 : m = 0
  ·subst hm0
   have e0 : (M.digs D32 0).length = 0 := rfl
   have c0 := cel2_0' kc
   have HE : Hid (T = t) := by show T = t; rw [HT.out, HD.out, dt_zero]; rfl
   clear rn HD HT
   rw [e0]
   by_cases ht : t = []
   ·subst ht
    have E0 : (strB []) = ⟨#[]⟩ := rfl
    rw [E0]
    go_wp2
    go_ret
    exact ⟨by rw [HTT.out, HE.out]; rfl, bb⟩
   ·have HN := shut ht
    have hne := strB_ne ht
    clear ht e0
    cases n0 with
    | false =>
     go_wp2
     go_ret
     exact ⟨by rw [HTT.out, HE.out, if_neg HN.out]; rfl, bb⟩
    | true =>
     go_wp2
     go_ret
     exact ⟨by rw [HTT.out, HE.out, if_neg HN.out, if_pos trivial, strB_cons]; rfl, bb⟩
  ·have hp : 0 < (M.digs D32 m).length := digs_pos D32_two (by omega)
   have hp' : ((M.digs D32 m).length : Int) > 0 := by omega
   have HDv := shut (fun v0 v1 w r0 r1 => rdiv_dig (X := m) (Y := 10) (K := 200) (by omega) (Nat.lt_of_le_of_lt hm (natOf_lt4 200 (by omega))) ten_lt (by omega) v0 v1 w r0 r1)
   rw [ten_dig, mod_dig] at HDv
   have HDT : Hid (dt (natOf s) = dt (m / 10) ++ ((48 + m % 10) :: t)) := by
    show _ = _
    rw [HD.out, dt_pos (by omega), List.append_assoc]; rfl
   have HSZ : Hid ((dt (natOf s)).length - (strB ((48 + m % 10) :: t)).size < (dt (natOf s)).length - (strB t).size) := by
    show _ < _
    rw [HDT.out, strB_size, strB_size]
    simp
    omega
   have HM : Hid (m / 10 ≤ natOf s) := Nat.le_trans (Nat.div_le_self _ _) hm
   clear HD HT HTT hm
   generalize hq : m / 10 = q at *
   generalize hl : (M.digs D32 m).length = L at *
   generalize hx : m % 10 = x at *
   have hx10 : x < 10 := by omega
   by_cases h0 : x = 0
   ·subst h0
    rw [if_pos rfl] at HDv
    clear hq hx hm0
    go_wp2_with fail
    obtain ⟨w2, hw2⟩ : ∃ w2, w2 = wr.alloc (.cells #[.int .u64 10] 73) := ⟨_, rfl⟩
    have b2 : Below wr.heap.size wr w2 := by rw [hw2]; exact (Below.refl _ _).alloc (Nat.le_refl _) _
    have rP : Rd w2 (.slice (some ⟨wr.heap.size, 0, none⟩) 1 1) [10] := by rw [hw2]; exact rd1 wr rfl 10
    rw [← hw2]
    clear hw2
    refine (HDv.out _ _ w2 (rn.below b2) rP).mono ?_
    rintro e w3 ⟨vq, vr, rfl, rq, rr, b3⟩
    obtain ⟨aq, cq, rfl, -, -⟩ := id rq
    obtain ⟨ar, cr, rfl, -, -⟩ := id rr
    have bx := Below.after b2 b3
    replace kc := kc.below bx
    replace bb := Below.after bb bx
    clear rn HDv bx b2 b3 rP rr hl hp hp'
    have hcv := run_one w3 48
    rw [show ((48 : Nat) : Int) = 48 from rfl] at hcv
    have hs1 : (strB [48]).size ≤ 1 := by rw [strB_size]; exact Nat.le_refl _
    have b4 : Below w3.heap.size w3 (w3.alloc (.cells #[.int .u8 ((48 : Nat) : Int)] 5)) := (Below.refl _ _).alloc (Nat.le_refl _) _
    have R4 := shut (rq.below b4)
    have K4 := shut (kc.below b4)
    have B4 := shut (Below.after bb b4)
    clear rq kc bb b4
    go_wp2
    refine ⟨⟨q, 48 :: t, HM.out, ?_, R4.out, HDT, K4.out, B4.out⟩, ?_⟩
    ·rw [strB_cons 48 t]
    ·have h := HSZ.out
     rw [show 48 + 0 = 48 from rfl, strB_cons 48 t] at h
     exact h
   ·rw [if_neg h0] at HDv
    clear hq hx hm0
    go_wp2_with fail
    obtain ⟨w2, hw2⟩ : ∃ w2, w2 = wr.alloc (.cells #[.int .u64 10] 73) := ⟨_, rfl⟩
    have b2 : Below wr.heap.size wr w2 := by rw [hw2]; exact (Below.refl _ _).alloc (Nat.le_refl _) _
    have rP : Rd w2 (.slice (some ⟨wr.heap.size, 0, none⟩) 1 1) [10] := by rw [hw2]; exact rd1 wr rfl 10
    rw [← hw2]
    clear hw2
    refine (HDv.out _ _ w2 (rn.below b2) rP).mono ?_
    rintro e w3 ⟨vq, vr, rfl, rq, rr, b3⟩
    obtain ⟨aq, cq, rfl, -, -⟩ := id rq
    obtain ⟨ar, cr, rfl, -, hcl⟩ := id rr
    obtain ⟨g, off, rfl, hc0⟩ := hcl 0 (by simp)
    have bx := Below.after b2 b3
    replace kc := kc.below bx
    replace bb := Below.after bb bx
    clear rn HDv bx b2 b3 rP rr hl hp hp' hcl
    have hc1 : w3.cell? ⟨g, off, none⟩ = some (.int .u64 (x : Nat)) := hc0
    have y1 : IntKind.u64.wrap (48 + (x : Int)) = ((48 + x : Nat) : Int) := by simp only [IntKind.wrap_u64]; omega
    have y2 : IntKind.u8.wrap ((48 + x : Nat) : Int) = ((48 + x : Nat) : Int) := by simp only [IntKind.wrap_u8]; omega
    have hcv := run_one w3 (48 + x)
    have b4 : Below w3.heap.size w3 (w3.alloc (.cells #[.int .u8 ((48 + x : Nat) : Int)] 5)) := (Below.refl _ _).alloc (Nat.le_refl _) _
    have R4 := shut (rq.below b4)
    have K4 := shut (kc.below b4)
    have B4 := shut (Below.after bb b4)
    clear rq kc bb b4 hc0
    generalize hD : 48 + x = D at *
    have hs1 : (strB [D]).size ≤ 1 := by rw [strB_size]; exact Nat.le_refl _
    go_wp2
    refine ⟨⟨q, D :: t, HM.out, ?_, R4.out, HDT, K4.out, B4.out⟩, ?_⟩
    ·rw [strB_cons D t]
    ·have h := HSZ.out
     rw [strB_cons D t] at h
     exact h
end

section
open Go.RowKit Go.Shelf
set_option maxRecDepth 100000 in
set_option maxHeartbeats 8000000 in
theorem dec_low (n : Bool) (s d : ByteArray) (p : Int) (hp : p < 0) (w : World)
  (HC : Hid (∀ w1, Below w.heap.size w w1 → Calls Tryz.prog 46 #[.agg #[.bool n, .string s, .string d]] w1 fun e w' => e = .returned (.int .i64 0) ∧ Below w1.heap.size w1 w')) :
  Calls Tryz.prog 28 #[.agg #[.bool n, .string s, .string d], .int .i64 p] w fun e w' => e = .returned (.tuple #[.string { data := #[] }, .int .i64 1]) ∧ Below w.heap.size w w' := by
 go_enter Tryz.func28, Tryz.ntmps28
 go_wp2_with fail
 go_fit (HC.out _ (ba (Below.refl _ _) _))
 rintro e w1 ⟨rfl, b1⟩
 obtain ⟨ka, b1⟩ := al1 b1
 have sz := b1.size
 have bb := b1
 clear b1
 have ta := ka.lt
 go_wp2
 go_ret2
 exact ⟨rfl, bb⟩
set_option maxRecDepth 100000 in
set_option maxHeartbeats 8000000 in
theorem dec_high (n : Bool) (s d : ByteArray) (p : Int) (hp0 : ¬ p < 0) (hp : 100 < p) (w : World)
  (HC : Hid (∀ w1, Below w.heap.size w w1 → Calls Tryz.prog 46 #[.agg #[.bool n, .string s, .string d]] w1 fun e w' => e = .returned (.int .i64 0) ∧ Below w1.heap.size w1 w')) :
  Calls Tryz.prog 28 #[.agg #[.bool n, .string s, .string d], .int .i64 p] w fun e w' => e = .returned (.tuple #[.string { data := #[] }, .int .i64 1]) ∧ Below w.heap.size w w' := by
 go_enter Tryz.func28, Tryz.ntmps28
 go_wp2_with fail
 go_fit (HC.out _ (ba (Below.refl _ _) _))
 rintro e w1 ⟨rfl, b1⟩
 obtain ⟨ka, b1⟩ := al1 b1
 have sz := b1.size
 have bb := b1
 clear b1
 have ta := ka.lt
 go_wp2
 go_ret2
 exact ⟨rfl, bb⟩
end
end Go.Proofs.YtdbnkcimcpnpdaaGreatDoor
