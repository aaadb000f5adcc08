/-
  Integrals over both halves of a triangle: the mathematics; parts of rows.
  gussetlaw07: PolyHalves, walked.
-/
import Derived.Deep.MidRow
import Derived.Test.YtbafjmjcepcckaaGreatDoorM46
import Derived.Test.YtbafjmjcepcckaaGreatDoorM47
set_option maxRecDepth 100000
set_option maxHeartbeats 16000000
namespace Go.Proofs.YtbafjmjcepcckaaGreatDoor
open Go.RowKit
theorem Cel.rg {w : World} {g : Nat} {L : List Value} {t : TypeId} (h : Cel w g L t) (o : Nat) (cs post : List Value) (e : L.drop o = cs ++ post) : w.rangeAt g o cs := fun j v hv => by
 rw [h.cell (o + j), ← List.getElem?_drop, e, List.getElem?_append_left (List.getElem?_eq_some_iff.1 hv).1]
 exact hv
theorem Cel.rowO {w : World} {g g' : Nat} {cs : List Value} {t : TypeId} (h : Cel w g cs t) (hne : g ≠ g') (c : Array Value) : Cel (w.setRow g' c) g cs t := by
 unfold Cel at h ⊢
 rw [setRow_other w g' g c (fun e => hne (by omega))]
 exact h
theorem ev_bary (r : Nat → Rat) (x0 y0 x1 y1 x2 y2 a b c h : Rat) (hh : h + h = 1) (hs : a + b + c = 1) :
  ev r (a * x0 + b * x1 + c * x2) (a * y0 + b * y1 + c * y2) = a * (2 * a - 1) * ev r x0 y0 + b * (2 * b - 1) * ev r x1 y1 + c * (2 * c - 1) * ev r x2 y2 + 4 * (a * b) * ev r ((x0 + x1) * h) ((y0 + y1) * h) + 4 * (b * c) * ev r ((x1 + x2) * h) ((y1 + y2) * h) + 4 * (a * c) * ev r ((x0 + x2) * h) ((y0 + y2) * h) := by
 obtain rfl : h = 1 / 2 := by grind
 obtain rfl : c = 1 - a - b := by grind
 unfold ev
 generalize r 0 = r0
 generalize r 1 = r1
 generalize r 2 = r2
 generalize r 3 = r3
 generalize r 4 = r4
 generalize r 5 = r5
 grind
def q6 (a b c d e f : Rat) : Rat := a * (6*a - b - c - 4*e) + b * (-a + 6*b - c - 4*f) + c * (-a - b + 6*c - 4*d) + d * (-4*c + 32*d+16*e+16*f) + e * (-4*a+16*d+32*e+16*f) + f * (-4*b+16*d+16*e+32*f)
def in6 (d e f : Rat) : Rat := 20*d+20*e+20*f
def b6 (F0 F1 F2 F3 F4 F5 a b c : Rat) : Rat := a * (2 * a - 1) * F0 + b * (2 * b - 1) * F1 + c * (2 * c - 1) * F2 + 4 * (a * b) * F3 + 4 * (b * c) * F4 + 4 * (a * c) * F5
theorem qs_q6 (F : Nat → Rat) : qs F = q6 (F 0) (F 1) (F 2) (F 3) (F 4) (F 5) := by
 unfold qs lsum q6
 simp [sqW, sqT]
 grind
theorem in_in6 (F : Nat → Rat) : lsum inW F = in6 (F 3) (F 4) (F 5) := by
 unfold lsum in6
 simp [inW, inT]
 grind
theorem in_half (F0 F1 F2 F3 F4 F5 k h : Rat) (hh : h + h = 1) : k * in6 (b6 F0 F1 F2 F3 F4 F5 (1 - k * h) (k * h) 0) (b6 F0 F1 F2 F3 F4 F5 ((1 - k) * h) (k * h) h) F5 + (1 - k) * in6 (b6 F0 F1 F2 F3 F4 F5 ((1 - k) * h) ((1 + k) * h) 0) F4 (b6 F0 F1 F2 F3 F4 F5 ((1 - k) * h) (k * h) h) = in6 F3 F4 F5 := by
 obtain rfl : h = 1 / 2 := by grind
 unfold in6 b6
 grind
theorem q_half (F0 F1 F2 F3 F4 F5 k h : Rat) (hh : h + h = 1) : k * q6 F0 (b6 F0 F1 F2 F3 F4 F5 (1 - k) k 0) F2 (b6 F0 F1 F2 F3 F4 F5 (1 - k * h) (k * h) 0) (b6 F0 F1 F2 F3 F4 F5 ((1 - k) * h) (k * h) h) F5 + (1 - k) * q6 (b6 F0 F1 F2 F3 F4 F5 (1 - k) k 0) F1 F2 (b6 F0 F1 F2 F3 F4 F5 ((1 - k) * h) ((1 + k) * h) 0) F4 (b6 F0 F1 F2 F3 F4 F5 ((1 - k) * h) (k * h) h) = q6 F0 F1 F2 F3 F4 F5 := by
 obtain rfl : h = 1 / 2 := by grind
 unfold q6 b6
 grind
theorem Fn_b6 (r : Nat → Rat) (x0 z0 x1 z1 x2 z2 a b c X Y : Rat) (hs : a + b + c = 1) (hX : X = a * x0 + b * x1 + c * x2) (hY : Y = a * z0 + b * z1 + c * z2) : ev r X Y = b6 (Fn r (six x0 x1 x2 z0 z1 z2) 0) (Fn r (six x0 x1 x2 z0 z1 z2) 1) (Fn r (six x0 x1 x2 z0 z1 z2) 2) (Fn r (six x0 x1 x2 z0 z1 z2) 3) (Fn r (six x0 x1 x2 z0 z1 z2) 4) (Fn r (six x0 x1 x2 z0 z1 z2) 5) (a) (b) (c) := by
 obtain ⟨f0, f1, f2, f3, f4, f5⟩ := Fn_at r x0 z0 x1 z1 x2 z2
 rw [hX, hY, f0, f1, f2, f3, f4, f5, ev_bary r x0 z0 x1 z1 x2 z2 a b c (Rat.divInt 1 2) half_eq hs]
 rfl
theorem Fn_hb (r : Nat → Rat) (x0 z0 x1 z1 x2 z2 k : Rat) : Fn r (six x0 (x0 + (x1 - x0) * k) x2 z0 (z0 + (z1 - z0) * k) z2) 0 = Fn r (six x0 x1 x2 z0 z1 z2) 0 ∧ Fn r (six x0 (x0 + (x1 - x0) * k) x2 z0 (z0 + (z1 - z0) * k) z2) 1 = b6 (Fn r (six x0 x1 x2 z0 z1 z2) 0) (Fn r (six x0 x1 x2 z0 z1 z2) 1) (Fn r (six x0 x1 x2 z0 z1 z2) 2) (Fn r (six x0 x1 x2 z0 z1 z2) 3) (Fn r (six x0 x1 x2 z0 z1 z2) 4) (Fn r (six x0 x1 x2 z0 z1 z2) 5) (1 - k) (k) (0) ∧ Fn r (six x0 (x0 + (x1 - x0) * k) x2 z0 (z0 + (z1 - z0) * k) z2) 2 = Fn r (six x0 x1 x2 z0 z1 z2) 2 ∧ Fn r (six x0 (x0 + (x1 - x0) * k) x2 z0 (z0 + (z1 - z0) * k) z2) 3 = b6 (Fn r (six x0 x1 x2 z0 z1 z2) 0) (Fn r (six x0 x1 x2 z0 z1 z2) 1) (Fn r (six x0 x1 x2 z0 z1 z2) 2) (Fn r (six x0 x1 x2 z0 z1 z2) 3) (Fn r (six x0 x1 x2 z0 z1 z2) 4) (Fn r (six x0 x1 x2 z0 z1 z2) 5) (1 - k * Rat.divInt 1 2) (k * Rat.divInt 1 2) (0) ∧ Fn r (six x0 (x0 + (x1 - x0) * k) x2 z0 (z0 + (z1 - z0) * k) z2) 4 = b6 (Fn r (six x0 x1 x2 z0 z1 z2) 0) (Fn r (six x0 x1 x2 z0 z1 z2) 1) (Fn r (six x0 x1 x2 z0 z1 z2) 2) (Fn r (six x0 x1 x2 z0 z1 z2) 3) (Fn r (six x0 x1 x2 z0 z1 z2) 4) (Fn r (six x0 x1 x2 z0 z1 z2) 5) ((1 - k) * Rat.divInt 1 2) (k * Rat.divInt 1 2) (Rat.divInt 1 2) ∧ Fn r (six x0 (x0 + (x1 - x0) * k) x2 z0 (z0 + (z1 - z0) * k) z2) 5 = Fn r (six x0 x1 x2 z0 z1 z2) 5 := by
 obtain ⟨f0, f1, f2, f3, f4, f5⟩ := Fn_at r x0 z0 x1 z1 x2 z2
 obtain ⟨g0, g1, g2, g3, g4, g5⟩ := Fn_at r x0 z0 (x0 + (x1 - x0) * k) (z0 + (z1 - z0) * k) x2 z2
 have hh := half_eq
 generalize Rat.divInt 1 2 = h at *
 refine ⟨by rw [g0, f0], ?_, by rw [g2, f2], ?_, ?_, by rw [g5, f5]⟩
 ·rw [g1]; exact Fn_b6 r x0 z0 x1 z1 x2 z2 _ _ _ _ _ (by grind) (by grind) (by grind)
 ·rw [g3]; exact Fn_b6 r x0 z0 x1 z1 x2 z2 _ _ _ _ _ (by grind) (by grind) (by grind)
 ·rw [g4]; exact Fn_b6 r x0 z0 x1 z1 x2 z2 _ _ _ _ _ (by grind) (by grind) (by grind)
theorem Fn_hc (r : Nat → Rat) (x0 z0 x1 z1 x2 z2 k : Rat) : Fn r (six (x0 + (x1 - x0) * k) x1 x2 (z0 + (z1 - z0) * k) z1 z2) 0 = b6 (Fn r (six x0 x1 x2 z0 z1 z2) 0) (Fn r (six x0 x1 x2 z0 z1 z2) 1) (Fn r (six x0 x1 x2 z0 z1 z2) 2) (Fn r (six x0 x1 x2 z0 z1 z2) 3) (Fn r (six x0 x1 x2 z0 z1 z2) 4) (Fn r (six x0 x1 x2 z0 z1 z2) 5) (1 - k) (k) (0) ∧ Fn r (six (x0 + (x1 - x0) * k) x1 x2 (z0 + (z1 - z0) * k) z1 z2) 1 = Fn r (six x0 x1 x2 z0 z1 z2) 1 ∧ Fn r (six (x0 + (x1 - x0) * k) x1 x2 (z0 + (z1 - z0) * k) z1 z2) 2 = Fn r (six x0 x1 x2 z0 z1 z2) 2 ∧ Fn r (six (x0 + (x1 - x0) * k) x1 x2 (z0 + (z1 - z0) * k) z1 z2) 3 = b6 (Fn r (six x0 x1 x2 z0 z1 z2) 0) (Fn r (six x0 x1 x2 z0 z1 z2) 1) (Fn r (six x0 x1 x2 z0 z1 z2) 2) (Fn r (six x0 x1 x2 z0 z1 z2) 3) (Fn r (six x0 x1 x2 z0 z1 z2) 4) (Fn r (six x0 x1 x2 z0 z1 z2) 5) ((1 - k) * Rat.divInt 1 2) ((1 + k) * Rat.divInt 1 2) (0) ∧ Fn r (six (x0 + (x1 - x0) * k) x1 x2 (z0 + (z1 - z0) * k) z1 z2) 4 = Fn r (six x0 x1 x2 z0 z1 z2) 4 ∧ Fn r (six (x0 + (x1 - x0) * k) x1 x2 (z0 + (z1 - z0) * k) z1 z2) 5 = b6 (Fn r (six x0 x1 x2 z0 z1 z2) 0) (Fn r (six x0 x1 x2 z0 z1 z2) 1) (Fn r (six x0 x1 x2 z0 z1 z2) 2) (Fn r (six x0 x1 x2 z0 z1 z2) 3) (Fn r (six x0 x1 x2 z0 z1 z2) 4) (Fn r (six x0 x1 x2 z0 z1 z2) 5) ((1 - k) * Rat.divInt 1 2) (k * Rat.divInt 1 2) (Rat.divInt 1 2) := by
 obtain ⟨f0, f1, f2, f3, f4, f5⟩ := Fn_at r x0 z0 x1 z1 x2 z2
 obtain ⟨g0, g1, g2, g3, g4, g5⟩ := Fn_at r (x0 + (x1 - x0) * k) (z0 + (z1 - z0) * k) x1 z1 x2 z2
 have hh := half_eq
 generalize Rat.divInt 1 2 = h at *
 refine ⟨?_, by rw [g1, f1], by rw [g2, f2], ?_, by rw [g4, f4], ?_⟩
 ·rw [g0]; exact Fn_b6 r x0 z0 x1 z1 x2 z2 _ _ _ _ _ (by grind) (by grind) (by grind)
 ·rw [g3]; exact Fn_b6 r x0 z0 x1 z1 x2 z2 _ _ _ _ _ (by grind) (by grind) (by grind)
 ·rw [g5]; exact Fn_b6 r x0 z0 x1 z1 x2 z2 _ _ _ _ _ (by grind) (by grind) (by grind)
theorem int_half (r : Nat → Rat) (x0 z0 x1 z1 x2 z2 k : Rat) : k * lsum inW (Fn r (six x0 (x0 + (x1 - x0) * k) x2 z0 (z0 + (z1 - z0) * k) z2)) + (1 - k) * lsum inW (Fn r (six (x0 + (x1 - x0) * k) x1 x2 (z0 + (z1 - z0) * k) z1 z2)) = lsum inW (Fn r (six x0 x1 x2 z0 z1 z2)) := by
 obtain ⟨b0, b1, b2, b3, b4, b5⟩ := Fn_hb r x0 z0 x1 z1 x2 z2 k
 obtain ⟨c0, c1, c2, c3, c4, c5⟩ := Fn_hc r x0 z0 x1 z1 x2 z2 k
 rw [in_in6, in_in6, in_in6, b3, b4, b5, c3, c4, c5]
 exact in_half _ _ _ _ _ _ k _ half_eq
theorem sq_half (r : Nat → Rat) (x0 z0 x1 z1 x2 z2 k : Rat) : k * qs (Fn r (six x0 (x0 + (x1 - x0) * k) x2 z0 (z0 + (z1 - z0) * k) z2)) + (1 - k) * qs (Fn r (six (x0 + (x1 - x0) * k) x1 x2 (z0 + (z1 - z0) * k) z1 z2)) = qs (Fn r (six x0 x1 x2 z0 z1 z2)) := by
 obtain ⟨b0, b1, b2, b3, b4, b5⟩ := Fn_hb r x0 z0 x1 z1 x2 z2 k
 obtain ⟨c0, c1, c2, c3, c4, c5⟩ := Fn_hc r x0 z0 x1 z1 x2 z2 k
 rw [qs_q6, qs_q6, qs_q6, b0, b1, b2, b3, b4, b5, c0, c1, c2, c3, c4, c5]
 exact q_half _ _ _ _ _ _ k _ half_eq
theorem area_hb (x0 z0 x1 z1 x2 z2 k : Rat) : ((x0 + (x1 - x0) * k) - x0) * (z2 - z0) - ((z0 + (z1 - z0) * k) - z0) * (x2 - x0) = ((x1 - x0) * (z2 - z0) - (z1 - z0) * (x2 - x0)) * k := by grind
theorem area_hc (x0 z0 x1 z1 x2 z2 k : Rat) : (x1 - (x0 + (x1 - x0) * k)) * (z2 - (z0 + (z1 - z0) * k)) - (z1 - (z0 + (z1 - z0) * k)) * (x2 - (x0 + (x1 - x0) * k)) = ((x1 - x0) * (z2 - z0) - (z1 - z0) * (x2 - x0)) * (1 - k) := by grind
theorem halves_b1 (n0 n1 n2 n3 n4 n5 p0 p1 p2 p3 p4 p5 : Bool) (s0 d0 s1 d1 s2 d2 s3 d3 s4 d4 s5 d5 q0 r0 q1 r1 q2 r2 q3 r3 q4 r4 q5 r5 : ByteArray) (n d : Int) (g1 : d < 2) (w : World)
  (HF : Hid (∀ w1, Below w.heap.size w w1 → Calls Tryz.prog 8 #[.agg #[.bool n0, .string s0, .string d0, .bool n1, .string s1, .string d1, .bool n2, .string s2, .string d2, .bool n3, .string s3, .string d3, .bool n4, .string s4, .string d4, .bool n5, .string s5, .string d5], .agg #[.bool p0, .string q0, .string r0, .bool p1, .string q1, .string r1, .bool p2, .string q2, .string r2, .bool p3, .string q3, .string r3, .bool p4, .string q4, .string r4, .bool p5, .string q5, .string r5]] w1 (Re w1 (.bool true))))
  (HT : Hid (∀ w1, Below w.heap.size w w1 → Calls Tryz.prog 18 #[.agg #[.bool n0, .string s0, .string d0, .bool n1, .string s1, .string d1, .bool n2, .string s2, .string d2, .bool n3, .string s3, .string d3, .bool n4, .string s4, .string d4, .bool n5, .string s5, .string d5], .agg #[.bool p0, .string q0, .string r0, .bool p1, .string q1, .string r1, .bool p2, .string q2, .string r2, .bool p3, .string q3, .string r3, .bool p4, .string q4, .string r4, .bool p5, .string q5, .string r5]] w1 (Re w1 (.int .i64 0))))
  (HL : Hid (∀ w1, Below w.heap.size w w1 → Calls Tryz.prog 9 #[] w1 (Re w1 (.bool true)))) :
  Calls Tryz.prog 7 #[.agg #[.bool n0, .string s0, .string d0, .bool n1, .string s1, .string d1, .bool n2, .string s2, .string d2, .bool n3, .string s3, .string d3, .bool n4, .string s4, .string d4, .bool n5, .string s5, .string d5, .bool p0, .string q0, .string r0, .bool p1, .string q1, .string r1, .bool p2, .string q2, .string r2, .bool p3, .string q3, .string r3, .bool p4, .string q4, .string r4, .bool p5, .string q5, .string r5, .int .i64 n, .int .i64 d]] w (Re w (.bool true)) := by
 go_enter Tryz.func7, Tryz.ntmps7
 go_upto_region 1 with fail
 obtain ⟨w0, hq, kh, bb⟩ := mk1 w [.bool n0, .string s0, .string d0, .bool n1, .string s1, .string d1, .bool n2, .string s2, .string d2, .bool n3, .string s3, .string d3, .bool n4, .string s4, .string d4, .bool n5, .string s5, .string d5, .bool p0, .string q0, .string r0, .bool p1, .string q1, .string r1, .bool p2, .string q2, .string r2, .bool p3, .string q3, .string r3, .bool p4, .string q4, .string r4, .bool p5, .string q5, .string r5, .int .i64 n, .int .i64 d] 56
 rw [← hq]
 clear hq
 go_cut [3, 4, 5, 6] from 21 to 28 (fun v u y5 y6 wx => ∃ gf gt, v = .pointer (some ⟨gf, 0, none⟩) ∧ u = .pointer (some ⟨gt, 0, none⟩) ∧ y5 = .int .i64 n ∧ y6 = .int .i64 d ∧ Cel wx gf [.bool n0, .string s0, .string d0, .bool n1, .string s1, .string d1, .bool n2, .string s2, .string d2, .bool n3, .string s3, .string d3, .bool n4, .string s4, .string d4, .bool n5, .string s5, .string d5] 28 ∧ Cel wx gt [.bool p0, .string q0, .string r0, .bool p1, .string q1, .string r1, .bool p2, .string q2, .string r2, .bool p3, .string q3, .string r3, .bool p4, .string q4, .string r4, .bool p5, .string q5, .string r5] 32 ∧ Below w0.heap.size w0 wx)
 case first =>
  have mk : Hid (∀ w', SB w0 w' → w'.cell? ⟨w.heap.size, 36, none⟩ = some (.int .i64 n) ∧ w'.cell? ⟨w.heap.size, 37, none⟩ = some (.int .i64 d)) := fun w' h => by
   have kh' := kh.below h
   exact ⟨kh'.cell 36, kh'.cell 37⟩
  refine wp_region_held_drew (S := SB w0) (by kernel_rfl) (bdrew _) (fun bc => ?_)
  refine WA.start (n := 14) (by kernel_rfl) ?_
  refine WA.tk 0 rfl ?_
  refine WA.tk 1 rfl ?_ (hy := yieldsIf_load_mid (by rfl) 28 _ rfl w.heap.size 0 rfl [.bool n0, .string s0, .string d0, .bool n1, .string s1, .string d1, .bool n2, .string s2, .string d2, .bool n3, .string s3, .string d3, .bool n4, .string s4, .string d4, .bool n5, .string s5, .string d5] _ (fun w' h => (kh.below h).rg 0 [.bool n0, .string s0, .string d0, .bool n1, .string s1, .string d1, .bool n2, .string s2, .string d2, .bool n3, .string s3, .string d3, .bool n4, .string s4, .string d4, .bool n5, .string s5, .string d5] [.bool p0, .string q0, .string r0, .bool p1, .string q1, .string r1, .bool p2, .string q2, .string r2, .bool p3, .string q3, .string r3, .bool p4, .string q4, .string r4, .bool p5, .string q5, .string r5, .int .i64 n, .int .i64 d] rfl) Tryz.underlying28 rfl (by kernel_rfl))
  refine WA.tk 2 rfl ?_
  refine WA.tk 3 rfl ?_ (hy := yieldsIf_load_mid (by rfl) 32 _ rfl w.heap.size 18 rfl [.bool p0, .string q0, .string r0, .bool p1, .string q1, .string r1, .bool p2, .string q2, .string r2, .bool p3, .string q3, .string r3, .bool p4, .string q4, .string r4, .bool p5, .string q5, .string r5] _ (fun w' h => (kh.below h).rg 18 [.bool p0, .string q0, .string r0, .bool p1, .string q1, .string r1, .bool p2, .string q2, .string r2, .bool p3, .string q3, .string r3, .bool p4, .string q4, .string r4, .bool p5, .string q5, .string r5] [.int .i64 n, .int .i64 d] rfl) Tryz.underlying32 rfl (by kernel_rfl))
  refine WA.tk 4 rfl ?_
  refine WA.tl 5 rfl ?_
  refine WA.tk 6 rfl ?_
  refine WA.tl 7 rfl ?_
  clear mk
  refine WA.gen2 (i := 8) (s := 3) (i' := 9) (s' := 4) undef undef (Pt w0 [.bool false, .string { data := #[] }, .string { data := #[] }, .bool false, .string { data := #[] }, .string { data := #[] }, .bool false, .string { data := #[] }, .string { data := #[] }, .bool false, .string { data := #[] }, .string { data := #[] }, .bool false, .string { data := #[] }, .string { data := #[] }, .bool false, .string { data := #[] }, .string { data := #[] }] 28) (Pt w0 [.bool false, .string { data := #[] }, .string { data := #[] }, .bool false, .string { data := #[] }, .string { data := #[] }, .bool false, .string { data := #[] }, .string { data := #[] }, .bool false, .string { data := #[] }, .string { data := #[] }, .bool false, .string { data := #[] }, .string { data := #[] }, .bool false, .string { data := #[] }, .string { data := #[] }] 32) (fun b b' x x' hz hy hn => ?_)
  simp only [Act.put, List.setIfInBounds_toArray, List.set_cons_zero, List.set_cons_succ]
  replace hz := P2.mk hz hy hn
  clear hy hn
  revert b b' x x'
  refine WA.fin2 8 9 rfl rfl bc ?_
  clear bc
  intro x x' w' hz bx bc
  obtain ⟨g0, rfl, h0, k0⟩ := hz.p rfl
  obtain ⟨g1, rfl, h1, k1⟩ := hz.p' rfl
  have n01 : ¬ g0 = g1 := fun e => hz.ne rfl rfl (by rw [e])
  clear bx hz
  refine WA.call 10 rfl (fun K hK => ?_)
  rw [if_pos (by rfl)]
  refine wp_store_row 28 _ _ rfl g0 #[.bool n0, .string s0, .string d0, .bool n1, .string s1, .string d1, .bool n2, .string s2, .string d2, .bool n3, .string s3, .string d3, .bool n4, .string s4, .string d4, .bool n5, .string s5, .string d5] rfl rfl 28 _ k0 (by kernel_rfl) rfl (by kernel_rfl) ?_
  refine hK.out _ _ (below_setRow bc h0 _) (fun _ => ?_)
  clear hK K
  replace bc := below_setRow bc h0 #[.bool n0, .string s0, .string d0, .bool n1, .string s1, .string d1, .bool n2, .string s2, .string d2, .bool n3, .string s3, .string d3, .bool n4, .string s4, .string d4, .bool n5, .string s5, .string d5]
  replace k1 := Cel.rowO k1 (fun e => n01 e.symm) #[.bool n0, .string s0, .string d0, .bool n1, .string s1, .string d1, .bool n2, .string s2, .string d2, .bool n3, .string s3, .string d3, .bool n4, .string s4, .string d4, .bool n5, .string s5, .string d5]
  replace k0 : Cel (w'.setRow g0 #[.bool n0, .string s0, .string d0, .bool n1, .string s1, .string d1, .bool n2, .string s2, .string d2, .bool n3, .string s3, .string d3, .bool n4, .string s4, .string d4, .bool n5, .string s5, .string d5]) g0 [.bool n0, .string s0, .string d0, .bool n1, .string s1, .string d1, .bool n2, .string s2, .string d2, .bool n3, .string s3, .string d3, .bool n4, .string s4, .string d4, .bool n5, .string s5, .string d5] 28 := setRow_heap _ _ _ _ _ _ k0
  generalize w'.setRow g0 #[.bool n0, .string s0, .string d0, .bool n1, .string s1, .string d1, .bool n2, .string s2, .string d2, .bool n3, .string s3, .string d3, .bool n4, .string s4, .string d4, .bool n5, .string s5, .string d5] = wa at *
  refine WA.call 11 rfl (fun K hK => ?_)
  rw [if_pos (by rfl)]
  refine wp_store_row 32 _ _ rfl g1 #[.bool p0, .string q0, .string r0, .bool p1, .string q1, .string r1, .bool p2, .string q2, .string r2, .bool p3, .string q3, .string r3, .bool p4, .string q4, .string r4, .bool p5, .string q5, .string r5] rfl rfl 32 _ k1 (by kernel_rfl) rfl (by kernel_rfl) ?_
  refine hK.out _ _ (below_setRow bc h1 _) (fun _ => ?_)
  clear hK K
  replace bc := below_setRow bc h1 #[.bool p0, .string q0, .string r0, .bool p1, .string q1, .string r1, .bool p2, .string q2, .string r2, .bool p3, .string q3, .string r3, .bool p4, .string q4, .string r4, .bool p5, .string q5, .string r5]
  replace k0 := Cel.rowO k0 n01 #[.bool p0, .string q0, .string r0, .bool p1, .string q1, .string r1, .bool p2, .string q2, .string r2, .bool p3, .string q3, .string r3, .bool p4, .string q4, .string r4, .bool p5, .string q5, .string r5]
  replace k1 : Cel (wa.setRow g1 #[.bool p0, .string q0, .string r0, .bool p1, .string q1, .string r1, .bool p2, .string q2, .string r2, .bool p3, .string q3, .string r3, .bool p4, .string q4, .string r4, .bool p5, .string q5, .string r5]) g1 [.bool p0, .string q0, .string r0, .bool p1, .string q1, .string r1, .bool p2, .string q2, .string r2, .bool p3, .string q3, .string r3, .bool p4, .string q4, .string r4, .bool p5, .string q5, .string r5] 32 := setRow_heap _ _ _ _ _ _ k1
  generalize wa.setRow g1 #[.bool p0, .string q0, .string r0, .bool p1, .string q1, .string r1, .bool p2, .string q2, .string r2, .bool p3, .string q3, .string r3, .bool p4, .string q4, .string r4, .bool p5, .string q5, .string r5] = wb at *
  refine WA.tk 12 rfl ?_
  refine WA.tk 13 rfl ?_
  refine WA.done (by kernel_rfl) ?_
  go_wp2_with fail
  go_meet
  exact ⟨_, _, rfl, rfl, rfl, rfl, k0, k1, bc⟩
 case rest =>
 obtain ⟨gf, gt, rfl, rfl, rfl, rfl, kf, kt, b1⟩ := hcut
 clear kh
 replace bb := Below.after bb b1
 clear b1
 go_wp2_with (first | (refine wpList_load_row rfl 28 _ rfl _ rfl 28 _ (0, 0) _ kf Tryz.underlying28 rfl (by kernel_rfl) ?_) | (refine wpList_load_row rfl 32 _ rfl _ rfl 32 _ (0, 0) _ kt Tryz.underlying32 rfl (by kernel_rfl) ?_))
 go_fit (HF.out _ bb)
 rintro e w1 ⟨rfl, b1⟩
 replace kf := kf.below b1
 replace kt := kt.below b1
 replace bb := Below.after bb b1
 clear b1
 go_wp2_with (first | (refine wpList_load_rowG (by rfl) 28 _ rfl _ rfl 28 _ (0, 0) _ kf Tryz.underlying28 rfl (by kernel_rfl) ?_) | (refine wpList_load_rowG (by rfl) 32 _ rfl _ rfl 32 _ (0, 0) _ kt Tryz.underlying32 rfl (by kernel_rfl) ?_))
 go_fit (HT.out _ bb)
 rintro e w2 ⟨rfl, b1⟩
 replace kf := kf.below b1
 replace kt := kt.below b1
 replace bb := Below.after bb b1
 clear b1
 clear kf kt
 go_wp2_with fail
 go_fit (HL.out _ bb)
 rintro e w9 ⟨rfl, b1⟩
 replace bb := Below.after bb b1
 clear b1
 go_wp2
 go_ret
 exact ⟨rfl, bb⟩
theorem halves_b2 (n0 n1 n2 n3 n4 n5 p0 p1 p2 p3 p4 p5 : Bool) (s0 d0 s1 d1 s2 d2 s3 d3 s4 d4 s5 d5 q0 r0 q1 r1 q2 r2 q3 r3 q4 r4 q5 r5 : ByteArray) (n d : Int) (g1 : ¬ d < 2) (g2 : 50 < d) (w : World)
  (HF : Hid (∀ w1, Below w.heap.size w w1 → Calls Tryz.prog 8 #[.agg #[.bool n0, .string s0, .string d0, .bool n1, .string s1, .string d1, .bool n2, .string s2, .string d2, .bool n3, .string s3, .string d3, .bool n4, .string s4, .string d4, .bool n5, .string s5, .string d5], .agg #[.bool p0, .string q0, .string r0, .bool p1, .string q1, .string r1, .bool p2, .string q2, .string r2, .bool p3, .string q3, .string r3, .bool p4, .string q4, .string r4, .bool p5, .string q5, .string r5]] w1 (Re w1 (.bool true))))
  (HT : Hid (∀ w1, Below w.heap.size w w1 → Calls Tryz.prog 18 #[.agg #[.bool n0, .string s0, .string d0, .bool n1, .string s1, .string d1, .bool n2, .string s2, .string d2, .bool n3, .string s3, .string d3, .bool n4, .string s4, .string d4, .bool n5, .string s5, .string d5], .agg #[.bool p0, .string q0, .string r0, .bool p1, .string q1, .string r1, .bool p2, .string q2, .string r2, .bool p3, .string q3, .string r3, .bool p4, .string q4, .string r4, .bool p5, .string q5, .string r5]] w1 (Re w1 (.int .i64 0))))
  (HL : Hid (∀ w1, Below w.heap.size w w1 → Calls Tryz.prog 9 #[] w1 (Re w1 (.bool true)))) :
  Calls Tryz.prog 7 #[.agg #[.bool n0, .string s0, .string d0, .bool n1, .string s1, .string d1, .bool n2, .string s2, .string d2, .bool n3, .string s3, .string d3, .bool n4, .string s4, .string d4, .bool n5, .string s5, .string d5, .bool p0, .string q0, .string r0, .bool p1, .string q1, .string r1, .bool p2, .string q2, .string r2, .bool p3, .string q3, .string r3, .bool p4, .string q4, .string r4, .bool p5, .string q5, .string r5, .int .i64 n, .int .i64 d]] w (Re w (.bool true)) := by
 go_enter Tryz.func7, Tryz.ntmps7
 go_upto_region 1 with fail
 obtain ⟨w0, hq, kh, bb⟩ := mk1 w [.bool n0, .string s0, .string d0, .bool n1, .string s1, .string d1, .bool n2, .string s2, .string d2, .bool n3, .string s3, .string d3, .bool n4, .string s4, .string d4, .bool n5, .string s5, .string d5, .bool p0, .string q0, .string r0, .bool p1, .string q1, .string r1, .bool p2, .string q2, .string r2, .bool p3, .string q3, .string r3, .bool p4, .string q4, .string r4, .bool p5, .string q5, .string r5, .int .i64 n, .int .i64 d] 56
 rw [← hq]
 clear hq
 go_cut [3, 4, 5, 6] from 21 to 28 (fun v u y5 y6 wx => ∃ gf gt, v = .pointer (some ⟨gf, 0, none⟩) ∧ u = .pointer (some ⟨gt, 0, none⟩) ∧ y5 = .int .i64 n ∧ y6 = .int .i64 d ∧ Cel wx gf [.bool n0, .string s0, .string d0, .bool n1, .string s1, .string d1, .bool n2, .string s2, .string d2, .bool n3, .string s3, .string d3, .bool n4, .string s4, .string d4, .bool n5, .string s5, .string d5] 28 ∧ Cel wx gt [.bool p0, .string q0, .string r0, .bool p1, .string q1, .string r1, .bool p2, .string q2, .string r2, .bool p3, .string q3, .string r3, .bool p4, .string q4, .string r4, .bool p5, .string q5, .string r5] 32 ∧ Below w0.heap.size w0 wx)
 case first =>
  have mk : Hid (∀ w', SB w0 w' → w'.cell? ⟨w.heap.size, 36, none⟩ = some (.int .i64 n) ∧ w'.cell? ⟨w.heap.size, 37, none⟩ = some (.int .i64 d)) := fun w' h => by
   have kh' := kh.below h
   exact ⟨kh'.cell 36, kh'.cell 37⟩
  refine wp_region_held_drew (S := SB w0) (by kernel_rfl) (bdrew _) (fun bc => ?_)
  refine WA.start (n := 14) (by kernel_rfl) ?_
  refine WA.tk 0 rfl ?_
  refine WA.tk 1 rfl ?_ (hy := yieldsIf_load_mid (by rfl) 28 _ rfl w.heap.size 0 rfl [.bool n0, .string s0, .string d0, .bool n1, .string s1, .string d1, .bool n2, .string s2, .string d2, .bool n3, .string s3, .string d3, .bool n4, .string s4, .string d4, .bool n5, .string s5, .string d5] _ (fun w' h => (kh.below h).rg 0 [.bool n0, .string s0, .string d0, .bool n1, .string s1, .string d1, .bool n2, .string s2, .string d2, .bool n3, .string s3, .string d3, .bool n4, .string s4, .string d4, .bool n5, .string s5, .string d5] [.bool p0, .string q0, .string r0, .bool p1, .string q1, .string r1, .bool p2, .string q2, .string r2, .bool p3, .string q3, .string r3, .bool p4, .string q4, .string r4, .bool p5, .string q5, .string r5, .int .i64 n, .int .i64 d] rfl) Tryz.underlying28 rfl (by kernel_rfl))
  refine WA.tk 2 rfl ?_
  refine WA.tk 3 rfl ?_ (hy := yieldsIf_load_mid (by rfl) 32 _ rfl w.heap.size 18 rfl [.bool p0, .string q0, .string r0, .bool p1, .string q1, .string r1, .bool p2, .string q2, .string r2, .bool p3, .string q3, .string r3, .bool p4, .string q4, .string r4, .bool p5, .string q5, .string r5] _ (fun w' h => (kh.below h).rg 18 [.bool p0, .string q0, .string r0, .bool p1, .string q1, .string r1, .bool p2, .string q2, .string r2, .bool p3, .string q3, .string r3, .bool p4, .string q4, .string r4, .bool p5, .string q5, .string r5] [.int .i64 n, .int .i64 d] rfl) Tryz.underlying32 rfl (by kernel_rfl))
  refine WA.tk 4 rfl ?_
  refine WA.tl 5 rfl ?_
  refine WA.tk 6 rfl ?_
  refine WA.tl 7 rfl ?_
  clear mk
  refine WA.gen2 (i := 8) (s := 3) (i' := 9) (s' := 4) undef undef (Pt w0 [.bool false, .string { data := #[] }, .string { data := #[] }, .bool false, .string { data := #[] }, .string { data := #[] }, .bool false, .string { data := #[] }, .string { data := #[] }, .bool false, .string { data := #[] }, .string { data := #[] }, .bool false, .string { data := #[] }, .string { data := #[] }, .bool false, .string { data := #[] }, .string { data := #[] }] 28) (Pt w0 [.bool false, .string { data := #[] }, .string { data := #[] }, .bool false, .string { data := #[] }, .string { data := #[] }, .bool false, .string { data := #[] }, .string { data := #[] }, .bool false, .string { data := #[] }, .string { data := #[] }, .bool false, .string { data := #[] }, .string { data := #[] }, .bool false, .string { data := #[] }, .string { data := #[] }] 32) (fun b b' x x' hz hy hn => ?_)
  simp only [Act.put, List.setIfInBounds_toArray, List.set_cons_zero, List.set_cons_succ]
  replace hz := P2.mk hz hy hn
  clear hy hn
  revert b b' x x'
  refine WA.fin2 8 9 rfl rfl bc ?_
  clear bc
  intro x x' w' hz bx bc
  obtain ⟨g0, rfl, h0, k0⟩ := hz.p rfl
  obtain ⟨g1, rfl, h1, k1⟩ := hz.p' rfl
  have n01 : ¬ g0 = g1 := fun e => hz.ne rfl rfl (by rw [e])
  clear bx hz
  refine WA.call 10 rfl (fun K hK => ?_)
  rw [if_pos (by rfl)]
  refine wp_store_row 28 _ _ rfl g0 #[.bool n0, .string s0, .string d0, .bool n1, .string s1, .string d1, .bool n2, .string s2, .string d2, .bool n3, .string s3, .string d3, .bool n4, .string s4, .string d4, .bool n5, .string s5, .string d5] rfl rfl 28 _ k0 (by kernel_rfl) rfl (by kernel_rfl) ?_
  refine hK.out _ _ (below_setRow bc h0 _) (fun _ => ?_)
  clear hK K
  replace bc := below_setRow bc h0 #[.bool n0, .string s0, .string d0, .bool n1, .string s1, .string d1, .bool n2, .string s2, .string d2, .bool n3, .string s3, .string d3, .bool n4, .string s4, .string d4, .bool n5, .string s5, .string d5]
  replace k1 := Cel.rowO k1 (fun e => n01 e.symm) #[.bool n0, .string s0, .string d0, .bool n1, .string s1, .string d1, .bool n2, .string s2, .string d2, .bool n3, .string s3, .string d3, .bool n4, .string s4, .string d4, .bool n5, .string s5, .string d5]
  replace k0 : Cel (w'.setRow g0 #[.bool n0, .string s0, .string d0, .bool n1, .string s1, .string d1, .bool n2, .string s2, .string d2, .bool n3, .string s3, .string d3, .bool n4, .string s4, .string d4, .bool n5, .string s5, .string d5]) g0 [.bool n0, .string s0, .string d0, .bool n1, .string s1, .string d1, .bool n2, .string s2, .string d2, .bool n3, .string s3, .string d3, .bool n4, .string s4, .string d4, .bool n5, .string s5, .string d5] 28 := setRow_heap _ _ _ _ _ _ k0
  generalize w'.setRow g0 #[.bool n0, .string s0, .string d0, .bool n1, .string s1, .string d1, .bool n2, .string s2, .string d2, .bool n3, .string s3, .string d3, .bool n4, .string s4, .string d4, .bool n5, .string s5, .string d5] = wa at *
  refine WA.call 11 rfl (fun K hK => ?_)
  rw [if_pos (by rfl)]
  refine wp_store_row 32 _ _ rfl g1 #[.bool p0, .string q0, .string r0, .bool p1, .string q1, .string r1, .bool p2, .string q2, .string r2, .bool p3, .string q3, .string r3, .bool p4, .string q4, .string r4, .bool p5, .string q5, .string r5] rfl rfl 32 _ k1 (by kernel_rfl) rfl (by kernel_rfl) ?_
  refine hK.out _ _ (below_setRow bc h1 _) (fun _ => ?_)
  clear hK K
  replace bc := below_setRow bc h1 #[.bool p0, .string q0, .string r0, .bool p1, .string q1, .string r1, .bool p2, .string q2, .string r2, .bool p3, .string q3, .string r3, .bool p4, .string q4, .string r4, .bool p5, .string q5, .string r5]
  replace k0 := Cel.rowO k0 n01 #[.bool p0, .string q0, .string r0, .bool p1, .string q1, .string r1, .bool p2, .string q2, .string r2, .bool p3, .string q3, .string r3, .bool p4, .string q4, .string r4, .bool p5, .string q5, .string r5]
  replace k1 : Cel (wa.setRow g1 #[.bool p0, .string q0, .string r0, .bool p1, .string q1, .string r1, .bool p2, .string q2, .string r2, .bool p3, .string q3, .string r3, .bool p4, .string q4, .string r4, .bool p5, .string q5, .string r5]) g1 [.bool p0, .string q0, .string r0, .bool p1, .string q1, .string r1, .bool p2, .string q2, .string r2, .bool p3, .string q3, .string r3, .bool p4, .string q4, .string r4, .bool p5, .string q5, .string r5] 32 := setRow_heap _ _ _ _ _ _ k1
  generalize wa.setRow g1 #[.bool p0, .string q0, .string r0, .bool p1, .string q1, .string r1, .bool p2, .string q2, .string r2, .bool p3, .string q3, .string r3, .bool p4, .string q4, .string r4, .bool p5, .string q5, .string r5] = wb at *
  refine WA.tk 12 rfl ?_
  refine WA.tk 13 rfl ?_
  refine WA.done (by kernel_rfl) ?_
  go_wp2_with fail
  go_meet
  exact ⟨_, _, rfl, rfl, rfl, rfl, k0, k1, bc⟩
 case rest =>
 obtain ⟨gf, gt, rfl, rfl, rfl, rfl, kf, kt, b1⟩ := hcut
 clear kh
 replace bb := Below.after bb b1
 clear b1
 go_wp2_with (first | (refine wpList_load_row rfl 28 _ rfl _ rfl 28 _ (0, 0) _ kf Tryz.underlying28 rfl (by kernel_rfl) ?_) | (refine wpList_load_row rfl 32 _ rfl _ rfl 32 _ (0, 0) _ kt Tryz.underlying32 rfl (by kernel_rfl) ?_))
 go_fit (HF.out _ bb)
 rintro e w1 ⟨rfl, b1⟩
 replace kf := kf.below b1
 replace kt := kt.below b1
 replace bb := Below.after bb b1
 clear b1
 go_wp2_with (first | (refine wpList_load_rowG (by rfl) 28 _ rfl _ rfl 28 _ (0, 0) _ kf Tryz.underlying28 rfl (by kernel_rfl) ?_) | (refine wpList_load_rowG (by rfl) 32 _ rfl _ rfl 32 _ (0, 0) _ kt Tryz.underlying32 rfl (by kernel_rfl) ?_))
 go_fit (HT.out _ bb)
 rintro e w2 ⟨rfl, b1⟩
 replace kf := kf.below b1
 replace kt := kt.below b1
 replace bb := Below.after bb b1
 clear b1
 clear kf kt
 go_wp2_with fail
 go_fit (HL.out _ bb)
 rintro e w9 ⟨rfl, b1⟩
 replace bb := Below.after bb b1
 clear b1
 go_wp2
 go_ret
 exact ⟨rfl, bb⟩
theorem halves_b3 (n0 n1 n2 n3 n4 n5 p0 p1 p2 p3 p4 p5 : Bool) (s0 d0 s1 d1 s2 d2 s3 d3 s4 d4 s5 d5 q0 r0 q1 r1 q2 r2 q3 r3 q4 r4 q5 r5 : ByteArray) (n d : Int) (g1 : ¬ d < 2) (g2 : ¬ 50 < d) (g3 : n < 1) (w : World)
  (HF : Hid (∀ w1, Below w.heap.size w w1 → Calls Tryz.prog 8 #[.agg #[.bool n0, .string s0, .string d0, .bool n1, .string s1, .string d1, .bool n2, .string s2, .string d2, .bool n3, .string s3, .string d3, .bool n4, .string s4, .string d4, .bool n5, .string s5, .string d5], .agg #[.bool p0, .string q0, .string r0, .bool p1, .string q1, .string r1, .bool p2, .string q2, .string r2, .bool p3, .string q3, .string r3, .bool p4, .string q4, .string r4, .bool p5, .string q5, .string r5]] w1 (Re w1 (.bool true))))
  (HT : Hid (∀ w1, Below w.heap.size w w1 → Calls Tryz.prog 18 #[.agg #[.bool n0, .string s0, .string d0, .bool n1, .string s1, .string d1, .bool n2, .string s2, .string d2, .bool n3, .string s3, .string d3, .bool n4, .string s4, .string d4, .bool n5, .string s5, .string d5], .agg #[.bool p0, .string q0, .string r0, .bool p1, .string q1, .string r1, .bool p2, .string q2, .string r2, .bool p3, .string q3, .string r3, .bool p4, .string q4, .string r4, .bool p5, .string q5, .string r5]] w1 (Re w1 (.int .i64 0))))
  (HL : Hid (∀ w1, Below w.heap.size w w1 → Calls Tryz.prog 9 #[] w1 (Re w1 (.bool true)))) :
  Calls Tryz.prog 7 #[.agg #[.bool n0, .string s0, .string d0, .bool n1, .string s1, .string d1, .bool n2, .string s2, .string d2, .bool n3, .string s3, .string d3, .bool n4, .string s4, .string d4, .bool n5, .string s5, .string d5, .bool p0, .string q0, .string r0, .bool p1, .string q1, .string r1, .bool p2, .string q2, .string r2, .bool p3, .string q3, .string r3, .bool p4, .string q4, .string r4, .bool p5, .string q5, .string r5, .int .i64 n, .int .i64 d]] w (Re w (.bool true)) := by
 go_enter Tryz.func7, Tryz.ntmps7
 go_upto_region 1 with fail
 obtain ⟨w0, hq, kh, bb⟩ := mk1 w [.bool n0, .string s0, .string d0, .bool n1, .string s1, .string d1, .bool n2, .string s2, .string d2, .bool n3, .string s3, .string d3, .bool n4, .string s4, .string d4, .bool n5, .string s5, .string d5, .bool p0, .string q0, .string r0, .bool p1, .string q1, .string r1, .bool p2, .string q2, .string r2, .bool p3, .string q3, .string r3, .bool p4, .string q4, .string r4, .bool p5, .string q5, .string r5, .int .i64 n, .int .i64 d] 56
 rw [← hq]
 clear hq
 go_cut [3, 4, 5, 6] from 21 to 28 (fun v u y5 y6 wx => ∃ gf gt, v = .pointer (some ⟨gf, 0, none⟩) ∧ u = .pointer (some ⟨gt, 0, none⟩) ∧ y5 = .int .i64 n ∧ y6 = .int .i64 d ∧ Cel wx gf [.bool n0, .string s0, .string d0, .bool n1, .string s1, .string d1, .bool n2, .string s2, .string d2, .bool n3, .string s3, .string d3, .bool n4, .string s4, .string d4, .bool n5, .string s5, .string d5] 28 ∧ Cel wx gt [.bool p0, .string q0, .string r0, .bool p1, .string q1, .string r1, .bool p2, .string q2, .string r2, .bool p3, .string q3, .string r3, .bool p4, .string q4, .string r4, .bool p5, .string q5, .string r5] 32 ∧ Below w0.heap.size w0 wx)
 case first =>
  have mk : Hid (∀ w', SB w0 w' → w'.cell? ⟨w.heap.size, 36, none⟩ = some (.int .i64 n) ∧ w'.cell? ⟨w.heap.size, 37, none⟩ = some (.int .i64 d)) := fun w' h => by
   have kh' := kh.below h
   exact ⟨kh'.cell 36, kh'.cell 37⟩
  refine wp_region_held_drew (S := SB w0) (by kernel_rfl) (bdrew _) (fun bc => ?_)
  refine WA.start (n := 14) (by kernel_rfl) ?_
  refine WA.tk 0 rfl ?_
  refine WA.tk 1 rfl ?_ (hy := yieldsIf_load_mid (by rfl) 28 _ rfl w.heap.size 0 rfl [.bool n0, .string s0, .string d0, .bool n1, .string s1, .string d1, .bool n2, .string s2, .string d2, .bool n3, .string s3, .string d3, .bool n4, .string s4, .string d4, .bool n5, .string s5, .string d5] _ (fun w' h => (kh.below h).rg 0 [.bool n0, .string s0, .string d0, .bool n1, .string s1, .string d1, .bool n2, .string s2, .string d2, .bool n3, .string s3, .string d3, .bool n4, .string s4, .string d4, .bool n5, .string s5, .string d5] [.bool p0, .string q0, .string r0, .bool p1, .string q1, .string r1, .bool p2, .string q2, .string r2, .bool p3, .string q3, .string r3, .bool p4, .string q4, .string r4, .bool p5, .string q5, .string r5, .int .i64 n, .int .i64 d] rfl) Tryz.underlying28 rfl (by kernel_rfl))
  refine WA.tk 2 rfl ?_
  refine WA.tk 3 rfl ?_ (hy := yieldsIf_load_mid (by rfl) 32 _ rfl w.heap.size 18 rfl [.bool p0, .string q0, .string r0, .bool p1, .string q1, .string r1, .bool p2, .string q2, .string r2, .bool p3, .string q3, .string r3, .bool p4, .string q4, .string r4, .bool p5, .string q5, .string r5] _ (fun w' h => (kh.below h).rg 18 [.bool p0, .string q0, .string r0, .bool p1, .string q1, .string r1, .bool p2, .string q2, .string r2, .bool p3, .string q3, .string r3, .bool p4, .string q4, .string r4, .bool p5, .string q5, .string r5] [.int .i64 n, .int .i64 d] rfl) Tryz.underlying32 rfl (by kernel_rfl))
  refine WA.tk 4 rfl ?_
  refine WA.tl 5 rfl ?_
  refine WA.tk 6 rfl ?_
  refine WA.tl 7 rfl ?_
  clear mk
  refine WA.gen2 (i := 8) (s := 3) (i' := 9) (s' := 4) undef undef (Pt w0 [.bool false, .string { data := #[] }, .string { data := #[] }, .bool false, .string { data := #[] }, .string { data := #[] }, .bool false, .string { data := #[] }, .string { data := #[] }, .bool false, .string { data := #[] }, .string { data := #[] }, .bool false, .string { data := #[] }, .string { data := #[] }, .bool false, .string { data := #[] }, .string { data := #[] }] 28) (Pt w0 [.bool false, .string { data := #[] }, .string { data := #[] }, .bool false, .string { data := #[] }, .string { data := #[] }, .bool false, .string { data := #[] }, .string { data := #[] }, .bool false, .string { data := #[] }, .string { data := #[] }, .bool false, .string { data := #[] }, .string { data := #[] }, .bool false, .string { data := #[] }, .string { data := #[] }] 32) (fun b b' x x' hz hy hn => ?_)
  simp only [Act.put, List.setIfInBounds_toArray, List.set_cons_zero, List.set_cons_succ]
  replace hz := P2.mk hz hy hn
  clear hy hn
  revert b b' x x'
  refine WA.fin2 8 9 rfl rfl bc ?_
  clear bc
  intro x x' w' hz bx bc
  obtain ⟨g0, rfl, h0, k0⟩ := hz.p rfl
  obtain ⟨g1, rfl, h1, k1⟩ := hz.p' rfl
  have n01 : ¬ g0 = g1 := fun e => hz.ne rfl rfl (by rw [e])
  clear bx hz
  refine WA.call 10 rfl (fun K hK => ?_)
  rw [if_pos (by rfl)]
  refine wp_store_row 28 _ _ rfl g0 #[.bool n0, .string s0, .string d0, .bool n1, .string s1, .string d1, .bool n2, .string s2, .string d2, .bool n3, .string s3, .string d3, .bool n4, .string s4, .string d4, .bool n5, .string s5, .string d5] rfl rfl 28 _ k0 (by kernel_rfl) rfl (by kernel_rfl) ?_
  refine hK.out _ _ (below_setRow bc h0 _) (fun _ => ?_)
  clear hK K
  replace bc := below_setRow bc h0 #[.bool n0, .string s0, .string d0, .bool n1, .string s1, .string d1, .bool n2, .string s2, .string d2, .bool n3, .string s3, .string d3, .bool n4, .string s4, .string d4, .bool n5, .string s5, .string d5]
  replace k1 := Cel.rowO k1 (fun e => n01 e.symm) #[.bool n0, .string s0, .string d0, .bool n1, .string s1, .string d1, .bool n2, .string s2, .string d2, .bool n3, .string s3, .string d3, .bool n4, .string s4, .string d4, .bool n5, .string s5, .string d5]
  replace k0 : Cel (w'.setRow g0 #[.bool n0, .string s0, .string d0, .bool n1, .string s1, .string d1, .bool n2, .string s2, .string d2, .bool n3, .string s3, .string d3, .bool n4, .string s4, .string d4, .bool n5, .string s5, .string d5]) g0 [.bool n0, .string s0, .string d0, .bool n1, .string s1, .string d1, .bool n2, .string s2, .string d2, .bool n3, .string s3, .string d3, .bool n4, .string s4, .string d4, .bool n5, .string s5, .string d5] 28 := setRow_heap _ _ _ _ _ _ k0
  generalize w'.setRow g0 #[.bool n0, .string s0, .string d0, .bool n1, .string s1, .string d1, .bool n2, .string s2, .string d2, .bool n3, .string s3, .string d3, .bool n4, .string s4, .string d4, .bool n5, .string s5, .string d5] = wa at *
  refine WA.call 11 rfl (fun K hK => ?_)
  rw [if_pos (by rfl)]
  refine wp_store_row 32 _ _ rfl g1 #[.bool p0, .string q0, .string r0, .bool p1, .string q1, .string r1, .bool p2, .string q2, .string r2, .bool p3, .string q3, .string r3, .bool p4, .string q4, .string r4, .bool p5, .string q5, .string r5] rfl rfl 32 _ k1 (by kernel_rfl) rfl (by kernel_rfl) ?_
  refine hK.out _ _ (below_setRow bc h1 _) (fun _ => ?_)
  clear hK K
  replace bc := below_setRow bc h1 #[.bool p0, .string q0, .string r0, .bool p1, .string q1, .string r1, .bool p2, .string q2, .string r2, .bool p3, .string q3, .string r3, .bool p4, .string q4, .string r4, .bool p5, .string q5, .string r5]
  replace k0 := Cel.rowO k0 n01 #[.bool p0, .string q0, .string r0, .bool p1, .string q1, .string r1, .bool p2, .string q2, .string r2, .bool p3, .string q3, .string r3, .bool p4, .string q4, .string r4, .bool p5, .string q5, .string r5]
  replace k1 : Cel (wa.setRow g1 #[.bool p0, .string q0, .string r0, .bool p1, .string q1, .string r1, .bool p2, .string q2, .string r2, .bool p3, .string q3, .string r3, .bool p4, .string q4, .string r4, .bool p5, .string q5, .string r5]) g1 [.bool p0, .string q0, .string r0, .bool p1, .string q1, .string r1, .bool p2, .string q2, .string r2, .bool p3, .string q3, .string r3, .bool p4, .string q4, .string r4, .bool p5, .string q5, .string r5] 32 := setRow_heap _ _ _ _ _ _ k1
  generalize wa.setRow g1 #[.bool p0, .string q0, .string r0, .bool p1, .string q1, .string r1, .bool p2, .string q2, .string r2, .bool p3, .string q3, .string r3, .bool p4, .string q4, .string r4, .bool p5, .string q5, .string r5] = wb at *
  refine WA.tk 12 rfl ?_
  refine WA.tk 13 rfl ?_
  refine WA.done (by kernel_rfl) ?_
  go_wp2_with fail
  go_meet
  exact ⟨_, _, rfl, rfl, rfl, rfl, k0, k1, bc⟩
 case rest =>
 obtain ⟨gf, gt, rfl, rfl, rfl, rfl, kf, kt, b1⟩ := hcut
 clear kh
 replace bb := Below.after bb b1
 clear b1
 go_wp2_with (first | (refine wpList_load_row rfl 28 _ rfl _ rfl 28 _ (0, 0) _ kf Tryz.underlying28 rfl (by kernel_rfl) ?_) | (refine wpList_load_row rfl 32 _ rfl _ rfl 32 _ (0, 0) _ kt Tryz.underlying32 rfl (by kernel_rfl) ?_))
 go_fit (HF.out _ bb)
 rintro e w1 ⟨rfl, b1⟩
 replace kf := kf.below b1
 replace kt := kt.below b1
 replace bb := Below.after bb b1
 clear b1
 go_wp2_with (first | (refine wpList_load_rowG (by rfl) 28 _ rfl _ rfl 28 _ (0, 0) _ kf Tryz.underlying28 rfl (by kernel_rfl) ?_) | (refine wpList_load_rowG (by rfl) 32 _ rfl _ rfl 32 _ (0, 0) _ kt Tryz.underlying32 rfl (by kernel_rfl) ?_))
 go_fit (HT.out _ bb)
 rintro e w2 ⟨rfl, b1⟩
 replace kf := kf.below b1
 replace kt := kt.below b1
 replace bb := Below.after bb b1
 clear b1
 clear kf kt
 go_wp2_with fail
 go_fit (HL.out _ bb)
 rintro e w9 ⟨rfl, b1⟩
 replace bb := Below.after bb b1
 clear b1
 go_wp2
 go_ret
 exact ⟨rfl, bb⟩
theorem halves_b4 (n0 n1 n2 n3 n4 n5 p0 p1 p2 p3 p4 p5 : Bool) (s0 d0 s1 d1 s2 d2 s3 d3 s4 d4 s5 d5 q0 r0 q1 r1 q2 r2 q3 r3 q4 r4 q5 r5 : ByteArray) (n d : Int) (g1 : ¬ d < 2) (g2 : ¬ 50 < d) (g3 : ¬ n < 1) (g4 : d ≤ n) (w : World)
  (HF : Hid (∀ w1, Below w.heap.size w w1 → Calls Tryz.prog 8 #[.agg #[.bool n0, .string s0, .string d0, .bool n1, .string s1, .string d1, .bool n2, .string s2, .string d2, .bool n3, .string s3, .string d3, .bool n4, .string s4, .string d4, .bool n5, .string s5, .string d5], .agg #[.bool p0, .string q0, .string r0, .bool p1, .string q1, .string r1, .bool p2, .string q2, .string r2, .bool p3, .string q3, .string r3, .bool p4, .string q4, .string r4, .bool p5, .string q5, .string r5]] w1 (Re w1 (.bool true))))
  (HT : Hid (∀ w1, Below w.heap.size w w1 → Calls Tryz.prog 18 #[.agg #[.bool n0, .string s0, .string d0, .bool n1, .string s1, .string d1, .bool n2, .string s2, .string d2, .bool n3, .string s3, .string d3, .bool n4, .string s4, .string d4, .bool n5, .string s5, .string d5], .agg #[.bool p0, .string q0, .string r0, .bool p1, .string q1, .string r1, .bool p2, .string q2, .string r2, .bool p3, .string q3, .string r3, .bool p4, .string q4, .string r4, .bool p5, .string q5, .string r5]] w1 (Re w1 (.int .i64 0))))
  (HL : Hid (∀ w1, Below w.heap.size w w1 → Calls Tryz.prog 9 #[] w1 (Re w1 (.bool true)))) :
  Calls Tryz.prog 7 #[.agg #[.bool n0, .string s0, .string d0, .bool n1, .string s1, .string d1, .bool n2, .string s2, .string d2, .bool n3, .string s3, .string d3, .bool n4, .string s4, .string d4, .bool n5, .string s5, .string d5, .bool p0, .string q0, .string r0, .bool p1, .string q1, .string r1, .bool p2, .string q2, .string r2, .bool p3, .string q3, .string r3, .bool p4, .string q4, .string r4, .bool p5, .string q5, .string r5, .int .i64 n, .int .i64 d]] w (Re w (.bool true)) := by
 go_enter Tryz.func7, Tryz.ntmps7
 go_upto_region 1 with fail
 obtain ⟨w0, hq, kh, bb⟩ := mk1 w [.bool n0, .string s0, .string d0, .bool n1, .string s1, .string d1, .bool n2, .string s2, .string d2, .bool n3, .string s3, .string d3, .bool n4, .string s4, .string d4, .bool n5, .string s5, .string d5, .bool p0, .string q0, .string r0, .bool p1, .string q1, .string r1, .bool p2, .string q2, .string r2, .bool p3, .string q3, .string r3, .bool p4, .string q4, .string r4, .bool p5, .string q5, .string r5, .int .i64 n, .int .i64 d] 56
 rw [← hq]
 clear hq
 go_cut [3, 4, 5, 6] from 21 to 28 (fun v u y5 y6 wx => ∃ gf gt, v = .pointer (some ⟨gf, 0, none⟩) ∧ u = .pointer (some ⟨gt, 0, none⟩) ∧ y5 = .int .i64 n ∧ y6 = .int .i64 d ∧ Cel wx gf [.bool n0, .string s0, .string d0, .bool n1, .string s1, .string d1, .bool n2, .string s2, .string d2, .bool n3, .string s3, .string d3, .bool n4, .string s4, .string d4, .bool n5, .string s5, .string d5] 28 ∧ Cel wx gt [.bool p0, .string q0, .string r0, .bool p1, .string q1, .string r1, .bool p2, .string q2, .string r2, .bool p3, .string q3, .string r3, .bool p4, .string q4, .string r4, .bool p5, .string q5, .string r5] 32 ∧ Below w0.heap.size w0 wx)
 case first =>
  have mk : Hid (∀ w', SB w0 w' → w'.cell? ⟨w.heap.size, 36, none⟩ = some (.int .i64 n) ∧ w'.cell? ⟨w.heap.size, 37, none⟩ = some (.int .i64 d)) := fun w' h => by
   have kh' := kh.below h
   exact ⟨kh'.cell 36, kh'.cell 37⟩
  refine wp_region_held_drew (S := SB w0) (by kernel_rfl) (bdrew _) (fun bc => ?_)
  refine WA.start (n := 14) (by kernel_rfl) ?_
  refine WA.tk 0 rfl ?_
  refine WA.tk 1 rfl ?_ (hy := yieldsIf_load_mid (by rfl) 28 _ rfl w.heap.size 0 rfl [.bool n0, .string s0, .string d0, .bool n1, .string s1, .string d1, .bool n2, .string s2, .string d2, .bool n3, .string s3, .string d3, .bool n4, .string s4, .string d4, .bool n5, .string s5, .string d5] _ (fun w' h => (kh.below h).rg 0 [.bool n0, .string s0, .string d0, .bool n1, .string s1, .string d1, .bool n2, .string s2, .string d2, .bool n3, .string s3, .string d3, .bool n4, .string s4, .string d4, .bool n5, .string s5, .string d5] [.bool p0, .string q0, .string r0, .bool p1, .string q1, .string r1, .bool p2, .string q2, .string r2, .bool p3, .string q3, .string r3, .bool p4, .string q4, .string r4, .bool p5, .string q5, .string r5, .int .i64 n, .int .i64 d] rfl) Tryz.underlying28 rfl (by kernel_rfl))
  refine WA.tk 2 rfl ?_
  refine WA.tk 3 rfl ?_ (hy := yieldsIf_load_mid (by rfl) 32 _ rfl w.heap.size 18 rfl [.bool p0, .string q0, .string r0, .bool p1, .string q1, .string r1, .bool p2, .string q2, .string r2, .bool p3, .string q3, .string r3, .bool p4, .string q4, .string r4, .bool p5, .string q5, .string r5] _ (fun w' h => (kh.below h).rg 18 [.bool p0, .string q0, .string r0, .bool p1, .string q1, .string r1, .bool p2, .string q2, .string r2, .bool p3, .string q3, .string r3, .bool p4, .string q4, .string r4, .bool p5, .string q5, .string r5] [.int .i64 n, .int .i64 d] rfl) Tryz.underlying32 rfl (by kernel_rfl))
  refine WA.tk 4 rfl ?_
  refine WA.tl 5 rfl ?_
  refine WA.tk 6 rfl ?_
  refine WA.tl 7 rfl ?_
  clear mk
  refine WA.gen2 (i := 8) (s := 3) (i' := 9) (s' := 4) undef undef (Pt w0 [.bool false, .string { data := #[] }, .string { data := #[] }, .bool false, .string { data := #[] }, .string { data := #[] }, .bool false, .string { data := #[] }, .string { data := #[] }, .bool false, .string { data := #[] }, .string { data := #[] }, .bool false, .string { data := #[] }, .string { data := #[] }, .bool false, .string { data := #[] }, .string { data := #[] }] 28) (Pt w0 [.bool false, .string { data := #[] }, .string { data := #[] }, .bool false, .string { data := #[] }, .string { data := #[] }, .bool false, .string { data := #[] }, .string { data := #[] }, .bool false, .string { data := #[] }, .string { data := #[] }, .bool false, .string { data := #[] }, .string { data := #[] }, .bool false, .string { data := #[] }, .string { data := #[] }] 32) (fun b b' x x' hz hy hn => ?_)
  simp only [Act.put, List.setIfInBounds_toArray, List.set_cons_zero, List.set_cons_succ]
  replace hz := P2.mk hz hy hn
  clear hy hn
  revert b b' x x'
  refine WA.fin2 8 9 rfl rfl bc ?_
  clear bc
  intro x x' w' hz bx bc
  obtain ⟨g0, rfl, h0, k0⟩ := hz.p rfl
  obtain ⟨g1, rfl, h1, k1⟩ := hz.p' rfl
  have n01 : ¬ g0 = g1 := fun e => hz.ne rfl rfl (by rw [e])
  clear bx hz
  refine WA.call 10 rfl (fun K hK => ?_)
  rw [if_pos (by rfl)]
  refine wp_store_row 28 _ _ rfl g0 #[.bool n0, .string s0, .string d0, .bool n1, .string s1, .string d1, .bool n2, .string s2, .string d2, .bool n3, .string s3, .string d3, .bool n4, .string s4, .string d4, .bool n5, .string s5, .string d5] rfl rfl 28 _ k0 (by kernel_rfl) rfl (by kernel_rfl) ?_
  refine hK.out _ _ (below_setRow bc h0 _) (fun _ => ?_)
  clear hK K
  replace bc := below_setRow bc h0 #[.bool n0, .string s0, .string d0, .bool n1, .string s1, .string d1, .bool n2, .string s2, .string d2, .bool n3, .string s3, .string d3, .bool n4, .string s4, .string d4, .bool n5, .string s5, .string d5]
  replace k1 := Cel.rowO k1 (fun e => n01 e.symm) #[.bool n0, .string s0, .string d0, .bool n1, .string s1, .string d1, .bool n2, .string s2, .string d2, .bool n3, .string s3, .string d3, .bool n4, .string s4, .string d4, .bool n5, .string s5, .string d5]
  replace k0 : Cel (w'.setRow g0 #[.bool n0, .string s0, .string d0, .bool n1, .string s1, .string d1, .bool n2, .string s2, .string d2, .bool n3, .string s3, .string d3, .bool n4, .string s4, .string d4, .bool n5, .string s5, .string d5]) g0 [.bool n0, .string s0, .string d0, .bool n1, .string s1, .string d1, .bool n2, .string s2, .string d2, .bool n3, .string s3, .string d3, .bool n4, .string s4, .string d4, .bool n5, .string s5, .string d5] 28 := setRow_heap _ _ _ _ _ _ k0
  generalize w'.setRow g0 #[.bool n0, .string s0, .string d0, .bool n1, .string s1, .string d1, .bool n2, .string s2, .string d2, .bool n3, .string s3, .string d3, .bool n4, .string s4, .string d4, .bool n5, .string s5, .string d5] = wa at *
  refine WA.call 11 rfl (fun K hK => ?_)
  rw [if_pos (by rfl)]
  refine wp_store_row 32 _ _ rfl g1 #[.bool p0, .string q0, .string r0, .bool p1, .string q1, .string r1, .bool p2, .string q2, .string r2, .bool p3, .string q3, .string r3, .bool p4, .string q4, .string r4, .bool p5, .string q5, .string r5] rfl rfl 32 _ k1 (by kernel_rfl) rfl (by kernel_rfl) ?_
  refine hK.out _ _ (below_setRow bc h1 _) (fun _ => ?_)
  clear hK K
  replace bc := below_setRow bc h1 #[.bool p0, .string q0, .string r0, .bool p1, .string q1, .string r1, .bool p2, .string q2, .string r2, .bool p3, .string q3, .string r3, .bool p4, .string q4, .string r4, .bool p5, .string q5, .string r5]
  replace k0 := Cel.rowO k0 n01 #[.bool p0, .string q0, .string r0, .bool p1, .string q1, .string r1, .bool p2, .string q2, .string r2, .bool p3, .string q3, .string r3, .bool p4, .string q4, .string r4, .bool p5, .string q5, .string r5]
  replace k1 : Cel (wa.setRow g1 #[.bool p0, .string q0, .string r0, .bool p1, .string q1, .string r1, .bool p2, .string q2, .string r2, .bool p3, .string q3, .string r3, .bool p4, .string q4, .string r4, .bool p5, .string q5, .string r5]) g1 [.bool p0, .string q0, .string r0, .bool p1, .string q1, .string r1, .bool p2, .string q2, .string r2, .bool p3, .string q3, .string r3, .bool p4, .string q4, .string r4, .bool p5, .string q5, .string r5] 32 := setRow_heap _ _ _ _ _ _ k1
  generalize wa.setRow g1 #[.bool p0, .string q0, .string r0, .bool p1, .string q1, .string r1, .bool p2, .string q2, .string r2, .bool p3, .string q3, .string r3, .bool p4, .string q4, .string r4, .bool p5, .string q5, .string r5] = wb at *
  refine WA.tk 12 rfl ?_
  refine WA.tk 13 rfl ?_
  refine WA.done (by kernel_rfl) ?_
  go_wp2_with fail
  go_meet
  exact ⟨_, _, rfl, rfl, rfl, rfl, k0, k1, bc⟩
 case rest =>
 obtain ⟨gf, gt, rfl, rfl, rfl, rfl, kf, kt, b1⟩ := hcut
 clear kh
 replace bb := Below.after bb b1
 clear b1
 go_wp2_with (first | (refine wpList_load_row rfl 28 _ rfl _ rfl 28 _ (0, 0) _ kf Tryz.underlying28 rfl (by kernel_rfl) ?_) | (refine wpList_load_row rfl 32 _ rfl _ rfl 32 _ (0, 0) _ kt Tryz.underlying32 rfl (by kernel_rfl) ?_))
 go_fit (HF.out _ bb)
 rintro e w1 ⟨rfl, b1⟩
 replace kf := kf.below b1
 replace kt := kt.below b1
 replace bb := Below.after bb b1
 clear b1
 go_wp2_with (first | (refine wpList_load_rowG (by rfl) 28 _ rfl _ rfl 28 _ (0, 0) _ kf Tryz.underlying28 rfl (by kernel_rfl) ?_) | (refine wpList_load_rowG (by rfl) 32 _ rfl _ rfl 32 _ (0, 0) _ kt Tryz.underlying32 rfl (by kernel_rfl) ?_))
 go_fit (HT.out _ bb)
 rintro e w2 ⟨rfl, b1⟩
 replace kf := kf.below b1
 replace kt := kt.below b1
 replace bb := Below.after bb b1
 clear b1
 clear kf kt
 go_wp2_with fail
 go_fit (HL.out _ bb)
 rintro e w9 ⟨rfl, b1⟩
 replace bb := Below.after bb b1
 clear b1
 go_wp2
 go_ret
 exact ⟨rfl, bb⟩
end Go.Proofs.YtbafjmjcepcckaaGreatDoor
