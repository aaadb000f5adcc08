/-
  gussetref05: Asked; signs and products of rational numbers in their one form.
  gussetlaw05: at, short, small.
  gussetlaw05: cells of four points.
  gussetref04: Plus, Minus, Dot, Cross, Norm2, walked.
  gussetref04: Check, Scale; gussetlaw04: VecScales, walked.
  gussetlaw05: GeomMoved, walked.
  gussetlaw05: GeomMoved, walked.
-/
import Derived.Test.YtafikdacdfkkhaaGreatDoorG36
import Derived.Test.YtafikdacdfkkhaaGreatDoorG38
import Derived.Test.YtafikdacdfkkhaaGreatDoorG39
namespace Go.Proofs.YtafikdacdfkkhaaGreatDoor
open Go.RowKit

set_option maxRecDepth 100000 in
set_option maxHeartbeats 8000000 in
theorem rlong_no (n : Bool) (s d : ByteArray) (w : World) (z : s.size ≤ 100 ∧ d.size ≤ 100) :
  Calls Tryz.prog 53 #[.agg #[.bool n, .string s, .string d]] w fun e w' => e = .returned (.bool false) ∧ Below w.heap.size w w' := by
 have i0 : ¬ (100 : Int) < s.size := by omega
 have i1 : ¬ (100 : Int) < d.size := by omega
 go_enter Tryz.func53, Tryz.ntmps53
 go_wp2
 go_ret
 exact ⟨rfl, bel_al _ _⟩
set_option maxRecDepth 100000 in
set_option maxHeartbeats 8000000 in
theorem asked_walk (a : Option Addr) (n cap : Nat) (N N' : Nat → Bool) (S D S' D' : Nat → ByteArray) (c : Nat → Nat) (w : World) (hn : n ≤ 1000000) (h : RdPt w a n N S D N' S' D')
  (HZ : Hid (∀ k, k < n → (S k).size ≤ 100 ∧ (D k).size ≤ 100 ∧ (S' k).size ≤ 100 ∧ (D' k).size ≤ 100))
  (HC : Hid (∀ (k : Nat) (w1 : World), k < n → Calls Tryz.prog 54 #[.agg #[.bool (N k), .string (S k), .string (D k), .bool (N' k), .string (S' k), .string (D' k)]] w1 fun e w' => e = .returned (.int .i64 (c k : Nat)) ∧ Below w1.heap.size w1 w')) :
  Calls Tryz.prog 13 #[.slice a n cap] w fun e w' => e = .returned (.int .i64 (firstE c n : Nat)) ∧ Below w.heap.size w w' := by
 replace h := shut h
 go_enter Tryz.func13, Tryz.ntmps13
 go_wp2
 go_loopw [3] (fun i wr => Below w.heap.size w wr ∧ ∃ k : Nat, k ≤ n ∧ i = .int .i64 k ∧ firstE c k = 0) (fun i _ => n - (intOf i).toNat)
 case atStart => exact ⟨Below.refl _ _, 0, by omega, rfl, rfl⟩
 case round =>
  obtain ⟨bb, k, hk, rfl, hz⟩ := hrel
  by_cases hkn : k < n
  ·obtain ⟨b, off, rfl, h0, h1, h2, h3, h4, h5⟩ := h.out.below bb k hkn
   go_wp2_with fail
   go_fit (rlong_no _ _ _ _ ⟨(HZ.out k hkn).1, (HZ.out k hkn).2.1⟩)
   rintro e w1 ⟨rfl, b1⟩
   replace bb := Below.after bb b1
   replace h0 := cell_below h0 b1
   replace h1 := cell_below h1 b1
   replace h2 := cell_below h2 b1
   replace h3 := cell_below h3 b1
   replace h4 := cell_below h4 b1
   replace h5 := cell_below h5 b1
   clear b1
   go_wp2_with fail
   go_fit (rlong_no _ _ _ _ ⟨(HZ.out k hkn).2.2.1, (HZ.out k hkn).2.2.2⟩)
   rintro e w2 ⟨rfl, b1⟩
   replace bb := Below.after bb b1
   replace h0 := cell_below h0 b1
   replace h1 := cell_below h1 b1
   replace h2 := cell_below h2 b1
   replace h3 := cell_below h3 b1
   replace h4 := cell_below h4 b1
   replace h5 := cell_below h5 b1
   clear b1
   go_wp2_with fail
   go_fit (HC.out k _ hkn)
   rintro e w3 ⟨rfl, b1⟩
   replace bb := Below.after bb b1
   clear b1 h0 h1 h2 h3 h4 h5
   by_cases hc : c k = 0
   ·have hs : firstE c (k + 1) = 0 := by unfold firstE; rw [if_pos hz, hc]
    replace hs := shut hs
    replace hz := shut hz
    rw [hc]
    go_wp2
    exact ⟨⟨bb, k + 1, by omega, by go_num, hs.out⟩, by simp [intOf]; omega⟩
   ·have hs := firstE_stop hz hc n hkn
    replace hs := shut hs
    replace hz := shut hz
    go_wp2
    go_ret
    exact ⟨by rw [hs.out]; rfl, bb⟩
  ·obtain rfl : k = n := by omega
   replace hz := shut hz
   go_wp2
   go_ret
   exact ⟨by rw [hz.out]; rfl, bb⟩
theorem rsignI (x : Rat) (w : World) : Calls Tryz.prog 18 #[.agg #[.bool (nfZ (x).num), .string (sfZ (x).num), .string (strOf (x).den)]] w fun e w' => e = .returned (.int .i64 (Gm.sg x)) ∧ Below w.heap.size w w' := by
 rcases Gm.sg_cases x with ⟨h, e⟩ | ⟨h, e⟩ | ⟨h, e⟩
 ·rw [e, h]
  exact rsign_zero _ w
 ·rw [e]
  have hp := Gm.num_pos h
  have h1 : nfZ x.num = false := by unfold nfZ; exact decide_eq_false (by omega)
  have h2 : (sfZ x.num).toList.isEmpty = false := by
   unfold sfZ
   rw [strOf_empty]
   exact decide_eq_false (by omega)
  rw [h1]
  exact rsign_pos _ _ h2 w
 ·rw [e]
  have hp := Gm.num_pos (q := -x) (by grind)
  rw [Rat.neg_num] at hp
  have h1 : nfZ x.num = true := by unfold nfZ; exact decide_eq_true (by omega)
  rw [h1]
  exact rsign_neg _ _ w
end Go.Proofs.YtafikdacdfkkhaaGreatDoor
namespace Go.Proofs.YtafikdacdfkkhaaGreatDoor
open Go.RowKit

set_option maxRecDepth 100000 in
set_option maxHeartbeats 2000000 in
theorem lat5_any (x y : Int) (h1 : -1000 ≤ x) (h2 : x ≤ 1000) (h3 : -1000 ≤ y) (h4 : y ≤ 1000) (w : World) :
  Calls Tryz.prog 45 #[.int .i64 x, .int .i64 y] w fun e w' => e = .returned (.agg #[.bool (nfZ x), .string (sfZ x), .string ⟨#[1]⟩, .bool (nfZ y), .string (sfZ y), .string ⟨#[1]⟩]) ∧ Below w.heap.size w w' := by
 have H1 := shut (fun w => roq_any x h1 h2 w)
 have H2 := shut (fun w => roq_any y h3 h4 w)
 clear h1 h2 h3 h4
 go_enter Tryz.func45, Tryz.ntmps45
 go_wp2_with fail
 go_fit (H1.out _)
 rintro e w1 ⟨rfl, b1⟩
 obtain ⟨kr, bb⟩ := al1 b1
 clear b1
 go_wp2_with fail
 go_fit (H2.out _)
 rintro e w2 ⟨rfl, b1⟩
 replace kr := kr.below b1
 replace bb := Below.after bb b1
 clear b1
 have f0 := Cel.frozen kr 0
 have f1 := Cel.frozen kr 1
 have f2 := Cel.frozen kr 2
 have f3 := Cel.frozen kr 3
 have f4 := Cel.frozen kr 4
 have f5 := Cel.frozen kr 5
 have r0 := cel6_0 kr
 have r1 := cel6_1 kr
 have r2 := cel6_2 kr
 have r3 := cel6_3 kr
 have r4 := cel6_4 kr
 have r5 := cel6_5 kr
 go_wp2
 exact post_p (p := 4) (by kernel_rfl) rfl rfl (kr.set6 _ _ _ _ _ _) ⟨rfl, bset6 bb (Nat.le_refl _) _ _ _ _ _ _⟩
theorem c24 {w : World} {g : Nat} {t : TypeId} {x0 x1 x2 x3 x4 x5 x6 x7 x8 x9 x10 x11 x12 x13 x14 x15 x16 x17 x18 x19 x20 x21 x22 x23 : Value} (h : Cel w g [x0, x1, x2, x3, x4, x5, x6, x7, x8, x9, x10, x11, x12, x13, x14, x15, x16, x17, x18, x19, x20, x21, x22, x23] t) : w.cell? ⟨g, 0, none⟩ = some x0 ∧ w.cell? ⟨g, 1, none⟩ = some x1 ∧ w.cell? ⟨g, 2, none⟩ = some x2 ∧ w.cell? ⟨g, 3, none⟩ = some x3 ∧ w.cell? ⟨g, 4, none⟩ = some x4 ∧ w.cell? ⟨g, 5, none⟩ = some x5 ∧ w.cell? ⟨g, 6, none⟩ = some x6 ∧ w.cell? ⟨g, 7, none⟩ = some x7 ∧ w.cell? ⟨g, 8, none⟩ = some x8 ∧ w.cell? ⟨g, 9, none⟩ = some x9 ∧ w.cell? ⟨g, 10, none⟩ = some x10 ∧ w.cell? ⟨g, 11, none⟩ = some x11 ∧ w.cell? ⟨g, 12, none⟩ = some x12 ∧ w.cell? ⟨g, 13, none⟩ = some x13 ∧ w.cell? ⟨g, 14, none⟩ = some x14 ∧ w.cell? ⟨g, 15, none⟩ = some x15 ∧ w.cell? ⟨g, 16, none⟩ = some x16 ∧ w.cell? ⟨g, 17, none⟩ = some x17 ∧ w.cell? ⟨g, 18, none⟩ = some x18 ∧ w.cell? ⟨g, 19, none⟩ = some x19 ∧ w.cell? ⟨g, 20, none⟩ = some x20 ∧ w.cell? ⟨g, 21, none⟩ = some x21 ∧ w.cell? ⟨g, 22, none⟩ = some x22 ∧ w.cell? ⟨g, 23, none⟩ = some x23 :=
 ⟨h.cell 0, h.cell 1, h.cell 2, h.cell 3, h.cell 4, h.cell 5, h.cell 6, h.cell 7, h.cell 8, h.cell 9, h.cell 10, h.cell 11, h.cell 12, h.cell 13, h.cell 14, h.cell 15, h.cell 16, h.cell 17, h.cell 18, h.cell 19, h.cell 20, h.cell 21, h.cell 22, h.cell 23⟩
end Go.Proofs.YtafikdacdfkkhaaGreatDoor
namespace Go.Proofs.YtafikdacdfkkhaaGreatDoor
open Go.RowKit

theorem cel24_0 {w : World} {g : Nat} {t : TypeId} {x0 x1 x2 x3 x4 x5 x6 x7 x8 x9 x10 x11 x12 x13 x14 x15 x16 x17 x18 x19 x20 x21 x22 x23 : Value} (h : Cel w g [x0, x1, x2, x3, x4, x5, x6, x7, x8, x9, x10, x11, x12, x13, x14, x15, x16, x17, x18, x19, x20, x21, x22, x23] t) : w.cell? ⟨g, 0, none⟩ = some x0 := h.cell 0
theorem cel24_1 {w : World} {g : Nat} {t : TypeId} {x0 x1 x2 x3 x4 x5 x6 x7 x8 x9 x10 x11 x12 x13 x14 x15 x16 x17 x18 x19 x20 x21 x22 x23 : Value} (h : Cel w g [x0, x1, x2, x3, x4, x5, x6, x7, x8, x9, x10, x11, x12, x13, x14, x15, x16, x17, x18, x19, x20, x21, x22, x23] t) : w.cell? ⟨g, 1, none⟩ = some x1 := h.cell 1
theorem cel24_2 {w : World} {g : Nat} {t : TypeId} {x0 x1 x2 x3 x4 x5 x6 x7 x8 x9 x10 x11 x12 x13 x14 x15 x16 x17 x18 x19 x20 x21 x22 x23 : Value} (h : Cel w g [x0, x1, x2, x3, x4, x5, x6, x7, x8, x9, x10, x11, x12, x13, x14, x15, x16, x17, x18, x19, x20, x21, x22, x23] t) : w.cell? ⟨g, 2, none⟩ = some x2 := h.cell 2
theorem cel24_3 {w : World} {g : Nat} {t : TypeId} {x0 x1 x2 x3 x4 x5 x6 x7 x8 x9 x10 x11 x12 x13 x14 x15 x16 x17 x18 x19 x20 x21 x22 x23 : Value} (h : Cel w g [x0, x1, x2, x3, x4, x5, x6, x7, x8, x9, x10, x11, x12, x13, x14, x15, x16, x17, x18, x19, x20, x21, x22, x23] t) : w.cell? ⟨g, 3, none⟩ = some x3 := h.cell 3
theorem cel24_4 {w : World} {g : Nat} {t : TypeId} {x0 x1 x2 x3 x4 x5 x6 x7 x8 x9 x10 x11 x12 x13 x14 x15 x16 x17 x18 x19 x20 x21 x22 x23 : Value} (h : Cel w g [x0, x1, x2, x3, x4, x5, x6, x7, x8, x9, x10, x11, x12, x13, x14, x15, x16, x17, x18, x19, x20, x21, x22, x23] t) : w.cell? ⟨g, 4, none⟩ = some x4 := h.cell 4
theorem cel24_5 {w : World} {g : Nat} {t : TypeId} {x0 x1 x2 x3 x4 x5 x6 x7 x8 x9 x10 x11 x12 x13 x14 x15 x16 x17 x18 x19 x20 x21 x22 x23 : Value} (h : Cel w g [x0, x1, x2, x3, x4, x5, x6, x7, x8, x9, x10, x11, x12, x13, x14, x15, x16, x17, x18, x19, x20, x21, x22, x23] t) : w.cell? ⟨g, 5, none⟩ = some x5 := h.cell 5
theorem cel24_6 {w : World} {g : Nat} {t : TypeId} {x0 x1 x2 x3 x4 x5 x6 x7 x8 x9 x10 x11 x12 x13 x14 x15 x16 x17 x18 x19 x20 x21 x22 x23 : Value} (h : Cel w g [x0, x1, x2, x3, x4, x5, x6, x7, x8, x9, x10, x11, x12, x13, x14, x15, x16, x17, x18, x19, x20, x21, x22, x23] t) : w.cell? ⟨g, 6, none⟩ = some x6 := h.cell 6
theorem cel24_7 {w : World} {g : Nat} {t : TypeId} {x0 x1 x2 x3 x4 x5 x6 x7 x8 x9 x10 x11 x12 x13 x14 x15 x16 x17 x18 x19 x20 x21 x22 x23 : Value} (h : Cel w g [x0, x1, x2, x3, x4, x5, x6, x7, x8, x9, x10, x11, x12, x13, x14, x15, x16, x17, x18, x19, x20, x21, x22, x23] t) : w.cell? ⟨g, 7, none⟩ = some x7 := h.cell 7
theorem cel24_8 {w : World} {g : Nat} {t : TypeId} {x0 x1 x2 x3 x4 x5 x6 x7 x8 x9 x10 x11 x12 x13 x14 x15 x16 x17 x18 x19 x20 x21 x22 x23 : Value} (h : Cel w g [x0, x1, x2, x3, x4, x5, x6, x7, x8, x9, x10, x11, x12, x13, x14, x15, x16, x17, x18, x19, x20, x21, x22, x23] t) : w.cell? ⟨g, 8, none⟩ = some x8 := h.cell 8
theorem cel24_9 {w : World} {g : Nat} {t : TypeId} {x0 x1 x2 x3 x4 x5 x6 x7 x8 x9 x10 x11 x12 x13 x14 x15 x16 x17 x18 x19 x20 x21 x22 x23 : Value} (h : Cel w g [x0, x1, x2, x3, x4, x5, x6, x7, x8, x9, x10, x11, x12, x13, x14, x15, x16, x17, x18, x19, x20, x21, x22, x23] t) : w.cell? ⟨g, 9, none⟩ = some x9 := h.cell 9
theorem cel24_10 {w : World} {g : Nat} {t : TypeId} {x0 x1 x2 x3 x4 x5 x6 x7 x8 x9 x10 x11 x12 x13 x14 x15 x16 x17 x18 x19 x20 x21 x22 x23 : Value} (h : Cel w g [x0, x1, x2, x3, x4, x5, x6, x7, x8, x9, x10, x11, x12, x13, x14, x15, x16, x17, x18, x19, x20, x21, x22, x23] t) : w.cell? ⟨g, 10, none⟩ = some x10 := h.cell 10
theorem cel24_11 {w : World} {g : Nat} {t : TypeId} {x0 x1 x2 x3 x4 x5 x6 x7 x8 x9 x10 x11 x12 x13 x14 x15 x16 x17 x18 x19 x20 x21 x22 x23 : Value} (h : Cel w g [x0, x1, x2, x3, x4, x5, x6, x7, x8, x9, x10, x11, x12, x13, x14, x15, x16, x17, x18, x19, x20, x21, x22, x23] t) : w.cell? ⟨g, 11, none⟩ = some x11 := h.cell 11
theorem cel24_12 {w : World} {g : Nat} {t : TypeId} {x0 x1 x2 x3 x4 x5 x6 x7 x8 x9 x10 x11 x12 x13 x14 x15 x16 x17 x18 x19 x20 x21 x22 x23 : Value} (h : Cel w g [x0, x1, x2, x3, x4, x5, x6, x7, x8, x9, x10, x11, x12, x13, x14, x15, x16, x17, x18, x19, x20, x21, x22, x23] t) : w.cell? ⟨g, 12, none⟩ = some x12 := h.cell 12
theorem cel24_13 {w : World} {g : Nat} {t : TypeId} {x0 x1 x2 x3 x4 x5 x6 x7 x8 x9 x10 x11 x12 x13 x14 x15 x16 x17 x18 x19 x20 x21 x22 x23 : Value} (h : Cel w g [x0, x1, x2, x3, x4, x5, x6, x7, x8, x9, x10, x11, x12, x13, x14, x15, x16, x17, x18, x19, x20, x21, x22, x23] t) : w.cell? ⟨g, 13, none⟩ = some x13 := h.cell 13
theorem cel24_14 {w : World} {g : Nat} {t : TypeId} {x0 x1 x2 x3 x4 x5 x6 x7 x8 x9 x10 x11 x12 x13 x14 x15 x16 x17 x18 x19 x20 x21 x22 x23 : Value} (h : Cel w g [x0, x1, x2, x3, x4, x5, x6, x7, x8, x9, x10, x11, x12, x13, x14, x15, x16, x17, x18, x19, x20, x21, x22, x23] t) : w.cell? ⟨g, 14, none⟩ = some x14 := h.cell 14
theorem cel24_15 {w : World} {g : Nat} {t : TypeId} {x0 x1 x2 x3 x4 x5 x6 x7 x8 x9 x10 x11 x12 x13 x14 x15 x16 x17 x18 x19 x20 x21 x22 x23 : Value} (h : Cel w g [x0, x1, x2, x3, x4, x5, x6, x7, x8, x9, x10, x11, x12, x13, x14, x15, x16, x17, x18, x19, x20, x21, x22, x23] t) : w.cell? ⟨g, 15, none⟩ = some x15 := h.cell 15
theorem cel24_16 {w : World} {g : Nat} {t : TypeId} {x0 x1 x2 x3 x4 x5 x6 x7 x8 x9 x10 x11 x12 x13 x14 x15 x16 x17 x18 x19 x20 x21 x22 x23 : Value} (h : Cel w g [x0, x1, x2, x3, x4, x5, x6, x7, x8, x9, x10, x11, x12, x13, x14, x15, x16, x17, x18, x19, x20, x21, x22, x23] t) : w.cell? ⟨g, 16, none⟩ = some x16 := h.cell 16
theorem cel24_17 {w : World} {g : Nat} {t : TypeId} {x0 x1 x2 x3 x4 x5 x6 x7 x8 x9 x10 x11 x12 x13 x14 x15 x16 x17 x18 x19 x20 x21 x22 x23 : Value} (h : Cel w g [x0, x1, x2, x3, x4, x5, x6, x7, x8, x9, x10, x11, x12, x13, x14, x15, x16, x17, x18, x19, x20, x21, x22, x23] t) : w.cell? ⟨g, 17, none⟩ = some x17 := h.cell 17
theorem cel24_18 {w : World} {g : Nat} {t : TypeId} {x0 x1 x2 x3 x4 x5 x6 x7 x8 x9 x10 x11 x12 x13 x14 x15 x16 x17 x18 x19 x20 x21 x22 x23 : Value} (h : Cel w g [x0, x1, x2, x3, x4, x5, x6, x7, x8, x9, x10, x11, x12, x13, x14, x15, x16, x17, x18, x19, x20, x21, x22, x23] t) : w.cell? ⟨g, 18, none⟩ = some x18 := h.cell 18
theorem cel24_19 {w : World} {g : Nat} {t : TypeId} {x0 x1 x2 x3 x4 x5 x6 x7 x8 x9 x10 x11 x12 x13 x14 x15 x16 x17 x18 x19 x20 x21 x22 x23 : Value} (h : Cel w g [x0, x1, x2, x3, x4, x5, x6, x7, x8, x9, x10, x11, x12, x13, x14, x15, x16, x17, x18, x19, x20, x21, x22, x23] t) : w.cell? ⟨g, 19, none⟩ = some x19 := h.cell 19
theorem cel24_20 {w : World} {g : Nat} {t : TypeId} {x0 x1 x2 x3 x4 x5 x6 x7 x8 x9 x10 x11 x12 x13 x14 x15 x16 x17 x18 x19 x20 x21 x22 x23 : Value} (h : Cel w g [x0, x1, x2, x3, x4, x5, x6, x7, x8, x9, x10, x11, x12, x13, x14, x15, x16, x17, x18, x19, x20, x21, x22, x23] t) : w.cell? ⟨g, 20, none⟩ = some x20 := h.cell 20
theorem cel24_21 {w : World} {g : Nat} {t : TypeId} {x0 x1 x2 x3 x4 x5 x6 x7 x8 x9 x10 x11 x12 x13 x14 x15 x16 x17 x18 x19 x20 x21 x22 x23 : Value} (h : Cel w g [x0, x1, x2, x3, x4, x5, x6, x7, x8, x9, x10, x11, x12, x13, x14, x15, x16, x17, x18, x19, x20, x21, x22, x23] t) : w.cell? ⟨g, 21, none⟩ = some x21 := h.cell 21
theorem cel24_22 {w : World} {g : Nat} {t : TypeId} {x0 x1 x2 x3 x4 x5 x6 x7 x8 x9 x10 x11 x12 x13 x14 x15 x16 x17 x18 x19 x20 x21 x22 x23 : Value} (h : Cel w g [x0, x1, x2, x3, x4, x5, x6, x7, x8, x9, x10, x11, x12, x13, x14, x15, x16, x17, x18, x19, x20, x21, x22, x23] t) : w.cell? ⟨g, 22, none⟩ = some x22 := h.cell 22
theorem cel24_23 {w : World} {g : Nat} {t : TypeId} {x0 x1 x2 x3 x4 x5 x6 x7 x8 x9 x10 x11 x12 x13 x14 x15 x16 x17 x18 x19 x20 x21 x22 x23 : Value} (h : Cel w g [x0, x1, x2, x3, x4, x5, x6, x7, x8, x9, x10, x11, x12, x13, x14, x15, x16, x17, x18, x19, x20, x21, x22, x23] t) : w.cell? ⟨g, 23, none⟩ = some x23 := h.cell 23
end Go.Proofs.YtafikdacdfkkhaaGreatDoor
namespace Go.Proofs.YtafikdacdfkkhaaGreatDoor
open Go.RowKit Go.Shelf

set_option maxRecDepth 100000 in
set_option maxHeartbeats 8000000 in
theorem rplus4_walk (n0 n1 n2 n3 xN yN : Bool) (s0 d0 s1 d1 s2 d2 s3 d3 xS xD yS yD : ByteArray) (w : World)
  (H1 : Hid (∀ w1, Calls Tryz.prog 77 #[.agg #[.bool n0, .string s0, .string d0], .agg #[.bool n2, .string s2, .string d2]] w1 fun e w' => e = .returned (.agg #[.bool xN, .string xS, .string xD]) ∧ Below w1.heap.size w1 w'))
  (H2 : Hid (∀ w1, Calls Tryz.prog 77 #[.agg #[.bool n1, .string s1, .string d1], .agg #[.bool n3, .string s3, .string d3]] w1 fun e w' => e = .returned (.agg #[.bool yN, .string yS, .string yD]) ∧ Below w1.heap.size w1 w')) :
  Calls Tryz.prog 58 #[.agg #[.bool n0, .string s0, .string d0, .bool n1, .string s1, .string d1], .agg #[.bool n2, .string s2, .string d2, .bool n3, .string s3, .string d3]] w fun e w' => e = .returned (.agg #[.bool xN, .string xS, .string xD, .bool yN, .string yS, .string yD]) ∧ Below w.heap.size w w' := by
 go_enter Tryz.func58, Tryz.ntmps58
 go_wp2_with fail
 obtain ⟨w1, hw, ka, kb, kr, b1⟩ := mk3 w [.bool n0, .string s0, .string d0, .bool n1, .string s1, .string d1] [.bool n2, .string s2, .string d2, .bool n3, .string s3, .string d3] [.bool false, .string { data := #[] }, .string { data := #[] }, .bool false, .string { data := #[] }, .string { data := #[] }] 28 28 28
 rw [← hw]
 clear hw
 have sz := b1.size
 have ta := ka.lt
 have tb := kb.lt
 have tr := kr.lt
 have bb := b1
 clear b1
 have qa : w.heap.size ≠ w.heap.size + 1 + 1 := by omega
 have qb : w.heap.size + 1 ≠ w.heap.size + 1 + 1 := by omega
 have mkS : Hid (∀ w', Cel w' (w.heap.size) [.bool n0, .string s0, .string d0, .bool n1, .string s1, .string d1] 28 → Cel w' (w.heap.size + 1) [.bool n2, .string s2, .string d2, .bool n3, .string s3, .string d3] 28 → (w'.cell? ⟨w.heap.size, 0, none⟩ = some (.bool n0) ∧ w'.cell? ⟨w.heap.size, 1, none⟩ = some (.string s0) ∧ w'.cell? ⟨w.heap.size, 2, none⟩ = some (.string d0) ∧ w'.cell? ⟨w.heap.size, 3, none⟩ = some (.bool n1) ∧ w'.cell? ⟨w.heap.size, 4, none⟩ = some (.string s1) ∧ w'.cell? ⟨w.heap.size, 5, none⟩ = some (.string d1) ∧ w'.cell? ⟨w.heap.size + 1, 0, none⟩ = some (.bool n2) ∧ w'.cell? ⟨w.heap.size + 1, 1, none⟩ = some (.string s2) ∧ w'.cell? ⟨w.heap.size + 1, 2, none⟩ = some (.string d2) ∧ w'.cell? ⟨w.heap.size + 1, 3, none⟩ = some (.bool n3) ∧ w'.cell? ⟨w.heap.size + 1, 4, none⟩ = some (.string s3) ∧ w'.cell? ⟨w.heap.size + 1, 5, none⟩ = some (.string d3))) := fun w' ha hb => ⟨cel6_0 ha, cel6_1 ha, cel6_2 ha, cel6_3 ha, cel6_4 ha, cel6_5 ha, cel6_0 hb, cel6_1 hb, cel6_2 hb, cel6_3 hb, cel6_4 hb, cel6_5 hb⟩
 go_region_held3 (fun w' => w'.cell? ⟨w.heap.size, 0, none⟩ = some (.bool n0) ∧ w'.cell? ⟨w.heap.size, 1, none⟩ = some (.string s0) ∧ w'.cell? ⟨w.heap.size, 2, none⟩ = some (.string d0) ∧ w'.cell? ⟨w.heap.size, 3, none⟩ = some (.bool n1) ∧ w'.cell? ⟨w.heap.size, 4, none⟩ = some (.string s1) ∧ w'.cell? ⟨w.heap.size, 5, none⟩ = some (.string d1) ∧ w'.cell? ⟨w.heap.size + 1, 0, none⟩ = some (.bool n2) ∧ w'.cell? ⟨w.heap.size + 1, 1, none⟩ = some (.string s2) ∧ w'.cell? ⟨w.heap.size + 1, 2, none⟩ = some (.string d2) ∧ w'.cell? ⟨w.heap.size + 1, 3, none⟩ = some (.bool n3) ∧ w'.cell? ⟨w.heap.size + 1, 4, none⟩ = some (.string s3) ∧ w'.cell? ⟨w.heap.size + 1, 5, none⟩ = some (.string d3)) (first | with_reducible exact mkS.out _ ka kb | with_reducible exact mkS.out _ (ka.alloc _) (kb.alloc _) | with_reducible exact mkS.out _ (Cel.other (Cel.other (Cel.other (Cel.other (Cel.other (Cel.other ka qa 0 _) qa 1 _) qa 2 _) qa 3 _) qa 4 _) qa 5 _) (Cel.other (Cel.other (Cel.other (Cel.other (Cel.other (Cel.other kb qb 0 _) qb 1 _) qb 2 _) qb 3 _) qb 4 _) qb 5 _) | exact mkS.out _ ka kb) (first | (go_at_call 77; go_fit (H1.out _); rintro e wn ⟨rfl, bn⟩; replace ka := ka.below ⟨bn.os, bn.tape, bn.output, bn.size, bn.block⟩; replace kb := kb.below ⟨bn.os, bn.tape, bn.output, bn.size, bn.block⟩; replace kr := kr.below ⟨bn.os, bn.tape, bn.output, bn.size, bn.block⟩; replace bb := Below.after bb ⟨bn.os, bn.tape, bn.output, bn.size, bn.block⟩) | (go_at_call 77; go_fit (H2.out _); rintro e wn ⟨rfl, bn⟩; replace ka := ka.below ⟨bn.os, bn.tape, bn.output, bn.size, bn.block⟩; replace kb := kb.below ⟨bn.os, bn.tape, bn.output, bn.size, bn.block⟩; replace kr := kr.below ⟨bn.os, bn.tape, bn.output, bn.size, bn.block⟩; replace bb := Below.after bb ⟨bn.os, bn.tape, bn.output, bn.size, bn.block⟩; have e0 := cel6_0 kr; have f0 := Cel.frozen kr 0; have e1 := cel6_1 kr; have f1 := Cel.frozen kr 1; have e2 := cel6_2 kr; have f2 := Cel.frozen kr 2; have e3 := cel6_3 kr; have f3 := Cel.frozen kr 3; have e4 := cel6_4 kr; have f4 := Cel.frozen kr 4; have e5 := cel6_5 kr; have f5 := Cel.frozen kr 5))
 go_wp2
 exact post_p (p := 4) (by kernel_rfl) rfl rfl (kr.set6 _ _ _ _ _ _) ⟨rfl, bset6 bb (by omega) _ _ _ _ _ _⟩
end Go.Proofs.YtafikdacdfkkhaaGreatDoor
namespace Go.Proofs.YtafikdacdfkkhaaGreatDoor
open Go.RowKit Go.Shelf

set_option maxRecDepth 100000 in
set_option maxHeartbeats 4000000 in
theorem rchk4_walk (n0 n1 : Bool) (s0 d0 s1 d1 : ByteArray) (E : Int) (w : World)
  (H1 : Hid (∀ w1, Calls Tryz.prog 106 #[.agg #[.bool n0, .string s0, .string d0], .agg #[.bool n1, .string s1, .string d1]] w1 fun e w' => e = .returned (.int .i64 E) ∧ Below w1.heap.size w1 w')) :
  Calls Tryz.prog 54 #[.agg #[.bool n0, .string s0, .string d0, .bool n1, .string s1, .string d1]] w fun e w' => e = .returned (.int .i64 E) ∧ Below w.heap.size w w' := by
 go_enter Tryz.func54, Tryz.ntmps54
 go_wp2_with fail
 go_fit (H1.out _)
 rintro e w1 ⟨rfl, b1⟩
 obtain ⟨ka, b1⟩ := al1 b1
 have sz := b1.size
 have bb := b1
 clear b1
 have ta := ka.lt
 go_wp2
 go_ret
 exact ⟨rfl, bb⟩
set_option maxRecDepth 100000 in
set_option maxHeartbeats 8000000 in
theorem rscale_walk (n0 n1 n2 xN yN : Bool) (s0 d0 s1 d1 s2 d2 xS xD yS yD : ByteArray) (w : World)
  (H1 : Hid (∀ w1, Calls Tryz.prog 79 #[.agg #[.bool n0, .string s0, .string d0], .agg #[.bool n2, .string s2, .string d2]] w1 fun e w' => e = .returned (.agg #[.bool xN, .string xS, .string xD]) ∧ Below w1.heap.size w1 w'))
  (H2 : Hid (∀ w1, Calls Tryz.prog 79 #[.agg #[.bool n1, .string s1, .string d1], .agg #[.bool n2, .string s2, .string d2]] w1 fun e w' => e = .returned (.agg #[.bool yN, .string yS, .string yD]) ∧ Below w1.heap.size w1 w')) :
  Calls Tryz.prog 59 #[.agg #[.bool n0, .string s0, .string d0, .bool n1, .string s1, .string d1], .agg #[.bool n2, .string s2, .string d2]] w fun e w' => e = .returned (.agg #[.bool xN, .string xS, .string xD, .bool yN, .string yS, .string yD]) ∧ Below w.heap.size w w' := by
 go_enter Tryz.func59, Tryz.ntmps59
 go_wp2_with fail
 obtain ⟨w1, hw, ka, kk, kr, b1⟩ := mk3 w [.bool n0, .string s0, .string d0, .bool n1, .string s1, .string d1] [.bool n2, .string s2, .string d2] [.bool false, .string { data := #[] }, .string { data := #[] }, .bool false, .string { data := #[] }, .string { data := #[] }] 28 26 28
 rw [← hw]
 clear hw
 have sz := b1.size
 have ta := ka.lt
 have tk := kk.lt
 have tr := kr.lt
 have bb := b1
 clear b1
 have qa : w.heap.size ≠ w.heap.size + 1 + 1 := by omega
 have qk : w.heap.size + 1 ≠ w.heap.size + 1 + 1 := by omega
 have mkS : Hid (∀ w', Cel w' (w.heap.size) [.bool n0, .string s0, .string d0, .bool n1, .string s1, .string d1] 28 → Cel w' (w.heap.size + 1) [.bool n2, .string s2, .string d2] 26 → (w'.cell? ⟨w.heap.size, 0, none⟩ = some (.bool n0) ∧ w'.cell? ⟨w.heap.size, 1, none⟩ = some (.string s0) ∧ w'.cell? ⟨w.heap.size, 2, none⟩ = some (.string d0) ∧ w'.cell? ⟨w.heap.size, 3, none⟩ = some (.bool n1) ∧ w'.cell? ⟨w.heap.size, 4, none⟩ = some (.string s1) ∧ w'.cell? ⟨w.heap.size, 5, none⟩ = some (.string d1) ∧ w'.cell? ⟨w.heap.size + 1, 0, none⟩ = some (.bool n2) ∧ w'.cell? ⟨w.heap.size + 1, 1, none⟩ = some (.string s2) ∧ w'.cell? ⟨w.heap.size + 1, 2, none⟩ = some (.string d2))) := fun w' ha hk => ⟨cel6_0 ha, cel6_1 ha, cel6_2 ha, cel6_3 ha, cel6_4 ha, cel6_5 ha, cel3_0 hk, cel3_1 hk, cel3_2 hk⟩
 go_region_held3 (fun w' => w'.cell? ⟨w.heap.size, 0, none⟩ = some (.bool n0) ∧ w'.cell? ⟨w.heap.size, 1, none⟩ = some (.string s0) ∧ w'.cell? ⟨w.heap.size, 2, none⟩ = some (.string d0) ∧ w'.cell? ⟨w.heap.size, 3, none⟩ = some (.bool n1) ∧ w'.cell? ⟨w.heap.size, 4, none⟩ = some (.string s1) ∧ w'.cell? ⟨w.heap.size, 5, none⟩ = some (.string d1) ∧ w'.cell? ⟨w.heap.size + 1, 0, none⟩ = some (.bool n2) ∧ w'.cell? ⟨w.heap.size + 1, 1, none⟩ = some (.string s2) ∧ w'.cell? ⟨w.heap.size + 1, 2, none⟩ = some (.string d2)) (first | with_reducible exact mkS.out _ ka kk | with_reducible exact mkS.out _ (ka.alloc _) (kk.alloc _) | with_reducible exact mkS.out _ (Cel.other (Cel.other (Cel.other (Cel.other (Cel.other (Cel.other ka qa 0 _) qa 1 _) qa 2 _) qa 3 _) qa 4 _) qa 5 _) (Cel.other (Cel.other (Cel.other (Cel.other (Cel.other (Cel.other kk qk 0 _) qk 1 _) qk 2 _) qk 3 _) qk 4 _) qk 5 _) | exact mkS.out _ ka kk) (first | (go_at_call 79; go_fit (H1.out _); rintro e wn ⟨rfl, bn⟩; replace ka := ka.below ⟨bn.os, bn.tape, bn.output, bn.size, bn.block⟩; replace kk := kk.below ⟨bn.os, bn.tape, bn.output, bn.size, bn.block⟩; replace kr := kr.below ⟨bn.os, bn.tape, bn.output, bn.size, bn.block⟩; replace bb := Below.after bb ⟨bn.os, bn.tape, bn.output, bn.size, bn.block⟩) | (go_at_call 79; go_fit (H2.out _); rintro e wn ⟨rfl, bn⟩; replace ka := ka.below ⟨bn.os, bn.tape, bn.output, bn.size, bn.block⟩; replace kk := kk.below ⟨bn.os, bn.tape, bn.output, bn.size, bn.block⟩; replace kr := kr.below ⟨bn.os, bn.tape, bn.output, bn.size, bn.block⟩; replace bb := Below.after bb ⟨bn.os, bn.tape, bn.output, bn.size, bn.block⟩; have e0 := cel6_0 kr; have f0 := Cel.frozen kr 0; have e1 := cel6_1 kr; have f1 := Cel.frozen kr 1; have e2 := cel6_2 kr; have f2 := Cel.frozen kr 2; have e3 := cel6_3 kr; have f3 := Cel.frozen kr 3; have e4 := cel6_4 kr; have f4 := Cel.frozen kr 4; have e5 := cel6_5 kr; have f5 := Cel.frozen kr 5))
 go_wp2
 exact post_p (p := 4) (by kernel_rfl) rfl rfl (kr.set6 _ _ _ _ _ _) ⟨rfl, bset6 bb (by omega) _ _ _ _ _ _⟩
end Go.Proofs.YtafikdacdfkkhaaGreatDoor
namespace Go.Proofs.YtafikdacdfkkhaaGreatDoor
open Go.RowKit

set_option maxRecDepth 100000 in
set_option maxHeartbeats 32000000 in
theorem moved5_c (n0 n1 n2 n3 n4 n5 n6 n7 n8 n9 n10 : Bool) (s0 d0 s1 d1 s2 d2 s3 d3 s4 d4 s5 d5 s6 d6 s7 d7 s8 d8 s9 d9 s10 d10 : ByteArray) (E : Int) (w : World) (hE : ¬ E = 0)
  (HL : Hid (∀ w1, Below w.heap.size w w1 → Calls Tryz.prog 10 #[] w1 fun e w' => e = .returned (.bool true) ∧ Below w1.heap.size w1 w'))
  (S0 : Hid (∀ w1, Calls Tryz.prog 16 #[.agg #[.bool n0, .string s0, .string d0]] w1 fun e w' => e = .returned (.bool true) ∧ Below w1.heap.size w1 w'))
  (S1 : Hid (∀ w1, Calls Tryz.prog 16 #[.agg #[.bool n1, .string s1, .string d1]] w1 fun e w' => e = .returned (.bool true) ∧ Below w1.heap.size w1 w'))
  (S2 : Hid (∀ w1, Calls Tryz.prog 16 #[.agg #[.bool n2, .string s2, .string d2]] w1 fun e w' => e = .returned (.bool true) ∧ Below w1.heap.size w1 w'))
  (S3 : Hid (∀ w1, Calls Tryz.prog 16 #[.agg #[.bool n3, .string s3, .string d3]] w1 fun e w' => e = .returned (.bool true) ∧ Below w1.heap.size w1 w'))
  (S4 : Hid (∀ w1, Calls Tryz.prog 16 #[.agg #[.bool n4, .string s4, .string d4]] w1 fun e w' => e = .returned (.bool true) ∧ Below w1.heap.size w1 w'))
  (S5 : Hid (∀ w1, Calls Tryz.prog 16 #[.agg #[.bool n5, .string s5, .string d5]] w1 fun e w' => e = .returned (.bool true) ∧ Below w1.heap.size w1 w'))
  (S6 : Hid (∀ w1, Calls Tryz.prog 16 #[.agg #[.bool n6, .string s6, .string d6]] w1 fun e w' => e = .returned (.bool true) ∧ Below w1.heap.size w1 w'))
  (S7 : Hid (∀ w1, Calls Tryz.prog 16 #[.agg #[.bool n7, .string s7, .string d7]] w1 fun e w' => e = .returned (.bool true) ∧ Below w1.heap.size w1 w'))
  (S8 : Hid (∀ w1, Calls Tryz.prog 16 #[.agg #[.bool n8, .string s8, .string d8]] w1 fun e w' => e = .returned (.bool true) ∧ Below w1.heap.size w1 w'))
  (S9 : Hid (∀ w1, Calls Tryz.prog 16 #[.agg #[.bool n9, .string s9, .string d9]] w1 fun e w' => e = .returned (.bool true) ∧ Below w1.heap.size w1 w'))
  (S10 : Hid (∀ w1, Calls Tryz.prog 16 #[.agg #[.bool n10, .string s10, .string d10]] w1 fun e w' => e = .returned (.bool true) ∧ Below w1.heap.size w1 w'))
  (HA : Hid (∀ (w1 : World) (B : Nat), Below w.heap.size w w1 → Cel w1 B [.bool n0, .string s0, .string d0, .bool n1, .string s1, .string d1, .bool n2, .string s2, .string d2, .bool n3, .string s3, .string d3, .bool n4, .string s4, .string d4, .bool n5, .string s5, .string d5, .bool n6, .string s6, .string d6, .bool n7, .string s7, .string d7, .bool n8, .string s8, .string d8, .bool n9, .string s9, .string d9] 28 → Calls Tryz.prog 13 #[.slice (some ⟨B, 0, none⟩) 5 5] w1 fun e w' => e = .returned (.int .i64 (0)) ∧ Below w1.heap.size w1 w'))
  (HK : Hid (∀ w1, Calls Tryz.prog 17 #[.agg #[.bool n10, .string s10, .string d10]] w1 fun e w' => e = .returned (.int .i64 (E)) ∧ Below w1.heap.size w1 w')) :
  Calls Tryz.prog 4 #[.agg #[.bool n0, .string s0, .string d0, .bool n1, .string s1, .string d1, .bool n2, .string s2, .string d2, .bool n3, .string s3, .string d3, .bool n4, .string s4, .string d4, .bool n5, .string s5, .string d5, .bool n6, .string s6, .string d6, .bool n7, .string s7, .string d7], .agg #[.bool n8, .string s8, .string d8, .bool n9, .string s9, .string d9], .agg #[.bool n10, .string s10, .string d10]] w fun e w' => e = .returned (.bool true) ∧ Below w.heap.size w w' := by
 go_enter Tryz.func4, Tryz.ntmps4
 go_wp2_with fail
 go_fit (S0.out _)
 rintro e w1 ⟨rfl, b1⟩
 obtain ⟨kf, kp, kr, bb⟩ := al3 b1
 clear b1
 obtain ⟨c0, c1, c2, c3, c4, c5, c6, c7, c8, c9, c10, c11, c12, c13, c14, c15, c16, c17, c18, c19, c20, c21, c22, c23⟩ := c24 kf
 have p0 := cel6_0 kp
 have p1 := cel6_1 kp
 have p2 := cel6_2 kp
 have p3 := cel6_3 kp
 have p4 := cel6_4 kp
 have p5 := cel6_5 kp
 have r0 := cel3_0 kr
 have r1 := cel3_1 kr
 have r2 := cel3_2 kr
 go_wp2_with fail
 go_fit (S1.out _)
 rintro e w2 ⟨rfl, b1⟩
 replace kf := kf.below b1
 replace kp := kp.below b1
 replace kr := kr.below b1
 replace bb := Below.after bb b1
 clear b1
 clear c0 c1 c2 c3 c4 c5 c6 c7 c8 c9 c10 c11 c12 c13 c14 c15 c16 c17 c18 c19 c20 c21 c22 c23 p0 p1 p2 p3 p4 p5 r0 r1 r2
 obtain ⟨c0, c1, c2, c3, c4, c5, c6, c7, c8, c9, c10, c11, c12, c13, c14, c15, c16, c17, c18, c19, c20, c21, c22, c23⟩ := c24 kf
 have p0 := cel6_0 kp
 have p1 := cel6_1 kp
 have p2 := cel6_2 kp
 have p3 := cel6_3 kp
 have p4 := cel6_4 kp
 have p5 := cel6_5 kp
 have r0 := cel3_0 kr
 have r1 := cel3_1 kr
 have r2 := cel3_2 kr
 go_wp2_with fail
 go_fit (S2.out _)
 rintro e w3 ⟨rfl, b1⟩
 replace kf := kf.below b1
 replace kp := kp.below b1
 replace kr := kr.below b1
 replace bb := Below.after bb b1
 clear b1
 clear c0 c1 c2 c3 c4 c5 c6 c7 c8 c9 c10 c11 c12 c13 c14 c15 c16 c17 c18 c19 c20 c21 c22 c23 p0 p1 p2 p3 p4 p5 r0 r1 r2
 obtain ⟨c0, c1, c2, c3, c4, c5, c6, c7, c8, c9, c10, c11, c12, c13, c14, c15, c16, c17, c18, c19, c20, c21, c22, c23⟩ := c24 kf
 have p0 := cel6_0 kp
 have p1 := cel6_1 kp
 have p2 := cel6_2 kp
 have p3 := cel6_3 kp
 have p4 := cel6_4 kp
 have p5 := cel6_5 kp
 have r0 := cel3_0 kr
 have r1 := cel3_1 kr
 have r2 := cel3_2 kr
 go_wp2_with fail
 go_fit (S3.out _)
 rintro e w4 ⟨rfl, b1⟩
 replace kf := kf.below b1
 replace kp := kp.below b1
 replace kr := kr.below b1
 replace bb := Below.after bb b1
 clear b1
 clear c0 c1 c2 c3 c4 c5 c6 c7 c8 c9 c10 c11 c12 c13 c14 c15 c16 c17 c18 c19 c20 c21 c22 c23 p0 p1 p2 p3 p4 p5 r0 r1 r2
 obtain ⟨c0, c1, c2, c3, c4, c5, c6, c7, c8, c9, c10, c11, c12, c13, c14, c15, c16, c17, c18, c19, c20, c21, c22, c23⟩ := c24 kf
 have p0 := cel6_0 kp
 have p1 := cel6_1 kp
 have p2 := cel6_2 kp
 have p3 := cel6_3 kp
 have p4 := cel6_4 kp
 have p5 := cel6_5 kp
 have r0 := cel3_0 kr
 have r1 := cel3_1 kr
 have r2 := cel3_2 kr
 go_wp2_with fail
 go_fit (S4.out _)
 rintro e w5 ⟨rfl, b1⟩
 replace kf := kf.below b1
 replace kp := kp.below b1
 replace kr := kr.below b1
 replace bb := Below.after bb b1
 clear b1
 clear c0 c1 c2 c3 c4 c5 c6 c7 c8 c9 c10 c11 c12 c13 c14 c15 c16 c17 c18 c19 c20 c21 c22 c23 p0 p1 p2 p3 p4 p5 r0 r1 r2
 obtain ⟨c0, c1, c2, c3, c4, c5, c6, c7, c8, c9, c10, c11, c12, c13, c14, c15, c16, c17, c18, c19, c20, c21, c22, c23⟩ := c24 kf
 have p0 := cel6_0 kp
 have p1 := cel6_1 kp
 have p2 := cel6_2 kp
 have p3 := cel6_3 kp
 have p4 := cel6_4 kp
 have p5 := cel6_5 kp
 have r0 := cel3_0 kr
 have r1 := cel3_1 kr
 have r2 := cel3_2 kr
 go_wp2_with fail
 go_fit (S5.out _)
 rintro e w6 ⟨rfl, b1⟩
 replace kf := kf.below b1
 replace kp := kp.below b1
 replace kr := kr.below b1
 replace bb := Below.after bb b1
 clear b1
 clear c0 c1 c2 c3 c4 c5 c6 c7 c8 c9 c10 c11 c12 c13 c14 c15 c16 c17 c18 c19 c20 c21 c22 c23 p0 p1 p2 p3 p4 p5 r0 r1 r2
 obtain ⟨c0, c1, c2, c3, c4, c5, c6, c7, c8, c9, c10, c11, c12, c13, c14, c15, c16, c17, c18, c19, c20, c21, c22, c23⟩ := c24 kf
 have p0 := cel6_0 kp
 have p1 := cel6_1 kp
 have p2 := cel6_2 kp
 have p3 := cel6_3 kp
 have p4 := cel6_4 kp
 have p5 := cel6_5 kp
 have r0 := cel3_0 kr
 have r1 := cel3_1 kr
 have r2 := cel3_2 kr
 go_wp2_with fail
 go_fit (S6.out _)
 rintro e w7 ⟨rfl, b1⟩
 replace kf := kf.below b1
 replace kp := kp.below b1
 replace kr := kr.below b1
 replace bb := Below.after bb b1
 clear b1
 clear c0 c1 c2 c3 c4 c5 c6 c7 c8 c9 c10 c11 c12 c13 c14 c15 c16 c17 c18 c19 c20 c21 c22 c23 p0 p1 p2 p3 p4 p5 r0 r1 r2
 obtain ⟨c0, c1, c2, c3, c4, c5, c6, c7, c8, c9, c10, c11, c12, c13, c14, c15, c16, c17, c18, c19, c20, c21, c22, c23⟩ := c24 kf
 have p0 := cel6_0 kp
 have p1 := cel6_1 kp
 have p2 := cel6_2 kp
 have p3 := cel6_3 kp
 have p4 := cel6_4 kp
 have p5 := cel6_5 kp
 have r0 := cel3_0 kr
 have r1 := cel3_1 kr
 have r2 := cel3_2 kr
 go_wp2_with fail
 go_fit (S7.out _)
 rintro e w8 ⟨rfl, b1⟩
 replace kf := kf.below b1
 replace kp := kp.below b1
 replace kr := kr.below b1
 replace bb := Below.after bb b1
 clear b1
 clear c0 c1 c2 c3 c4 c5 c6 c7 c8 c9 c10 c11 c12 c13 c14 c15 c16 c17 c18 c19 c20 c21 c22 c23 p0 p1 p2 p3 p4 p5 r0 r1 r2
 obtain ⟨c0, c1, c2, c3, c4, c5, c6, c7, c8, c9, c10, c11, c12, c13, c14, c15, c16, c17, c18, c19, c20, c21, c22, c23⟩ := c24 kf
 have p0 := cel6_0 kp
 have p1 := cel6_1 kp
 have p2 := cel6_2 kp
 have p3 := cel6_3 kp
 have p4 := cel6_4 kp
 have p5 := cel6_5 kp
 have r0 := cel3_0 kr
 have r1 := cel3_1 kr
 have r2 := cel3_2 kr
 go_wp2_with fail
 go_fit (S8.out _)
 rintro e w9 ⟨rfl, b1⟩
 replace kf := kf.below b1
 replace kp := kp.below b1
 replace kr := kr.below b1
 replace bb := Below.after bb b1
 clear b1
 clear c0 c1 c2 c3 c4 c5 c6 c7 c8 c9 c10 c11 c12 c13 c14 c15 c16 c17 c18 c19 c20 c21 c22 c23 p0 p1 p2 p3 p4 p5 r0 r1 r2
 obtain ⟨c0, c1, c2, c3, c4, c5, c6, c7, c8, c9, c10, c11, c12, c13, c14, c15, c16, c17, c18, c19, c20, c21, c22, c23⟩ := c24 kf
 have p0 := cel6_0 kp
 have p1 := cel6_1 kp
 have p2 := cel6_2 kp
 have p3 := cel6_3 kp
 have p4 := cel6_4 kp
 have p5 := cel6_5 kp
 have r0 := cel3_0 kr
 have r1 := cel3_1 kr
 have r2 := cel3_2 kr
 go_wp2_with fail
 go_fit (S9.out _)
 rintro e w10 ⟨rfl, b1⟩
 replace kf := kf.below b1
 replace kp := kp.below b1
 replace kr := kr.below b1
 replace bb := Below.after bb b1
 clear b1
 clear c0 c1 c2 c3 c4 c5 c6 c7 c8 c9 c10 c11 c12 c13 c14 c15 c16 c17 c18 c19 c20 c21 c22 c23 p0 p1 p2 p3 p4 p5 r0 r1 r2
 obtain ⟨c0, c1, c2, c3, c4, c5, c6, c7, c8, c9, c10, c11, c12, c13, c14, c15, c16, c17, c18, c19, c20, c21, c22, c23⟩ := c24 kf
 have p0 := cel6_0 kp
 have p1 := cel6_1 kp
 have p2 := cel6_2 kp
 have p3 := cel6_3 kp
 have p4 := cel6_4 kp
 have p5 := cel6_5 kp
 have r0 := cel3_0 kr
 have r1 := cel3_1 kr
 have r2 := cel3_2 kr
 go_wp2_with fail
 go_fit (S10.out _)
 rintro e w11 ⟨rfl, b1⟩
 replace kf := kf.below b1
 replace kp := kp.below b1
 replace kr := kr.below b1
 replace bb := Below.after bb b1
 clear b1
 clear c0 c1 c2 c3 c4 c5 c6 c7 c8 c9 c10 c11 c12 c13 c14 c15 c16 c17 c18 c19 c20 c21 c22 c23 p0 p1 p2 p3 p4 p5 r0 r1 r2
 obtain ⟨c0, c1, c2, c3, c4, c5, c6, c7, c8, c9, c10, c11, c12, c13, c14, c15, c16, c17, c18, c19, c20, c21, c22, c23⟩ := c24 kf
 have p0 := cel6_0 kp
 have p1 := cel6_1 kp
 have p2 := cel6_2 kp
 have p3 := cel6_3 kp
 have p4 := cel6_4 kp
 have p5 := cel6_5 kp
 have r0 := cel3_0 kr
 have r1 := cel3_1 kr
 have r2 := cel3_2 kr
 go_wp2_with fail
 obtain ⟨w12, hw, kl, b1⟩ := mk1 w11 [.bool n0, .string s0, .string d0, .bool n1, .string s1, .string d1, .bool n2, .string s2, .string d2, .bool n3, .string s3, .string d3, .bool n4, .string s4, .string d4, .bool n5, .string s5, .string d5, .bool n6, .string s6, .string d6, .bool n7, .string s7, .string d7, .bool n8, .string s8, .string d8, .bool n9, .string s9, .string d9] 28
 rw [← hw]
 clear hw
 replace kf := kf.below b1
 replace kp := kp.below b1
 replace kr := kr.below b1
 replace bb := Below.after bb b1
 clear b1
 clear c0 c1 c2 c3 c4 c5 c6 c7 c8 c9 c10 c11 c12 c13 c14 c15 c16 c17 c18 c19 c20 c21 c22 c23 p0 p1 p2 p3 p4 p5 r0 r1 r2
 go_fit (HA.out _ _ bb kl)
 rintro e w13 ⟨rfl, b1⟩
 replace kf := kf.below b1
 replace kp := kp.below b1
 replace kr := kr.below b1
 replace bb := Below.after bb b1
 clear b1
 clear kl
 obtain ⟨c0, c1, c2, c3, c4, c5, c6, c7, c8, c9, c10, c11, c12, c13, c14, c15, c16, c17, c18, c19, c20, c21, c22, c23⟩ := c24 kf
 have p0 := cel6_0 kp
 have p1 := cel6_1 kp
 have p2 := cel6_2 kp
 have p3 := cel6_3 kp
 have p4 := cel6_4 kp
 have p5 := cel6_5 kp
 have r0 := cel3_0 kr
 have r1 := cel3_1 kr
 have r2 := cel3_2 kr
 go_wp2_with fail
 go_fit (HK.out _)
 rintro e w14 ⟨rfl, b1⟩
 replace kf := kf.below b1
 replace kp := kp.below b1
 replace kr := kr.below b1
 replace bb := Below.after bb b1
 clear b1
 clear c0 c1 c2 c3 c4 c5 c6 c7 c8 c9 c10 c11 c12 c13 c14 c15 c16 c17 c18 c19 c20 c21 c22 c23 p0 p1 p2 p3 p4 p5 r0 r1 r2
 go_wp2_with fail
 go_fit (HL.out _ bb)
 rintro e w15 ⟨rfl, b1⟩
 replace kf := kf.below b1
 replace kp := kp.below b1
 replace kr := kr.below b1
 replace bb := Below.after bb b1
 clear b1
 go_wp2
 go_ret
 exact ⟨rfl, bb⟩
end Go.Proofs.YtafikdacdfkkhaaGreatDoor
namespace Go.Proofs.YtafikdacdfkkhaaGreatDoor
open Go.RowKit

set_option maxRecDepth 100000 in
set_option maxHeartbeats 32000000 in
theorem moved5_s (n0 n1 n2 n3 n4 n5 n6 n7 n8 n9 n10 : Bool) (s0 d0 s1 d1 s2 d2 s3 d3 s4 d4 s5 d5 s6 d6 s7 d7 s8 d8 s9 d9 s10 d10 : ByteArray) (E : Int) (w : World) (hE : E ≤ 0)
  (HL : Hid (∀ w1, Below w.heap.size w w1 → Calls Tryz.prog 10 #[] w1 fun e w' => e = .returned (.bool true) ∧ Below w1.heap.size w1 w'))
  (S0 : Hid (∀ w1, Calls Tryz.prog 16 #[.agg #[.bool n0, .string s0, .string d0]] w1 fun e w' => e = .returned (.bool true) ∧ Below w1.heap.size w1 w'))
  (S1 : Hid (∀ w1, Calls Tryz.prog 16 #[.agg #[.bool n1, .string s1, .string d1]] w1 fun e w' => e = .returned (.bool true) ∧ Below w1.heap.size w1 w'))
  (S2 : Hid (∀ w1, Calls Tryz.prog 16 #[.agg #[.bool n2, .string s2, .string d2]] w1 fun e w' => e = .returned (.bool true) ∧ Below w1.heap.size w1 w'))
  (S3 : Hid (∀ w1, Calls Tryz.prog 16 #[.agg #[.bool n3, .string s3, .string d3]] w1 fun e w' => e = .returned (.bool true) ∧ Below w1.heap.size w1 w'))
  (S4 : Hid (∀ w1, Calls Tryz.prog 16 #[.agg #[.bool n4, .string s4, .string d4]] w1 fun e w' => e = .returned (.bool true) ∧ Below w1.heap.size w1 w'))
  (S5 : Hid (∀ w1, Calls Tryz.prog 16 #[.agg #[.bool n5, .string s5, .string d5]] w1 fun e w' => e = .returned (.bool true) ∧ Below w1.heap.size w1 w'))
  (S6 : Hid (∀ w1, Calls Tryz.prog 16 #[.agg #[.bool n6, .string s6, .string d6]] w1 fun e w' => e = .returned (.bool true) ∧ Below w1.heap.size w1 w'))
  (S7 : Hid (∀ w1, Calls Tryz.prog 16 #[.agg #[.bool n7, .string s7, .string d7]] w1 fun e w' => e = .returned (.bool true) ∧ Below w1.heap.size w1 w'))
  (S8 : Hid (∀ w1, Calls Tryz.prog 16 #[.agg #[.bool n8, .string s8, .string d8]] w1 fun e w' => e = .returned (.bool true) ∧ Below w1.heap.size w1 w'))
  (S9 : Hid (∀ w1, Calls Tryz.prog 16 #[.agg #[.bool n9, .string s9, .string d9]] w1 fun e w' => e = .returned (.bool true) ∧ Below w1.heap.size w1 w'))
  (S10 : Hid (∀ w1, Calls Tryz.prog 16 #[.agg #[.bool n10, .string s10, .string d10]] w1 fun e w' => e = .returned (.bool true) ∧ Below w1.heap.size w1 w'))
  (HA : Hid (∀ (w1 : World) (B : Nat), Below w.heap.size w w1 → Cel w1 B [.bool n0, .string s0, .string d0, .bool n1, .string s1, .string d1, .bool n2, .string s2, .string d2, .bool n3, .string s3, .string d3, .bool n4, .string s4, .string d4, .bool n5, .string s5, .string d5, .bool n6, .string s6, .string d6, .bool n7, .string s7, .string d7, .bool n8, .string s8, .string d8, .bool n9, .string s9, .string d9] 28 → Calls Tryz.prog 13 #[.slice (some ⟨B, 0, none⟩) 5 5] w1 fun e w' => e = .returned (.int .i64 (0)) ∧ Below w1.heap.size w1 w'))
  (HK : Hid (∀ w1, Calls Tryz.prog 17 #[.agg #[.bool n10, .string s10, .string d10]] w1 fun e w' => e = .returned (.int .i64 (0)) ∧ Below w1.heap.size w1 w'))
  (HG : Hid (∀ w1, Calls Tryz.prog 18 #[.agg #[.bool n10, .string s10, .string d10]] w1 fun e w' => e = .returned (.int .i64 (E)) ∧ Below w1.heap.size w1 w')) :
  Calls Tryz.prog 4 #[.agg #[.bool n0, .string s0, .string d0, .bool n1, .string s1, .string d1, .bool n2, .string s2, .string d2, .bool n3, .string s3, .string d3, .bool n4, .string s4, .string d4, .bool n5, .string s5, .string d5, .bool n6, .string s6, .string d6, .bool n7, .string s7, .string d7], .agg #[.bool n8, .string s8, .string d8, .bool n9, .string s9, .string d9], .agg #[.bool n10, .string s10, .string d10]] w fun e w' => e = .returned (.bool true) ∧ Below w.heap.size w w' := by
 go_enter Tryz.func4, Tryz.ntmps4
 go_wp2_with fail
 go_fit (S0.out _)
 rintro e w1 ⟨rfl, b1⟩
 obtain ⟨kf, kp, kr, bb⟩ := al3 b1
 clear b1
 obtain ⟨c0, c1, c2, c3, c4, c5, c6, c7, c8, c9, c10, c11, c12, c13, c14, c15, c16, c17, c18, c19, c20, c21, c22, c23⟩ := c24 kf
 have p0 := cel6_0 kp
 have p1 := cel6_1 kp
 have p2 := cel6_2 kp
 have p3 := cel6_3 kp
 have p4 := cel6_4 kp
 have p5 := cel6_5 kp
 have r0 := cel3_0 kr
 have r1 := cel3_1 kr
 have r2 := cel3_2 kr
 go_wp2_with fail
 go_fit (S1.out _)
 rintro e w2 ⟨rfl, b1⟩
 replace kf := kf.below b1
 replace kp := kp.below b1
 replace kr := kr.below b1
 replace bb := Below.after bb b1
 clear b1
 clear c0 c1 c2 c3 c4 c5 c6 c7 c8 c9 c10 c11 c12 c13 c14 c15 c16 c17 c18 c19 c20 c21 c22 c23 p0 p1 p2 p3 p4 p5 r0 r1 r2
 obtain ⟨c0, c1, c2, c3, c4, c5, c6, c7, c8, c9, c10, c11, c12, c13, c14, c15, c16, c17, c18, c19, c20, c21, c22, c23⟩ := c24 kf
 have p0 := cel6_0 kp
 have p1 := cel6_1 kp
 have p2 := cel6_2 kp
 have p3 := cel6_3 kp
 have p4 := cel6_4 kp
 have p5 := cel6_5 kp
 have r0 := cel3_0 kr
 have r1 := cel3_1 kr
 have r2 := cel3_2 kr
 go_wp2_with fail
 go_fit (S2.out _)
 rintro e w3 ⟨rfl, b1⟩
 replace kf := kf.below b1
 replace kp := kp.below b1
 replace kr := kr.below b1
 replace bb := Below.after bb b1
 clear b1
 clear c0 c1 c2 c3 c4 c5 c6 c7 c8 c9 c10 c11 c12 c13 c14 c15 c16 c17 c18 c19 c20 c21 c22 c23 p0 p1 p2 p3 p4 p5 r0 r1 r2
 obtain ⟨c0, c1, c2, c3, c4, c5, c6, c7, c8, c9, c10, c11, c12, c13, c14, c15, c16, c17, c18, c19, c20, c21, c22, c23⟩ := c24 kf
 have p0 := cel6_0 kp
 have p1 := cel6_1 kp
 have p2 := cel6_2 kp
 have p3 := cel6_3 kp
 have p4 := cel6_4 kp
 have p5 := cel6_5 kp
 have r0 := cel3_0 kr
 have r1 := cel3_1 kr
 have r2 := cel3_2 kr
 go_wp2_with fail
 go_fit (S3.out _)
 rintro e w4 ⟨rfl, b1⟩
 replace kf := kf.below b1
 replace kp := kp.below b1
 replace kr := kr.below b1
 replace bb := Below.after bb b1
 clear b1
 clear c0 c1 c2 c3 c4 c5 c6 c7 c8 c9 c10 c11 c12 c13 c14 c15 c16 c17 c18 c19 c20 c21 c22 c23 p0 p1 p2 p3 p4 p5 r0 r1 r2
 obtain ⟨c0, c1, c2, c3, c4, c5, c6, c7, c8, c9, c10, c11, c12, c13, c14, c15, c16, c17, c18, c19, c20, c21, c22, c23⟩ := c24 kf
 have p0 := cel6_0 kp
 have p1 := cel6_1 kp
 have p2 := cel6_2 kp
 have p3 := cel6_3 kp
 have p4 := cel6_4 kp
 have p5 := cel6_5 kp
 have r0 := cel3_0 kr
 have r1 := cel3_1 kr
 have r2 := cel3_2 kr
 go_wp2_with fail
 go_fit (S4.out _)
 rintro e w5 ⟨rfl, b1⟩
 replace kf := kf.below b1
 replace kp := kp.below b1
 replace kr := kr.below b1
 replace bb := Below.after bb b1
 clear b1
 clear c0 c1 c2 c3 c4 c5 c6 c7 c8 c9 c10 c11 c12 c13 c14 c15 c16 c17 c18 c19 c20 c21 c22 c23 p0 p1 p2 p3 p4 p5 r0 r1 r2
 obtain ⟨c0, c1, c2, c3, c4, c5, c6, c7, c8, c9, c10, c11, c12, c13, c14, c15, c16, c17, c18, c19, c20, c21, c22, c23⟩ := c24 kf
 have p0 := cel6_0 kp
 have p1 := cel6_1 kp
 have p2 := cel6_2 kp
 have p3 := cel6_3 kp
 have p4 := cel6_4 kp
 have p5 := cel6_5 kp
 have r0 := cel3_0 kr
 have r1 := cel3_1 kr
 have r2 := cel3_2 kr
 go_wp2_with fail
 go_fit (S5.out _)
 rintro e w6 ⟨rfl, b1⟩
 replace kf := kf.below b1
 replace kp := kp.below b1
 replace kr := kr.below b1
 replace bb := Below.after bb b1
 clear b1
 clear c0 c1 c2 c3 c4 c5 c6 c7 c8 c9 c10 c11 c12 c13 c14 c15 c16 c17 c18 c19 c20 c21 c22 c23 p0 p1 p2 p3 p4 p5 r0 r1 r2
 obtain ⟨c0, c1, c2, c3, c4, c5, c6, c7, c8, c9, c10, c11, c12, c13, c14, c15, c16, c17, c18, c19, c20, c21, c22, c23⟩ := c24 kf
 have p0 := cel6_0 kp
 have p1 := cel6_1 kp
 have p2 := cel6_2 kp
 have p3 := cel6_3 kp
 have p4 := cel6_4 kp
 have p5 := cel6_5 kp
 have r0 := cel3_0 kr
 have r1 := cel3_1 kr
 have r2 := cel3_2 kr
 go_wp2_with fail
 go_fit (S6.out _)
 rintro e w7 ⟨rfl, b1⟩
 replace kf := kf.below b1
 replace kp := kp.below b1
 replace kr := kr.below b1
 replace bb := Below.after bb b1
 clear b1
 clear c0 c1 c2 c3 c4 c5 c6 c7 c8 c9 c10 c11 c12 c13 c14 c15 c16 c17 c18 c19 c20 c21 c22 c23 p0 p1 p2 p3 p4 p5 r0 r1 r2
 obtain ⟨c0, c1, c2, c3, c4, c5, c6, c7, c8, c9, c10, c11, c12, c13, c14, c15, c16, c17, c18, c19, c20, c21, c22, c23⟩ := c24 kf
 have p0 := cel6_0 kp
 have p1 := cel6_1 kp
 have p2 := cel6_2 kp
 have p3 := cel6_3 kp
 have p4 := cel6_4 kp
 have p5 := cel6_5 kp
 have r0 := cel3_0 kr
 have r1 := cel3_1 kr
 have r2 := cel3_2 kr
 go_wp2_with fail
 go_fit (S7.out _)
 rintro e w8 ⟨rfl, b1⟩
 replace kf := kf.below b1
 replace kp := kp.below b1
 replace kr := kr.below b1
 replace bb := Below.after bb b1
 clear b1
 clear c0 c1 c2 c3 c4 c5 c6 c7 c8 c9 c10 c11 c12 c13 c14 c15 c16 c17 c18 c19 c20 c21 c22 c23 p0 p1 p2 p3 p4 p5 r0 r1 r2
 obtain ⟨c0, c1, c2, c3, c4, c5, c6, c7, c8, c9, c10, c11, c12, c13, c14, c15, c16, c17, c18, c19, c20, c21, c22, c23⟩ := c24 kf
 have p0 := cel6_0 kp
 have p1 := cel6_1 kp
 have p2 := cel6_2 kp
 have p3 := cel6_3 kp
 have p4 := cel6_4 kp
 have p5 := cel6_5 kp
 have r0 := cel3_0 kr
 have r1 := cel3_1 kr
 have r2 := cel3_2 kr
 go_wp2_with fail
 go_fit (S8.out _)
 rintro e w9 ⟨rfl, b1⟩
 replace kf := kf.below b1
 replace kp := kp.below b1
 replace kr := kr.below b1
 replace bb := Below.after bb b1
 clear b1
 clear c0 c1 c2 c3 c4 c5 c6 c7 c8 c9 c10 c11 c12 c13 c14 c15 c16 c17 c18 c19 c20 c21 c22 c23 p0 p1 p2 p3 p4 p5 r0 r1 r2
 obtain ⟨c0, c1, c2, c3, c4, c5, c6, c7, c8, c9, c10, c11, c12, c13, c14, c15, c16, c17, c18, c19, c20, c21, c22, c23⟩ := c24 kf
 have p0 := cel6_0 kp
 have p1 := cel6_1 kp
 have p2 := cel6_2 kp
 have p3 := cel6_3 kp
 have p4 := cel6_4 kp
 have p5 := cel6_5 kp
 have r0 := cel3_0 kr
 have r1 := cel3_1 kr
 have r2 := cel3_2 kr
 go_wp2_with fail
 go_fit (S9.out _)
 rintro e w10 ⟨rfl, b1⟩
 replace kf := kf.below b1
 replace kp := kp.below b1
 replace kr := kr.below b1
 replace bb := Below.after bb b1
 clear b1
 clear c0 c1 c2 c3 c4 c5 c6 c7 c8 c9 c10 c11 c12 c13 c14 c15 c16 c17 c18 c19 c20 c21 c22 c23 p0 p1 p2 p3 p4 p5 r0 r1 r2
 obtain ⟨c0, c1, c2, c3, c4, c5, c6, c7, c8, c9, c10, c11, c12, c13, c14, c15, c16, c17, c18, c19, c20, c21, c22, c23⟩ := c24 kf
 have p0 := cel6_0 kp
 have p1 := cel6_1 kp
 have p2 := cel6_2 kp
 have p3 := cel6_3 kp
 have p4 := cel6_4 kp
 have p5 := cel6_5 kp
 have r0 := cel3_0 kr
 have r1 := cel3_1 kr
 have r2 := cel3_2 kr
 go_wp2_with fail
 go_fit (S10.out _)
 rintro e w11 ⟨rfl, b1⟩
 replace kf := kf.below b1
 replace kp := kp.below b1
 replace kr := kr.below b1
 replace bb := Below.after bb b1
 clear b1
 clear c0 c1 c2 c3 c4 c5 c6 c7 c8 c9 c10 c11 c12 c13 c14 c15 c16 c17 c18 c19 c20 c21 c22 c23 p0 p1 p2 p3 p4 p5 r0 r1 r2
 obtain ⟨c0, c1, c2, c3, c4, c5, c6, c7, c8, c9, c10, c11, c12, c13, c14, c15, c16, c17, c18, c19, c20, c21, c22, c23⟩ := c24 kf
 have p0 := cel6_0 kp
 have p1 := cel6_1 kp
 have p2 := cel6_2 kp
 have p3 := cel6_3 kp
 have p4 := cel6_4 kp
 have p5 := cel6_5 kp
 have r0 := cel3_0 kr
 have r1 := cel3_1 kr
 have r2 := cel3_2 kr
 go_wp2_with fail
 obtain ⟨w12, hw, kl, b1⟩ := mk1 w11 [.bool n0, .string s0, .string d0, .bool n1, .string s1, .string d1, .bool n2, .string s2, .string d2, .bool n3, .string s3, .string d3, .bool n4, .string s4, .string d4, .bool n5, .string s5, .string d5, .bool n6, .string s6, .string d6, .bool n7, .string s7, .string d7, .bool n8, .string s8, .string d8, .bool n9, .string s9, .string d9] 28
 rw [← hw]
 clear hw
 replace kf := kf.below b1
 replace kp := kp.below b1
 replace kr := kr.below b1
 replace bb := Below.after bb b1
 clear b1
 clear c0 c1 c2 c3 c4 c5 c6 c7 c8 c9 c10 c11 c12 c13 c14 c15 c16 c17 c18 c19 c20 c21 c22 c23 p0 p1 p2 p3 p4 p5 r0 r1 r2
 go_fit (HA.out _ _ bb kl)
 rintro e w13 ⟨rfl, b1⟩
 replace kf := kf.below b1
 replace kp := kp.below b1
 replace kr := kr.below b1
 replace bb := Below.after bb b1
 clear b1
 clear kl
 obtain ⟨c0, c1, c2, c3, c4, c5, c6, c7, c8, c9, c10, c11, c12, c13, c14, c15, c16, c17, c18, c19, c20, c21, c22, c23⟩ := c24 kf
 have p0 := cel6_0 kp
 have p1 := cel6_1 kp
 have p2 := cel6_2 kp
 have p3 := cel6_3 kp
 have p4 := cel6_4 kp
 have p5 := cel6_5 kp
 have r0 := cel3_0 kr
 have r1 := cel3_1 kr
 have r2 := cel3_2 kr
 go_wp2_with fail
 go_fit (HK.out _)
 rintro e w14 ⟨rfl, b1⟩
 replace kf := kf.below b1
 replace kp := kp.below b1
 replace kr := kr.below b1
 replace bb := Below.after bb b1
 clear b1
 clear c0 c1 c2 c3 c4 c5 c6 c7 c8 c9 c10 c11 c12 c13 c14 c15 c16 c17 c18 c19 c20 c21 c22 c23 p0 p1 p2 p3 p4 p5 r0 r1 r2
 obtain ⟨c0, c1, c2, c3, c4, c5, c6, c7, c8, c9, c10, c11, c12, c13, c14, c15, c16, c17, c18, c19, c20, c21, c22, c23⟩ := c24 kf
 have p0 := cel6_0 kp
 have p1 := cel6_1 kp
 have p2 := cel6_2 kp
 have p3 := cel6_3 kp
 have p4 := cel6_4 kp
 have p5 := cel6_5 kp
 have r0 := cel3_0 kr
 have r1 := cel3_1 kr
 have r2 := cel3_2 kr
 go_wp2_with fail
 go_fit (HG.out _)
 rintro e w15 ⟨rfl, b1⟩
 replace kf := kf.below b1
 replace kp := kp.below b1
 replace kr := kr.below b1
 replace bb := Below.after bb b1
 clear b1
 clear c0 c1 c2 c3 c4 c5 c6 c7 c8 c9 c10 c11 c12 c13 c14 c15 c16 c17 c18 c19 c20 c21 c22 c23 p0 p1 p2 p3 p4 p5 r0 r1 r2
 go_wp2_with fail
 go_fit (HL.out _ bb)
 rintro e w16 ⟨rfl, b1⟩
 replace kf := kf.below b1
 replace kp := kp.below b1
 replace kr := kr.below b1
 replace bb := Below.after bb b1
 clear b1
 go_wp2
 go_ret
 exact ⟨rfl, bb⟩
end Go.Proofs.YtafikdacdfkkhaaGreatDoor
