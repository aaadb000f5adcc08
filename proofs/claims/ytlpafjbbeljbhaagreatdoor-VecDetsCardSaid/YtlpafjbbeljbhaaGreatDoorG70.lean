/-
  vec.isSquare of any rows.
  gussetlaw04's few; gussetref04's Square and Numbers, of any rows.
-/
import Derived.Test.YtlpafjbbeljbhaaGreatDoorG35
import Derived.Test.YtlpafjbbeljbhaaGreatDoorG39
namespace Go.Proofs.YtlpafjbbeljbhaaGreatDoor
section
open Go.RowKit
open Classical in
set_option maxRecDepth 100000 in
set_option maxHeartbeats 4000000 in
theorem isSquare_many (a : Option Addr) (n cap : Nat) (w : World) (h1 : 4 < n) :
  Calls Tryz.prog 54 #[.slice a n cap] w fun e w' => e = .returned (.bool false) ∧ w' = w := by
 have i1 : ¬ (n : Int) < 1 := by omega
 have i2 : (4 : Int) < (n : Int) := by omega
 go_enter Tryz.func54, Tryz.ntmps54
 go_wp2
 go_ret
 exact ⟨rfl, rfl⟩
set_option maxRecDepth 100000 in
set_option maxHeartbeats 4000000 in
theorem isSquare_not (a : Option Addr) (n cap : Nat) (len : Nat → Nat) (N : Nat → Nat → Bool) (S D : Nat → Nat → ByteArray) (w : World) (h : RdG w a n len N S D) (h1 : 1 ≤ n) (h4 : n ≤ 4) (hs : ¬ ∀ i, i < n → len i = n) :
  Calls Tryz.prog 54 #[.slice a n cap] w fun e w' => e = .returned (.bool false) ∧ w' = w := by
 replace h := shut h
 replace hs := shut hs
 have i1 : ¬ (n : Int) < 1 := by omega
 have i2 : ¬ (4 : Int) < (n : Int) := by omega
 go_enter Tryz.func54, Tryz.ntmps54
 go_wp2
 go_loop [15] (fun i => ∃ k : Nat, k ≤ n ∧ i = .int .i64 k ∧ ∀ j, j < k → len j = n) (fun i => n - (intOf i).toNat)
 case atStart => exact ⟨0, by omega, rfl, fun j hj => by omega⟩
 case round =>
  obtain ⟨k, hk, rfl, hz⟩ := hrel
  replace hz := shut hz
  by_cases hkn : k < n
  ·obtain ⟨b, off, ar, c, rfl, h0, hc, -⟩ := h.out k hkn
   by_cases he : len k = n
   ·rw [he] at h0
    replace he := shut he
    go_wp2
    exact ⟨⟨k + 1, by omega, by go_num, fun j hj => by
     by_cases e : j = k
     ·subst e; exact he.out
     ·exact hz.out j (by omega)⟩, by simp [intOf]; omega⟩
   ·have he' : ((len k : Int) == (n : Int)) = false := beq_eq_false_iff_ne.2 (by omega)
    have he2 : ¬ (len k : Int) = (n : Int) := by omega
    go_wp2
    go_ret
    exact ⟨rfl, rfl⟩
  ·exact absurd (fun j hj => hz.out j (by omega)) hs.out
open Classical in
theorem isSquare_any (a : Option Addr) (n cap : Nat) (len : Nat → Nat) (N : Nat → Nat → Bool) (S D : Nat → Nat → ByteArray) (w : World) (h : RdG w a n len N S D) :
  Calls Tryz.prog 54 #[.slice a n cap] w fun e w' => e = .returned (.bool (decide (sq n len))) ∧ w' = w := by
 by_cases h1 : 1 ≤ n
 ·by_cases h4 : n ≤ 4
  ·by_cases hl : ∀ i, i < n → len i = n
   ·rw [decide_eq_true (show sq n len from ⟨h1, h4, hl⟩)]; exact isSquare_yes a n cap len N S D w h ⟨h1, h4, hl⟩
   ·rw [decide_eq_false (fun e => hl e.2.2)]; exact isSquare_not a n cap len N S D w h h1 h4 hl
  ·rw [decide_eq_false (fun e => h4 e.2.1)]; exact isSquare_many a n cap w (by omega)
 ·rw [decide_eq_false (fun e => h1 e.1)]; exact isSquare_few a n cap w (by omega)

end
end Go.Proofs.YtlpafjbbeljbhaaGreatDoor
namespace Go.Proofs.YtlpafjbbeljbhaaGreatDoor
open Go.RowKit

/-- Few rows of few short numbers. -/
def FewP (n : Nat) (len : Nat → Nat) (S D : Nat → Nat → ByteArray) : Prop := n ≤ 5 ∧ ∀ i, i < n → len i ≤ 5 ∧ ∀ j, j < len i → sh (S i j) (D i j) = true
set_option maxRecDepth 100000 in
set_option maxHeartbeats 4000000 in
theorem lfew_any (a : Option Addr) (n cap : Nat) (len : Nat → Nat) (N : Nat → Nat → Bool) (S D : Nat → Nat → ByteArray) (w : World) (h : RdG w a n len N S D) :
  Calls Tryz.prog 28 #[.slice a n cap] w fun e w' => (e = .returned (.bool false) ∨ e = .returned (.bool true) ∧ FewP n len S D) ∧ Below w.heap.size w w' := by
 replace h := shut h
 by_cases h5 : n ≤ 5
 case neg =>
  have i1 : (5 : Int) < (n : Int) := by omega
  go_enter Tryz.func28, Tryz.ntmps28
  go_wp2
  go_ret
  exact ⟨Or.inl rfl, Below.refl _ _⟩
 have i1 : ¬ (5 : Int) < (n : Int) := by omega
 go_enter Tryz.func28, Tryz.ntmps28
 go_wp2
 go_loopw [3] (fun i wr => Below w.heap.size w wr ∧ ∃ k : Nat, k ≤ n ∧ i = .int .i64 k ∧ ∀ i, i < k → len i ≤ 5 ∧ ∀ j, j < len i → sh (S i j) (D i j) = true) (fun i _ => n - (intOf i).toNat)
 case atStart => exact ⟨Below.refl _ _, 0, by omega, rfl, fun i hi => by omega⟩
 case round =>
  obtain ⟨bb, k, hk, rfl, hz⟩ := hrel
  replace hz := shut hz
  by_cases hkn : k < n
  ·obtain ⟨b, off, ar, c, rfl, h0, hc, hr⟩ := h.out.below bb k hkn
   replace hr := shut hr
   by_cases hl : len k ≤ 5
   ·have i2 : ¬ (5 : Int) < (len k : Int) := by omega
    go_wp2
    go_loopw [4] (fun i wi => Below wr.heap.size wr wi ∧ ∃ l : Nat, l ≤ len k ∧ i = .int .i64 l ∧ ∀ j, j < l → sh (S k j) (D k j) = true) (fun i _ => len k - (intOf i).toNat)
    case atStart => exact ⟨Below.refl _ _, 0, by omega, rfl, fun i hi => by omega⟩
    case round =>
     obtain ⟨bi, l, hl', rfl, hy⟩ := hrel
     replace hy := shut hy
     replace h0 := cell_below h0 bi
     by_cases hln : l < len k
     ·obtain ⟨b2, off2, rfl, r0, r1, r2⟩ := RdQ.below hr.out bi l hln
      have HS := shut (fun w1 => short_any (N k l) (S k l) (D k l) w1)
      by_cases hs : sh (S k l) (D k l) = true
      ·rw [hs] at HS
       replace hs := shut hs
       go_wp2_with fail
       go_fit (HS.out _)
       rintro e w2 ⟨rfl, b1⟩
       replace bi := Below.after bi b1
       clear b1 r0 r1 r2 h0
       go_wp2
       exact ⟨⟨bi, l + 1, by omega, by go_num, fun j hj => by
        by_cases e : j = l
        ·subst e; exact hs.out
        ·exact hy.out j (by omega)⟩, by simp [intOf]; omega⟩
      ·rw [Bool.not_eq_true] at hs
       rw [hs] at HS
       go_wp2_with fail
       go_fit (HS.out _)
       rintro e w2 ⟨rfl, b1⟩
       replace bi := Below.after bi b1
       clear b1 r0 r1 r2 h0
       go_wp2
       go_ret
       exact ⟨Or.inl rfl, Below.after bb bi⟩
     ·obtain rfl : l = len k := by omega
      go_wp2
      exact ⟨⟨Below.after bb bi, k + 1, by omega, by go_num, fun i hi => by
       by_cases e : i = k
       ·subst e; exact ⟨hl, hy.out⟩
       ·exact hz.out i (by omega)⟩, by simp [intOf]; omega⟩
   ·have i2 : (5 : Int) < (len k : Int) := by omega
    go_wp2
    go_ret
    exact ⟨Or.inl rfl, bb⟩
  ·obtain rfl : k = n := by omega
   go_wp2
   go_ret
   exact ⟨Or.inr ⟨rfl, h5, hz.out⟩, bb⟩
end Go.Proofs.YtlpafjbbeljbhaaGreatDoor
