/-
  gussetlaw04's few; gussetref04's Square and Numbers, of any rows.
-/
import Derived.Lib.AppendIntMem
import Derived.Shelf.LaysM
import Derived.Shelf.Strconv.Itoa2
import Derived.Test.YtgihiaaodkkkbaaGreatDoorG39
namespace Go.Proofs.YtgihiaaodkkkbaaGreatDoor
open Go.RowKit

/-- Few rows of few short numbers. -/
def FewP (n : Nat) (len : Nat → Nat) (S D : Nat → Nat → ByteArray) : Prop := n ≤ 5 ∧ ∀ i, i < n → len i ≤ 5 ∧ ∀ j, j < len i → sh (S i j) (D i j) = true
set_option maxRecDepth 100000 in
set_option maxHeartbeats 4000000 in
theorem lfew_any (a : Option Addr) (n cap : Nat) (len : Nat → Nat) (N : Nat → Nat → Bool) (S D : Nat → Nat → ByteArray) (w : World) (h : RdG w a n len N S D) :
  Calls Tryz.prog 9 #[.slice a n cap] w fun e w' => (e = .returned (.bool false) ∨ e = .returned (.bool true) ∧ FewP n len S D) ∧ Below w.heap.size w w' := by
 replace h := shut h
 by_cases h5 : n ≤ 5
 case neg =>
  have i1 : (5 : Int) < (n : Int) := by omega
  go_enter Tryz.func9, Tryz.ntmps9
  go_wp2
  go_ret
  exact ⟨Or.inl rfl, Below.refl _ _⟩
 have i1 : ¬ (5 : Int) < (n : Int) := by omega
 go_enter Tryz.func9, Tryz.ntmps9
 go_wp2
 go_loopw [3] (fun i wr => Below w.heap.size w wr ∧ ∃ k : Nat, k ≤ n ∧ i = .int .i64 k ∧ ∀ i, i < k → len i ≤ 5 ∧ ∀ j, j < len i → sh (S i j) (D i j) = true) (fun i _ => n - (intOf i).toNat)
 case atStart => exact ⟨Below.refl _ _, 0, by omega, rfl, fun i hi => by omega⟩
 case round =>
  obtain ⟨bb, k, hk, rfl, hz⟩ := hrel
  replace hz := shut hz
  by_cases hkn : k < n
  ·obtain ⟨b, off, ar, c, rfl, h0, hc, hr⟩ := h.out.below bb k hkn
   replace hr := shut hr
   by_cases hl : len k ≤ 5
   ·have i2 : ¬ (5 : Int) < (len k : Int) := by omega
    go_wp2
    go_loopw [4] (fun i wi => Below wr.heap.size wr wi ∧ ∃ l : Nat, l ≤ len k ∧ i = .int .i64 l ∧ ∀ j, j < l → sh (S k j) (D k j) = true) (fun i _ => len k - (intOf i).toNat)
    case atStart => exact ⟨Below.refl _ _, 0, by omega, rfl, fun i hi => by omega⟩
    case round =>
     obtain ⟨bi, l, hl', rfl, hy⟩ := hrel
     replace hy := shut hy
     replace h0 := cell_below h0 bi
     by_cases hln : l < len k
     ·obtain ⟨b2, off2, rfl, r0, r1, r2⟩ := RdQ.below hr.out bi l hln
      have HS := shut (fun w1 => short_any (N k l) (S k l) (D k l) w1)
      by_cases hs : sh (S k l) (D k l) = true
      ·rw [hs] at HS
       replace hs := shut hs
       go_wp2_with fail
       go_fit (HS.out _)
       rintro e w2 ⟨rfl, b1⟩
       replace bi := Below.after bi b1
       clear b1 r0 r1 r2 h0
       go_wp2
       exact ⟨⟨bi, l + 1, by omega, by go_num, fun j hj => by
        by_cases e : j = l
        ·subst e; exact hs.out
        ·exact hy.out j (by omega)⟩, by simp [intOf]; omega⟩
      ·rw [Bool.not_eq_true] at hs
       rw [hs] at HS
       go_wp2_with fail
       go_fit (HS.out _)
       rintro e w2 ⟨rfl, b1⟩
       replace bi := Below.after bi b1
       clear b1 r0 r1 r2 h0
       go_wp2
       go_ret
       exact ⟨Or.inl rfl, Below.after bb bi⟩
     ·obtain rfl : l = len k := by omega
      go_wp2
      exact ⟨⟨Below.after bb bi, k + 1, by omega, by go_num, fun i hi => by
       by_cases e : i = k
       ·subst e; exact ⟨hl, hy.out⟩
       ·exact hz.out i (by omega)⟩, by simp [intOf]; omega⟩
   ·have i2 : (5 : Int) < (len k : Int) := by omega
    go_wp2
    go_ret
    exact ⟨Or.inl rfl, bb⟩
  ·obtain rfl : k = n := by omega
   go_wp2
   go_ret
   exact ⟨Or.inr ⟨rfl, h5, hz.out⟩, bb⟩
end Go.Proofs.YtgihiaaodkkkbaaGreatDoor
