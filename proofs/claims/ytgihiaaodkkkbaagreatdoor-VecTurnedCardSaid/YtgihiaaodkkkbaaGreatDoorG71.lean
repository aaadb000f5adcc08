/-
  gussetref04's Square and Numbers, of any rows.
-/
import Derived.Test.YtgihiaaodkkkbaaGreatDoorG35
import Derived.Test.YtgihiaaodkkkbaaGreatDoorG39
namespace Go.Proofs.YtgihiaaodkkkbaaGreatDoor
open Go.RowKit

set_option maxRecDepth 100000 in
set_option maxHeartbeats 4000000 in
theorem rsquare_yes (a : Option Addr) (n cap : Nat) (len : Nat → Nat) (N : Nat → Nat → Bool) (S D : Nat → Nat → ByteArray) (w : World) (h : RdG w a n len N S D) (hs : sq n len) :
  Calls Tryz.prog 10 #[.slice a n cap] w fun e w' => e = .returned (.bool true) ∧ w' = w := by
 obtain ⟨h1, h4, hl⟩ := hs
 replace h := shut h
 replace hl := shut hl
 have i1 : ¬ (n : Int) < 1 := by omega
 have i2 : ¬ (4 : Int) < (n : Int) := by omega
 go_enter Tryz.func10, Tryz.ntmps10
 go_wp2
 go_loop [3] (fun i => ∃ k : Nat, k ≤ n ∧ i = .int .i64 k) (fun i => n - (intOf i).toNat)
 case atStart => exact ⟨0, by omega, rfl⟩
 case round =>
  obtain ⟨k, hk, rfl⟩ := hrel
  by_cases hkn : k < n
  ·obtain ⟨b, off, ar, c, rfl, h0, hc, -⟩ := h.out k hkn
   rw [hl.out k hkn] at h0
   go_wp2
   exact ⟨⟨k + 1, by omega, by go_num⟩, by simp [intOf]; omega⟩
  ·obtain rfl : k = n := by omega
   go_wp2
   go_ret
   exact ⟨rfl, rfl⟩
set_option maxRecDepth 100000 in
set_option maxHeartbeats 4000000 in
theorem rsquare_few (a : Option Addr) (n cap : Nat) (w : World) (h1 : n < 1) :
  Calls Tryz.prog 10 #[.slice a n cap] w fun e w' => e = .returned (.bool false) ∧ w' = w := by
 have i1 : (n : Int) < 1 := by omega
 go_enter Tryz.func10, Tryz.ntmps10
 go_wp2
 go_ret
 exact ⟨rfl, rfl⟩
set_option maxRecDepth 100000 in
set_option maxHeartbeats 4000000 in
theorem rsquare_many (a : Option Addr) (n cap : Nat) (w : World) (h1 : 4 < n) :
  Calls Tryz.prog 10 #[.slice a n cap] w fun e w' => e = .returned (.bool false) ∧ w' = w := by
 have i1 : ¬ (n : Int) < 1 := by omega
 have i2 : (4 : Int) < (n : Int) := by omega
 go_enter Tryz.func10, Tryz.ntmps10
 go_wp2
 go_ret
 exact ⟨rfl, rfl⟩
set_option maxRecDepth 100000 in
set_option maxHeartbeats 4000000 in
theorem rsquare_not (a : Option Addr) (n cap : Nat) (len : Nat → Nat) (N : Nat → Nat → Bool) (S D : Nat → Nat → ByteArray) (w : World) (h : RdG w a n len N S D) (h1 : 1 ≤ n) (h4 : n ≤ 4) (hs : ¬ ∀ i, i < n → len i = n) :
  Calls Tryz.prog 10 #[.slice a n cap] w fun e w' => e = .returned (.bool false) ∧ w' = w := by
 replace h := shut h
 replace hs := shut hs
 have i1 : ¬ (n : Int) < 1 := by omega
 have i2 : ¬ (4 : Int) < (n : Int) := by omega
 go_enter Tryz.func10, Tryz.ntmps10
 go_wp2
 go_loop [3] (fun i => ∃ k : Nat, k ≤ n ∧ i = .int .i64 k ∧ ∀ j, j < k → len j = n) (fun i => n - (intOf i).toNat)
 case atStart => exact ⟨0, by omega, rfl, fun j hj => by omega⟩
 case round =>
  obtain ⟨k, hk, rfl, hz⟩ := hrel
  replace hz := shut hz
  by_cases hkn : k < n
  ·obtain ⟨b, off, ar, c, rfl, h0, hc, -⟩ := h.out k hkn
   by_cases he : len k = n
   ·rw [he] at h0
    replace he := shut he
    go_wp2
    exact ⟨⟨k + 1, by omega, by go_num, fun j hj => by
     by_cases e : j = k
     ·subst e; exact he.out
     ·exact hz.out j (by omega)⟩, by simp [intOf]; omega⟩
   ·have he' : ((len k : Int) == (n : Int)) = false := beq_eq_false_iff_ne.2 (by omega)
    have he2 : ¬ (len k : Int) = (n : Int) := by omega
    go_wp2
    go_ret
    exact ⟨rfl, rfl⟩
  ·exact absurd (fun j hj => hz.out j (by omega)) hs.out
open Classical in
theorem rsquare_any (a : Option Addr) (n cap : Nat) (len : Nat → Nat) (N : Nat → Nat → Bool) (S D : Nat → Nat → ByteArray) (w : World) (h : RdG w a n len N S D) :
  Calls Tryz.prog 10 #[.slice a n cap] w fun e w' => e = .returned (.bool (decide (sq n len))) ∧ w' = w := by
 by_cases h1 : 1 ≤ n
 ·by_cases h4 : n ≤ 4
  ·by_cases hl : ∀ i, i < n → len i = n
   ·rw [decide_eq_true (show sq n len from ⟨h1, h4, hl⟩)]; exact rsquare_yes a n cap len N S D w h ⟨h1, h4, hl⟩
   ·rw [decide_eq_false (fun e => hl e.2.2)]; exact rsquare_not a n cap len N S D w h h1 h4 hl
  ·rw [decide_eq_false (fun e => h4 e.2.1)]; exact rsquare_many a n cap w (by omega)
 ·rw [decide_eq_false (fun e => h1 e.1)]; exact rsquare_few a n cap w (by omega)


set_option maxRecDepth 100000 in
set_option maxHeartbeats 4000000 in
theorem numbers_any (a : Option Addr) (n cap : Nat) (len : Nat → Nat) (N : Nat → Nat → Bool) (S D : Nat → Nat → ByteArray) (w : World) (hn : n ≤ 5) (hl5 : ∀ i, i < n → len i ≤ 5) (h : RdG w a n len N S D) (hs : ∀ i j, i < n → j < len i → (S i j).size ≤ 8000 ∧ (D i j).size ≤ 8000) :
  Calls Tryz.prog 11 #[.slice a n cap] w fun e w' => e = .returned (.int .i64 (firstE (fun i => firstE (fun j => chkq (N i j) (S i j) (D i j)) (len i)) n : Nat)) ∧ Below w.heap.size w w' := by
 replace h := shut h
 replace hl5 := shut hl5
 replace hs := shut hs
 obtain ⟨c, hcd⟩ : ∃ c : Nat → Nat → Nat, c = fun i j => chkq (N i j) (S i j) (D i j) := ⟨_, rfl⟩
 obtain ⟨r, hrd⟩ : ∃ r : Nat → Nat, r = fun i => firstE (c i) (len i) := ⟨_, rfl⟩
 have HC : Hid (∀ (i j : Nat) (w1 : World), i < n → j < len i → Calls Tryz.prog 34 #[.agg #[.bool (N i j), .string (S i j), .string (D i j)]] w1 fun e w' => e = .returned (.int .i64 (c i j : Nat)) ∧ Below w1.heap.size w1 w') := fun i j w1 hi hj => by
  rw [hcd]
  exact refc_any (N i j) (S i j) (D i j) w1 (hs.out i j hi hj).1 (hs.out i j hi hj).2
 have HR : Hid (∀ i, r i = firstE (c i) (len i)) := fun i => by rw [hrd]
 have HG : Hid (firstE (fun i => firstE (fun j => chkq (N i j) (S i j) (D i j)) (len i)) n = firstE r n) := by show _ = _; rw [hrd, hcd]
 rw [HG.out]
 clear hcd hrd
 go_enter Tryz.func11, Tryz.ntmps11
 go_wp2
 go_loopw [3] (fun i wr => Below w.heap.size w wr ∧ ∃ k : Nat, k ≤ n ∧ i = .int .i64 k ∧ firstE r k = 0) (fun i _ => n - (intOf i).toNat)
 case atStart => exact ⟨Below.refl _ _, 0, by omega, rfl, rfl⟩
 case round =>
  obtain ⟨bb, k, hk, rfl, hz⟩ := hrel
  by_cases hkn : k < n
  ·obtain ⟨b, off, ar, cc, rfl, h0, hc, hr⟩ := h.out.below bb k hkn
   replace hr := shut hr
   have hl := hl5.out k hkn
   replace hz := shut hz
   go_wp2
   go_loopw [4] (fun i wi => Below wr.heap.size wr wi ∧ ∃ l : Nat, l ≤ len k ∧ i = .int .i64 l ∧ firstE (c k) l = 0) (fun i _ => len k - (intOf i).toNat)
   case atStart => exact ⟨Below.refl _ _, 0, by omega, rfl, rfl⟩
   case round =>
    obtain ⟨bi, l, hl', rfl, hy⟩ := hrel
    replace h0 := cell_below h0 bi
    by_cases hln : l < len k
    ·obtain ⟨b2, off2, rfl, r0, r1, r2⟩ := RdQ.below hr.out bi l hln
     have HX := shut (fun w1 => HC.out k l w1 hkn hln)
     by_cases hck : c k l = 0
     ·have hs' : Hid (firstE (c k) (l + 1) = 0) := by show firstE (c k) (l + 1) = 0; unfold firstE; rw [if_pos hy, hck]
      replace hy := shut hy
      rw [hck] at HX
      replace hck := shut hck
      go_wp2_with fail
      go_fit (HX.out _)
      rintro e w2 ⟨rfl, b1⟩
      replace bi := Below.after bi b1
      clear b1 r0 r1 r2 h0
      go_wp2
      exact ⟨⟨bi, l + 1, by omega, by go_num, hs'.out⟩, by simp [intOf]; omega⟩
     ·have e1 : r k = c k l := by rw [HR.out k, firstE_stop hy hck (len k) hln]
      have e2 : Hid (firstE r n = c k l) := by
       show _ = _
       rw [firstE_stop hz.out (by rw [e1]; exact hck) n hkn, e1]
      replace hy := shut hy
      have hck' : ¬ (c k l : Int) = 0 := by omega
      clear e1
      go_wp2_with fail
      go_fit (HX.out _)
      rintro e w2 ⟨rfl, b1⟩
      replace bi := Below.after bi b1
      clear b1 r0 r1 r2 h0
      go_wp2
      go_ret
      exact ⟨by rw [e2.out]; rfl, Below.after bb bi⟩
    ·obtain rfl : l = len k := by omega
     have hs' : Hid (firstE r (k + 1) = 0) := by show firstE r (k + 1) = 0; unfold firstE; rw [if_pos hz.out, HR.out k, hy]
     replace hy := shut hy
     go_wp2
     exact ⟨⟨Below.after bb bi, k + 1, by omega, by go_num, hs'.out⟩, by simp [intOf]; omega⟩
  ·obtain rfl : k = n := by omega
   replace hz := shut hz
   go_wp2
   go_ret
   exact ⟨by rw [hz.out]; rfl, bb⟩
end Go.Proofs.YtgihiaaodkkkbaaGreatDoor
