/-
  limb.order, limb.Cmp.
-/
import Derived.Test.YtnplifkgeeicjaaGreatDoorU03
import Derived.Test.YtnplifkgeeicjaaGreatDoorU05
namespace Go.Proofs.YtnplifkgeeicjaaGreatDoor
open Go.RowKit
def cmpN (m n : Nat) : Int := if m < n then -1 else if n < m then 1 else 0
theorem cmpN_lt {m n : Nat} (h : m < n) : cmpN m n = -1 := by simp [cmpN, h]
theorem cmpN_gt {m n : Nat} (h : n < m) : cmpN m n = 1 := by simp [cmpN, h]; omega
theorem cmpN_eq {m n : Nat} (h : m = n) : cmpN m n = 0 := by simp [cmpN, h]
set_option maxHeartbeats 1000000 in
theorem order_any (va vb : Value) (xs ys : List Nat) (w : World) (ha : Rd w va xs) (hb : Rd w vb ys) (la : M.Low B64 xs) (lb : M.Low B64 ys) (hx : xs.length ≤ 100000) (hy : ys.length ≤ 100000) :
  Calls Tryz.prog 226 #[va, vb] w (Re w (.int .i64 (cmpN (M.val B64 xs) (M.val B64 ys)))) := by
 have ha0 := ha
 have hb0 := hb
 obtain ⟨a, ca, rfl, hca, -⟩ := ha
 obtain ⟨b, cb, rfl, hcb, -⟩ := hb
 obtain ⟨n, hn⟩ : ∃ n, n = max xs.length ys.length := ⟨_, rfl⟩
 have hxn : xs.length ≤ n := by omega
 have hyn : ys.length ≤ n := by omega
 have hn4 : n ≤ 100000 := by omega
 have HN : Hid (n = max xs.length ys.length) := hn
 clear hn
 go_enter Tryz.func226, Tryz.ntmps226
 go_wp2_with fail
 refine (reader_any _ _ _ _).mono ?_
 rintro e w1 ⟨rfl, rfl⟩
 go_wp2_with fail
 refine (reader_any _ _ _ _).mono ?_
 rintro e w1 ⟨rfl, rfl⟩
 obtain ⟨w0, hw0⟩ : ∃ w0, w0 = (w.alloc (.cells #[.slice a xs.length ca] 64)).alloc (.cells #[.slice b ys.length cb] 64) := ⟨_, rfl⟩
 have hb0' : Below w.heap.size w w0 := by subst hw0; go_grown
 have pA : w0.cell? ⟨w.heap.size, 0, none⟩ = some (.slice a xs.length ca) := by subst hw0; simp [go_sem]
 have pB : w0.cell? ⟨w.heap.size + 1, 0, none⟩ = some (.slice b ys.length cb) := by subst hw0; simp [go_sem]
 have rA := ha0.below hb0'
 have rB := hb0.below hb0'
 rw [← hw0]
 clear hw0
 go_wp2_with fail
 all_goals
  go_loopw [7] (fun i wr => ∃ k : Nat, k ≤ n ∧ i = .int .i64 ((k : Int) - 1) ∧ (∀ j, k ≤ j → lm xs j = lm ys j) ∧ wr = w0) (fun i _ => (intOf i + 1).toNat)
  case atStart => exact ⟨n, Nat.le_refl _, by have := HN.out; congr 1; omega, fun j hj => by rw [lm_ge (by omega), lm_ge (by omega)], rfl⟩
  case round =>
   obtain ⟨k, hk, rfl, heq, rfl⟩ := hrel
   have HE : Hid (∀ j, k ≤ j → lm xs j = lm ys j) := heq
   clear heq
   match k with
   | 0 =>
    have hv : M.val B64 xs = M.val B64 ys := M.val_ext _ (fun j => HE.out j (by omega))
    have HV : Hid (cmpN (M.val B64 xs) (M.val B64 ys) = 0) := cmpN_eq hv
    clear hv
    go_wp2
    go_ret
    exact ⟨by rw [HV.out]; rfl, hb0'⟩
   | k + 1 =>
    have e1 : (((k + 1 : Nat) : Int) - 1) = (k : Int) := by omega
    rw [e1]
    rcases Nat.lt_trichotomy (lm xs k) (lm ys k) with h | h | h
    ·have HV : Hid (cmpN (M.val B64 xs) (M.val B64 ys) = -1) := cmpN_lt (M.lt_of_top B64_pos k la (fun j hj => HE.out j (by omega)) h)
     go_wp2_with fail
     refine (reader1 k (by omega) wr _ xs _ pA rA).mono ?_
     rintro e w' ⟨rfl, rfl⟩
     go_wp2_with fail
     refine (reader1 k (by omega) _ _ ys _ pB rB).mono ?_
     rintro e w' ⟨rfl, rfl⟩
     go_wp2
     go_ret
     exact ⟨by rw [HV.out]; rfl, hb0'⟩
    ·have HQ : Hid (lm xs k = lm ys k) := h
     have h1 : ¬ lm xs k < lm ys k := by omega
     have h2 : ¬ lm ys k < lm xs k := by omega
     clear h
     go_wp2_with fail
     refine (reader1 k (by omega) wr _ xs _ pA rA).mono ?_
     rintro e w' ⟨rfl, rfl⟩
     go_wp2_with fail
     refine (reader1 k (by omega) _ _ ys _ pB rB).mono ?_
     rintro e w' ⟨rfl, rfl⟩
     go_wp2
     go_roundw
     case rel => exact ⟨k, by omega, by go_num, fun j hj => by
      by_cases e : j = k
      ·subst e; exact HQ.out
      ·exact HE.out j (by omega), (by trivial)⟩
     case measure => simp [intOf]
    ·have HV : Hid (cmpN (M.val B64 xs) (M.val B64 ys) = 1) := cmpN_gt (M.lt_of_top B64_pos k lb (fun j hj => (HE.out j (by omega)).symm) h)
     have h1 : ¬ lm xs k < lm ys k := by omega
     go_wp2_with fail
     refine (reader1 k (by omega) wr _ xs _ pA rA).mono ?_
     rintro e w' ⟨rfl, rfl⟩
     go_wp2_with fail
     refine (reader1 k (by omega) _ _ ys _ pB rB).mono ?_
     rintro e w' ⟨rfl, rfl⟩
     go_wp2
     go_ret
     exact ⟨by rw [HV.out]; rfl, hb0'⟩
theorem cmp_any (va vb : Value) (xs ys : List Nat) (w : World) (ha : Rd w va xs) (hb : Rd w vb ys) (la : M.Low B64 xs) (lb : M.Low B64 ys) (hx : xs.length ≤ 4000) (hy : ys.length ≤ 4000) :
  Calls Tryz.prog 198 #[va, vb] w (Re w (.tuple #[.int .i64 (cmpN (M.val B64 xs) (M.val B64 ys)), .int .i64 0])) := by
 have ha0 := ha
 have hb0 := hb
 obtain ⟨a, ca, rfl, hca, -⟩ := ha
 obtain ⟨b, cb, rfl, hcb, -⟩ := hb
 go_enter Tryz.func198, Tryz.ntmps198
 go_wp2_with fail
 refine (tooLong2 a b xs.length ys.length ca cb _ 0 2 _ (by simp [go_sem]) (by simp [go_sem]) hx hy).mono ?_
 rintro e w1 ⟨rfl, rfl⟩
 have hb0' : Below w.heap.size w (w.alloc (.cells #[.slice a xs.length ca, .slice b ys.length cb] 64)) := by go_grown
 go_wp2_with fail
 refine (order_any _ _ xs ys _ (ha0.below hb0') (hb0.below hb0') la lb (by omega) (by omega)).mono ?_
 rintro e w1 ⟨rfl, hbel⟩
 go_wp2
 go_ret2
 exact ⟨rfl, Below.after hb0' hbel⟩
end Go.Proofs.YtnplifkgeeicjaaGreatDoor
