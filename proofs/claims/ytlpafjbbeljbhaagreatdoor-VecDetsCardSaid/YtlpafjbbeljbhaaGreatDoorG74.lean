/-
  gussetlaw04: VecDets, walked.
  gussetlaw04: VecDets holds of any rows.
  Rows of rows of rational numbers that came in.
-/
import Derived.Deep.Slices
import Derived.Test.YtlpafjbbeljbhaaGreatDoorG41
import Derived.Test.YtlpafjbbeljbhaaGreatDoorG42
import Derived.Test.YtlpafjbbeljbhaaGreatDoorG73
namespace Go.Proofs.YtlpafjbbeljbhaaGreatDoor
open Go.RowKit

set_option maxRecDepth 100000 in
set_option maxHeartbeats 4000000 in
theorem dets_l (v : Value) (w : World)
  (HL : Hid (∀ w1, Below w.heap.size w w1 → Calls Tryz.prog 10 #[] w1 fun e w' => e = .returned (.bool true) ∧ Below w1.heap.size w1 w'))
  (HF : Hid (∀ w1, Below w.heap.size w w1 → Calls Tryz.prog 28 #[v] w1 fun e w' => e = .returned (.bool false) ∧ Below w1.heap.size w1 w')) :
  Calls Tryz.prog 5 #[v] w fun e w' => e = .returned (.bool true) ∧ Below w.heap.size w w' := by
 go_enter Tryz.func5, Tryz.ntmps5
 go_wp2_with fail
 go_fit (HF.out _ (Below.refl _ _))
 rintro e w1 ⟨rfl, bb⟩
 go_wp2_with fail
 go_fit (HL.out _ bb)
 rintro e w2 ⟨rfl, b1⟩
 replace bb := Below.after bb b1
 go_wp2
 go_ret
 exact ⟨rfl, bb⟩
set_option maxRecDepth 100000 in
set_option maxHeartbeats 4000000 in
theorem dets_no (v : Value) (w : World)
  (HL : Hid (∀ w1, Below w.heap.size w w1 → Calls Tryz.prog 10 #[] w1 fun e w' => e = .returned (.bool true) ∧ Below w1.heap.size w1 w'))
  (HF : Hid (∀ w1, Below w.heap.size w w1 → Calls Tryz.prog 28 #[v] w1 fun e w' => (e = .returned (.bool false) ∨ e = .returned (.bool true)) ∧ Below w1.heap.size w1 w'))
  (HD : Hid (∀ w1, Below w.heap.size w w1 → Calls Tryz.prog 29 #[v] w1 fun e w' => e = .returned (.tuple #[.agg #[.bool false, .string { data := #[] }, .string { data := #[] }], .int .i64 1]) ∧ Below w1.heap.size w1 w'))
  (HS : Hid (∀ w1, Below w.heap.size w w1 → Calls Tryz.prog 30 #[v] w1 fun e w' => e = .returned (.bool false) ∧ w' = w1)) :
  Calls Tryz.prog 5 #[v] w fun e w' => e = .returned (.bool true) ∧ Below w.heap.size w w' := by
 go_enter Tryz.func5, Tryz.ntmps5
 go_wp2_with fail
 go_fit (HF.out _ (Below.refl _ _))
 rintro e w1 ⟨rfl | rfl, bb⟩
 ·go_wp2_with fail
  go_fit (HL.out _ bb)
  rintro e w2 ⟨rfl, b1⟩
  replace bb := Below.after bb b1
  go_wp2
  go_ret
  exact ⟨rfl, bb⟩
 go_wp2_with fail
 go_fit (HD.out _ bb)
 rintro e w2 ⟨rfl, b1⟩
 replace bb := Below.after bb b1
 clear b1
 go_wp2_with fail
 obtain ⟨w3, hw, kd, b1⟩ := mk1 w2 [.bool false, .string { data := #[] }, .string { data := #[] }] 26
 rw [← hw]
 replace bb := Below.after bb b1
 clear b1 hw
 generalize w2.heap.size = pd at *
 go_fit (HS.out _ bb)
 rintro e w4 ⟨rfl, rfl⟩
 have c0 := cel3_0 kd
 have c1 := cel3_1 kd
 have c2 := cel3_2 kd
 go_wp2_with fail
 go_fit (HL.out _ bb)
 rintro e w5 ⟨rfl, b1⟩
 replace bb := Below.after bb b1
 go_wp2
 go_ret
 exact ⟨rfl, bb⟩
set_option maxRecDepth 100000 in
set_option maxHeartbeats 4000000 in
theorem dets_bad (v : Value) (E : Int) (w : World) (hE : ¬ E = 0)
  (HL : Hid (∀ w1, Below w.heap.size w w1 → Calls Tryz.prog 10 #[] w1 fun e w' => e = .returned (.bool true) ∧ Below w1.heap.size w1 w'))
  (HF : Hid (∀ w1, Below w.heap.size w w1 → Calls Tryz.prog 28 #[v] w1 fun e w' => (e = .returned (.bool false) ∨ e = .returned (.bool true)) ∧ Below w1.heap.size w1 w'))
  (HD : Hid (∀ w1, Below w.heap.size w w1 → Calls Tryz.prog 29 #[v] w1 fun e w' => e = .returned (.tuple #[.agg #[.bool false, .string { data := #[] }, .string { data := #[] }], .int .i64 E]) ∧ Below w1.heap.size w1 w'))
  (HS : Hid (∀ w1, Below w.heap.size w w1 → Calls Tryz.prog 30 #[v] w1 fun e w' => e = .returned (.bool true) ∧ w' = w1))
  (HN : Hid (∀ w1, Below w.heap.size w w1 → Calls Tryz.prog 31 #[v] w1 fun e w' => e = .returned (.int .i64 E) ∧ Below w1.heap.size w1 w')) :
  Calls Tryz.prog 5 #[v] w fun e w' => e = .returned (.bool true) ∧ Below w.heap.size w w' := by
 go_enter Tryz.func5, Tryz.ntmps5
 go_wp2_with fail
 go_fit (HF.out _ (Below.refl _ _))
 rintro e w1 ⟨rfl | rfl, bb⟩
 ·go_wp2_with fail
  go_fit (HL.out _ bb)
  rintro e w2 ⟨rfl, b1⟩
  replace bb := Below.after bb b1
  go_wp2
  go_ret
  exact ⟨rfl, bb⟩
 go_wp2_with fail
 go_fit (HD.out _ bb)
 rintro e w2 ⟨rfl, b1⟩
 replace bb := Below.after bb b1
 clear b1
 go_wp2_with fail
 obtain ⟨w3, hw, kd, b1⟩ := mk1 w2 [.bool false, .string { data := #[] }, .string { data := #[] }] 26
 rw [← hw]
 replace bb := Below.after bb b1
 clear b1 hw
 generalize w2.heap.size = pd at *
 go_fit (HS.out _ bb)
 rintro e w4 ⟨rfl, rfl⟩
 go_wp2_with fail
 go_fit (HN.out _ bb)
 rintro e w5 ⟨rfl, b1⟩
 replace kd := kd.below b1
 replace bb := Below.after bb b1
 clear b1
 have c0 := cel3_0 kd
 have c1 := cel3_1 kd
 have c2 := cel3_2 kd
 go_wp2_with fail
 go_fit (HL.out _ bb)
 rintro e w6 ⟨rfl, b1⟩
 replace bb := Below.after bb b1
 go_wp2
 go_ret
 exact ⟨rfl, bb⟩
set_option maxRecDepth 100000 in
set_option maxHeartbeats 8000000 in
theorem dets_ok (v : Value) (x : Bool) (y z : ByteArray) (w : World)
  (HL : Hid (∀ w1, Below w.heap.size w w1 → Calls Tryz.prog 10 #[] w1 fun e w' => e = .returned (.bool true) ∧ Below w1.heap.size w1 w'))
  (HF : Hid (∀ w1, Below w.heap.size w w1 → Calls Tryz.prog 28 #[v] w1 fun e w' => (e = .returned (.bool false) ∨ e = .returned (.bool true)) ∧ Below w1.heap.size w1 w'))
  (HD : Hid (∀ w1, Below w.heap.size w w1 → Calls Tryz.prog 29 #[v] w1 fun e w' => e = .returned (.tuple #[.agg #[.bool x, .string y, .string z], .int .i64 0]) ∧ Below w1.heap.size w1 w'))
  (HS : Hid (∀ w1, Below w.heap.size w w1 → Calls Tryz.prog 30 #[v] w1 fun e w' => e = .returned (.bool true) ∧ w' = w1))
  (HN : Hid (∀ w1, Below w.heap.size w w1 → Calls Tryz.prog 31 #[v] w1 fun e w' => e = .returned (.int .i64 0) ∧ Below w1.heap.size w1 w'))
  (HR : Hid (∀ w1, Below w.heap.size w w1 → Calls Tryz.prog 32 #[v] w1 fun e w' => e = .returned (.agg #[.bool x, .string y, .string z]) ∧ Below w1.heap.size w1 w')) :
  Calls Tryz.prog 5 #[v] w fun e w' => e = .returned (.bool true) ∧ Below w.heap.size w w' := by
 go_enter Tryz.func5, Tryz.ntmps5
 go_wp2_with fail
 go_fit (HF.out _ (Below.refl _ _))
 rintro e w1 ⟨rfl | rfl, bb⟩
 ·go_wp2_with fail
  go_fit (HL.out _ bb)
  rintro e w2 ⟨rfl, b1⟩
  replace bb := Below.after bb b1
  go_wp2
  go_ret
  exact ⟨rfl, bb⟩
 go_wp2_with fail
 go_fit (HD.out _ bb)
 rintro e w2 ⟨rfl, b1⟩
 replace bb := Below.after bb b1
 clear b1
 go_wp2_with fail
 obtain ⟨w3, hw, kd, b1⟩ := mk1 w2 [.bool x, .string y, .string z] 26
 rw [← hw]
 replace bb := Below.after bb b1
 clear b1 hw
 generalize w2.heap.size = pd at *
 go_fit (HS.out _ bb)
 rintro e w4 ⟨rfl, rfl⟩
 go_wp2_with fail
 go_fit (HN.out _ bb)
 rintro e w5 ⟨rfl, b1⟩
 replace kd := kd.below b1
 replace bb := Below.after bb b1
 clear b1
 go_wp2_with fail
 have mkS : Hid (∀ w', Cel w' pd [.bool x, .string y, .string z] 26 → (w'.cell? ⟨pd, 0, none⟩ = some (.bool x) ∧ w'.cell? ⟨pd, 1, none⟩ = some (.string y) ∧ w'.cell? ⟨pd, 2, none⟩ = some (.string z))) := fun w' h => ⟨cel3_0 h, cel3_1 h, cel3_2 h⟩
 go_region_held3 (fun w' => w'.cell? ⟨pd, 0, none⟩ = some (.bool x) ∧ w'.cell? ⟨pd, 1, none⟩ = some (.string y) ∧ w'.cell? ⟨pd, 2, none⟩ = some (.string z)) (first | with_reducible exact mkS.out _ kd | exact mkS.out _ kd.drew | exact mkS.out _ kd) (first | (go_at_call 32; go_fit (HR.out _ ?_); (first | exact bb | exact bb.drew); rintro e wn ⟨rfl, bn⟩; (first | replace kd := kd.below bn | replace kd := kd.drew.below bn); (first | replace bb := Below.after bb bn | replace bb := Below.after bb.drew bn)) | (go_at_call 10; go_fit (HL.out _ ?_); (first | exact bb | exact bb.drew); rintro e wn ⟨rfl, bn⟩; (first | replace kd := kd.below bn | replace kd := kd.drew.below bn); (first | replace bb := Below.after bb bn | replace bb := Below.after bb.drew bn)))
 all_goals (try go_wp2)
 all_goals go_ret
 all_goals exact ⟨rfl, bb⟩
end Go.Proofs.YtlpafjbbeljbhaaGreatDoor
namespace Go.Proofs.YtlpafjbbeljbhaaGreatDoor
open Go.RowKit

theorem firstE_all {c : Nat → Nat} {n : Nat} (h : firstE c n = 0) : ∀ k, k < n → c k = 0 := by
 induction n with
 | zero => intro k hk; omega
 | succ n ih =>
  intro k hk
  by_cases h0 : firstE c n = 0
  ·by_cases e : k = n
   ·subst e; unfold firstE at h; rwa [if_pos h0] at h
   ·exact ih h0 k (by omega)
  ·unfold firstE at h; rw [if_neg h0] at h; exact absurd h h0
theorem rdR_of {w : World} {a : Option Addr} {n : Nat} {len : Nat → Nat} {N : Nat → Nat → Bool} {S D : Nat → Nat → ByteArray} (h : RdG w a n len N S D) (hl : ∀ i, i < n → len i = n) (ho : ∀ i j, i < n → j < n → OkQ (N i j) (S i j) (D i j)) : RdR w a n n (fun i j => qOf (N i j) (S i j) (D i j)) := by
 intro i hi
 obtain ⟨b, off, ar, c, rfl, h0, hc, hr⟩ := h i hi
 rw [hl i hi] at h0 hc hr
 refine ⟨b, off, ar, c, rfl, h0, hc, fun j hj => ?_⟩
 obtain ⟨b2, off2, e, z0, z1, z2⟩ := hr j hj
 have hp : nfZ (qOf (N i j) (S i j) (D i j)).num = N i j ∧ sfZ (qOf (N i j) (S i j) (D i j)).num = S i j ∧ strOf (qOf (N i j) (S i j) (D i j)).den = D i j := (ho i j hi hj).parts
 refine ⟨b2, off2, e, ?_, ?_, ?_⟩
 ·rw [z0]; show _ = some (Value.bool (nfZ (qOf (N i j) (S i j) (D i j)).num)); rw [hp.1]
 ·rw [z1]; show _ = some (Value.string (sfZ (qOf (N i j) (S i j) (D i j)).num)); rw [hp.2.1]
 ·rw [z2]; show _ = some (Value.string (strOf (qOf (N i j) (S i j) (D i j)).den)); rw [hp.2.2]
theorem dets_law (a : Option Addr) (n cap : Nat) (len : Nat → Nat) (N : Nat → Nat → Bool) (S D : Nat → Nat → ByteArray) (w : World) (hT : Tab w) (hcap : n ≤ cap) (h : RdG w a n len N S D) :
  Calls Tryz.prog 5 #[.slice a n cap] w fun e w' => e = .returned (.bool true) ∧ Below w.heap.size w w' := by
 have HL : Hid (∀ w1, Below w.heap.size w w1 → Calls Tryz.prog 10 #[] w1 fun e w' => e = .returned (.bool true) ∧ Below w1.heap.size w1 w') := fun w1 b => live4_any w1 (hT.below b)
 by_cases hF : FewP n len S D
 case neg =>
  exact dets_l _ w HL (fun w1 b => (lfew_any a n cap len N S D w1 (h.below b)).mono fun e w' ⟨h1, h2⟩ => ⟨h1.elim id fun h => absurd h.2 hF, h2⟩)
 have HF : Hid (∀ w1, Below w.heap.size w w1 → Calls Tryz.prog 28 #[.slice a n cap] w1 fun e w' => (e = .returned (.bool false) ∨ e = .returned (.bool true)) ∧ Below w1.heap.size w1 w') := fun w1 b => (lfew_any a n cap len N S D w1 (h.below b)).mono fun e w' ⟨h1, h2⟩ => ⟨h1.imp id And.left, h2⟩
 have h80 : ∀ i j, i < n → j < len i → (S i j).size ≤ 80 ∧ (D i j).size ≤ 80 := fun i j hi hj => of_decide_eq_true ((hF.2 i hi).2 j hj)
 by_cases hs : sq n len
 case neg =>
  refine dets_no _ w HL HF (fun w1 b => vDet_no a n cap w1 (fun w2 b2 => ?_)) (fun w1 b => ?_)
  ·have := isSquare_any a n cap len N S D w2 ((h.below b).below b2)
   simpa [hs] using this
  ·have := rsquare_any a n cap len N S D w1 (h.below b)
   simpa [hs] using this
 have HS : Hid (∀ w1, Below w.heap.size w w1 → Calls Tryz.prog 30 #[.slice a n cap] w1 fun e w' => e = .returned (.bool true) ∧ w' = w1) := fun w1 b => by
  have := rsquare_any a n cap len N S D w1 (h.below b)
  simpa [hs] using this
 have HQ : ∀ w1, Below w.heap.size w w1 → Hid (∀ w2, Below w1.heap.size w1 w2 → Calls Tryz.prog 54 #[.slice a n cap] w2 fun e w' => e = .returned (.bool true) ∧ w' = w2) := fun w1 b w2 b2 => by
  have := isSquare_any a n cap len N S D w2 ((h.below b).below b2)
  simpa [hs] using this
 obtain ⟨c, hc⟩ : ∃ c : Nat → Nat, c = fun i => firstE (fun j => chkq (N i j) (S i j) (D i j)) (len i) := ⟨_, rfl⟩
 have HN : ∀ w1, Below w.heap.size w w1 → Calls Tryz.prog 31 #[.slice a n cap] w1 fun e w' => e = .returned (.int .i64 (firstE c n : Nat)) ∧ Below w1.heap.size w1 w' := fun w1 b => by
  rw [hc]
  exact numbers_any a n cap len N S D w1 hF.1 (fun i hi => (hF.2 i hi).1) (h.below b) (fun i j hi hj => ⟨Nat.le_trans (h80 i j hi hj).1 (by omega), Nat.le_trans (h80 i j hi hj).2 (by omega)⟩)
 have HC : ∀ w1, Below w.heap.size w w1 → Hid (∀ i, i < n → ∃ b off ar m k, a = some ⟨b, off, none⟩ ∧ w1.cell? ⟨b, off + i, none⟩ = some (.slice ar m k) ∧ ∀ w2, Below w1.heap.size w1 w2 → Calls Tryz.prog 43 #[.slice ar m k] w2 fun e w' => e = .returned (.int .i64 (c i : Nat)) ∧ Below w2.heap.size w2 w') := fun w1 b1 i hi => by
  obtain ⟨b, off, ar, k, e, h0, hk, hr⟩ := h.below b1 i hi
  refine ⟨b, off, ar, len i, k, e, h0, fun w2 b2 => ?_⟩
  rw [hc]
  exact vcheck_any ar (len i) k (N i) (S i) (D i) w2 ((hT.below b1).below b2) (by have := (hF.2 i hi).1; omega) (hr.below b2)
 by_cases hE : firstE c n = 0
 case neg =>
  refine dets_bad _ (firstE c n : Nat) w (by omega) HL HF (fun w1 b => ?_) HS HN
  exact vDet_sq a n cap c _ _ w1 hs.2.1 (Or.inl ⟨rfl, rfl, hE⟩) (HQ w1 b) (HC w1 b)
 have hok : ∀ i j, i < n → j < n → OkQ (N i j) (S i j) (D i j) := fun i j hi hj => by
  have h1 := firstE_all hE i hi
  rw [hc] at h1
  exact (chkq_zero (firstE_all h1 j (by rw [hs.2.2 i hi]; exact hj))).1
 have h80' : ∀ i j, i < n → j < n → (S i j).size ≤ 80 ∧ (D i j).size ≤ 80 := fun i j hi hj => h80 i j hi (by rw [hs.2.2 i hi]; exact hj)
 have hbq : ∀ i j, i < n → j < n → Bq (qOf (N i j) (S i j) (D i j)) 80 := fun i j hi hj => (hok i j hi hj).bq (h80' i j hi hj).1 (h80' i j hi hj).2
 rw [hE] at HN
 refine dets_ok _ _ _ _ w HL HF (fun w1 b => ?_) HS HN (fun w1 b => rd_any n hs.1 hs.2.1 a cap _ w1 hcap (rdR_of (h.below b) hs.2.2 hok) hbq)
 refine vDet_sq a n cap c _ 0 w1 hs.2.1 (Or.inr ⟨rfl, hE, ⟨_, _, _, rfl⟩, fun w2 b2 => ?_⟩) (HQ w1 b) (HC w1 b)
 exact determinant_any a n cap _ w2 ((hT.below b).below b2) hs.1 hs.2.1 ((rdR_of (h.below b) hs.2.2 hok).below b2) (fun i j hi hj => (hbq i j hi hj).mono (by omega))
end Go.Proofs.YtlpafjbbeljbhaaGreatDoor
namespace Go.Proofs.YtlpafjbbeljbhaaGreatDoor
open Go.ChangeShapes Go.WideShapes Go.RowKit Go.Deep

theorem addr_spot {w : World} {a : Addr} {v : Value} (h : w.cell? (a.add 0) = some v) : ∃ b off, a = ⟨b, off, none⟩ := by
 obtain ⟨b, off, s⟩ := a
 cases s with
 | none => exact ⟨b, off, rfl⟩
 | some x =>
  simp only [World.cell?, Addr.add, if_true] at h
  split at h
  ·simp at h
  ·cases h
section
variable {H : Type} {enc : TypeId × Value → H} {W : World} {base : Nat} {sp : Nat → Bool} {held : Bool}
set_option maxRecDepth 100000 in
theorem open_qc {n : Nat} {cs : List Value} {x : DataW H × List MemPlace} (h : DataW.trod enc Tryz.prog W base sp held n 26 cs = some x) : ∃ n s d, cs = [.bool n, .string s, .string d] := by
 obtain ⟨y0, y1, m, hx, hl, hy0, hy1⟩ := trod_struct2 Tryz.underlying26 h
 obtain ⟨z0, z1, m', hx', hl', hz0, hz1⟩ := trod_struct2 Tryz.underlying24 hy0
 rw [cellsQ] at hl
 match cs, hl with
 | [c0, c1, c2], _ =>
  obtain ⟨n, e0, -⟩ := DataW.trod_bool Tryz.underlying4 hz0
  obtain ⟨s, e1, -⟩ := DataW.trod_string Tryz.underlying22 hz1
  obtain ⟨d, e2, -⟩ := DataW.trod_string Tryz.underlying22 hy1
  rw [cellsB] at e0
  rw [cellsN] at e1 e2
  rw [cellsZ] at e0 e1
  simp at e0 e1 e2
  subst e0 e1 e2
  exact ⟨n, s, d, rfl⟩
set_option maxRecDepth 100000 in
theorem open_qrow {n : Nat} {V : Value} {x : DataW H × List MemPlace} (h : DataW.trod enc Tryz.prog W base sp held n 54 [V] = some x) : ∃ ar m c, V = .slice ar m c ∧ m ≤ c ∧ c ≤ maxLen ∧ ∃ y : Nat → Bool × ByteArray × ByteArray, RdQ W ar m (fun j => (y j).1) (fun j => (y j).2.1) (fun j => (y j).2.2) := by
 rcases open_slice Tryz.underlying54 h with ⟨h0, -⟩ | ⟨a, len, cap, m, k, D, Pl, hcs, hb, hl, hm, hmm, rfl, hx⟩
 ·simp only [List.cons.injEq, and_true] at h0
  exact ⟨none, 0, 0, h0, Nat.le_refl _, Nat.zero_le _, fun _ => (false, ⟨#[]⟩, ⟨#[]⟩), fun j hj => by omega⟩
 ·simp only [List.cons.injEq, and_true] at hcs
  refine ⟨some a, len, cap, hcs, hl, hm, ?_⟩
  have hlm : len ≤ m := by rw [hmm]; split <;> omega
  have hsp : 0 < len → ∃ b off, a = ⟨b, off, none⟩ := fun h0 => by
   obtain ⟨cs', h1, h2⟩ := hx 0 (by omega)
   obtain ⟨nn, s, d, rfl⟩ := open_qc h2
   rw [cellsQ, Nat.zero_mul] at h1
   obtain ⟨-, -, hc⟩ := World.cells?_some h1
   have c0 := hc 0 (by omega)
   rw [add_add] at c0
   exact addr_spot c0
  obtain ⟨y, hy⟩ := choose_lt (α := Bool × ByteArray × ByteArray) (n := len) (p := fun j y => ∃ b off, a = ⟨b, off, none⟩ ∧ W.cell? ⟨b, off + j * 3, none⟩ = some (.bool y.1) ∧ W.cell? ⟨b, off + j * 3 + 1, none⟩ = some (.string y.2.1) ∧ W.cell? ⟨b, off + j * 3 + 2, none⟩ = some (.string y.2.2)) (fun j hj => by
   obtain ⟨cs', h1, h2⟩ := hx j (by omega)
   obtain ⟨nn, s, d, rfl⟩ := open_qc h2
   rw [cellsQ] at h1
   obtain ⟨-, -, hc⟩ := World.cells?_some h1
   have c0 := hc 0 (by omega)
   have c1 := hc 1 (by omega)
   have c2 := hc 2 (by omega)
   rw [add_add] at c0 c1 c2
   obtain ⟨b, off, rfl⟩ := hsp (by omega)
   rw [add_at] at c0 c1 c2
   exact ⟨(nn, s, d), b, off, rfl, c0, by rw [Nat.add_assoc]; exact c1, by rw [Nat.add_assoc]; exact c2⟩)
  refine ⟨y, fun j hj => ?_⟩
  obtain ⟨b, off, rfl, h0, h1, h2⟩ := hy j hj
  exact ⟨b, off, rfl, h0, h1, h2⟩
set_option maxRecDepth 100000 in
theorem open_qq {v : Value} {d : DataW H} {ps : List MemPlace} (hc : Value.cells v = #[v]) (h : DataW.Trod enc Tryz.prog W base sp held 49 v d ps) : ∃ a n cap len N S D, v = .slice a n cap ∧ n ≤ cap ∧ n ≤ maxLen ∧ RdG W a n len N S D := by
 obtain ⟨fuel, hf⟩ := h
 rw [hc] at hf
 rcases open_slice1 Tryz.underlying49 (by kernel_rfl) hf with ⟨h0, -⟩ | ⟨a, n, cap, m, k, V, D, Pl, hcs, hb, hl, hm, hmm, hx0, hx⟩
 ·simp only [List.cons.injEq, and_true] at h0
  exact ⟨none, 0, 0, fun _ => 0, fun _ _ => false, fun _ _ => ⟨#[]⟩, fun _ _ => ⟨#[]⟩, h0, Nat.le_refl _, Nat.zero_le _, fun i hi => by omega⟩
 ·simp only [List.cons.injEq, and_true] at hcs
  have hlm : n ≤ m := by rw [hmm]; split <;> omega
  have hsp : 0 < n → ∃ b off, a = ⟨b, off, none⟩ := fun h0 => addr_spot (hx 0 (by omega)).1
  obtain ⟨y, hy⟩ := choose_lt (α := Nat × (Nat → Bool × ByteArray × ByteArray)) (n := n) (p := fun i y => ∃ b off ar c, some a = some ⟨b, off, none⟩ ∧ W.cell? ⟨b, off + i, none⟩ = some (.slice ar y.1 c) ∧ y.1 ≤ c ∧ RdQ W ar y.1 (fun j => (y.2 j).1) (fun j => (y.2 j).2.1) (fun j => (y.2 j).2.2)) (fun i hi => by
   obtain ⟨h1, h2⟩ := hx i (by omega)
   obtain ⟨ar, l, c, e, hlc, -, y, hr⟩ := open_qrow h2
   rw [e] at h1
   obtain ⟨b, off, rfl⟩ := hsp (by omega)
   rw [add_at] at h1
   exact ⟨(l, y), b, off, ar, c, rfl, h1, hlc, hr⟩)
  exact ⟨some a, n, cap, fun i => (y i).1, fun i j => ((y i).2 j).1, fun i j => ((y i).2 j).2.1, fun i j => ((y i).2 j).2.2, hcs, hl, Nat.le_trans hl hm, hy⟩
end
end Go.Proofs.YtlpafjbbeljbhaaGreatDoor
