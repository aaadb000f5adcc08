/-
  gussetlaw04: VecTurned holds of any rows.
-/
import Derived.Test.YtgihiaaodkkkbaaGreatDoorG38
import Derived.Test.YtgihiaaodkkkbaaGreatDoorG41
import Derived.Test.YtgihiaaodkkkbaaGreatDoorG70
import Derived.Test.YtgihiaaodkkkbaaGreatDoorG71
import Derived.Test.YtgihiaaodkkkbaaGreatDoorG76
import Derived.Test.YtgihiaaodkkkbaaGreatDoorG77
namespace Go.Proofs.YtgihiaaodkkkbaaGreatDoor
open Go.RowKit

theorem firstT_all {c : Nat → Nat} {n : Nat} (h : firstE c n = 0) : ∀ k, k < n → c k = 0 := by
 induction n with
 | zero => intro k hk; omega
 | succ n ih =>
  intro k hk
  by_cases h0 : firstE c n = 0
  ·by_cases e : k = n
   ·subst e; unfold firstE at h; rwa [if_pos h0] at h
   ·exact ih h0 k (by omega)
  ·unfold firstE at h; rw [if_neg h0] at h; exact absurd h h0
theorem rdT_of {w : World} {a : Option Addr} {n : Nat} {len : Nat → Nat} {N : Nat → Nat → Bool} {S D : Nat → Nat → ByteArray} (h : RdG w a n len N S D) (hl : ∀ i, i < n → len i = n) (ho : ∀ i j, i < n → j < n → OkQ (N i j) (S i j) (D i j)) : RdR w a n n (fun i j => qOf (N i j) (S i j) (D i j)) := by
 intro i hi
 obtain ⟨b, off, ar, c, rfl, h0, hc, hr⟩ := h i hi
 rw [hl i hi] at h0 hc hr
 refine ⟨b, off, ar, c, rfl, h0, hc, fun j hj => ?_⟩
 obtain ⟨b2, off2, e, z0, z1, z2⟩ := hr j hj
 have hp : nfZ (qOf (N i j) (S i j) (D i j)).num = N i j ∧ sfZ (qOf (N i j) (S i j) (D i j)).num = S i j ∧ strOf (qOf (N i j) (S i j) (D i j)).den = D i j := (ho i j hi hj).parts
 refine ⟨b2, off2, e, ?_, ?_, ?_⟩
 ·rw [z0]; show _ = some (Value.bool (nfZ (qOf (N i j) (S i j) (D i j)).num)); rw [hp.1]
 ·rw [z1]; show _ = some (Value.string (sfZ (qOf (N i j) (S i j) (D i j)).num)); rw [hp.2.1]
 ·rw [z2]; show _ = some (Value.string (strOf (qOf (N i j) (S i j) (D i j)).den)); rw [hp.2.2]
theorem rnegT (x : Rat) (w : World) : Calls Tryz.prog 14 #[.agg #[.bool (nfZ (x).num), .string (sfZ (x).num), .string (strOf (x).den)]] w fun e w' => e = .returned (.agg #[.bool (nfZ (-x).num), .string (sfZ (-x).num), .string (strOf (-x).den)]) ∧ Below w.heap.size w w' := by
 obtain ⟨m, o, e, h⟩ := rnegq_ok (nfZ x.num) (sfZ x.num) (strOf x.den) (okQ_qI x)
 rw [show qOf (nfZ x.num) (sfZ x.num) (strOf x.den) = x from qOf_qI x] at e
 have hp : nfZ (qOf m (sfZ x.num) (strOf x.den)).num = m ∧ sfZ (qOf m (sfZ x.num) (strOf x.den)).num = sfZ x.num ∧ strOf (qOf m (sfZ x.num) (strOf x.den)).den = strOf x.den := o.parts
 rw [e] at hp
 rw [hp.1, hp.2.1, hp.2.2]
 exact h w
open Classical in
theorem turned_law (a : Option Addr) (n cap : Nat) (len : Nat → Nat) (N : Nat → Nat → Bool) (S D : Nat → Nat → ByteArray) (A Bz : Int) (w : World) (hT : Tab w) (h : RdG w a n len N S D) :
  Calls Tryz.prog 3 #[.slice a n cap, .int .i64 A, .int .i64 Bz] w fun e w' => e = .returned (.bool true) ∧ Below w.heap.size w w' := by
 have HL : Hid (∀ w1, Below w.heap.size w w1 → Calls Tryz.prog 12 #[] w1 fun e w' => e = .returned (.bool true) ∧ Below w1.heap.size w1 w') := fun w1 b => live4_any w1 (hT.below b)
 have HS : Hid (∀ w1, Below w.heap.size w w1 → Calls Tryz.prog 10 #[.slice a n cap] w1 fun e w' => e = .returned (.bool (decide (sq n len))) ∧ w' = w1) := fun w1 b => rsquare_any a n cap len N S D w1 (h.below b)
 obtain ⟨c, hc⟩ : ∃ c : Nat → Nat, c = fun i => firstE (fun j => chkq (N i j) (S i j) (D i j)) (len i) := ⟨_, rfl⟩
 have HN : ∀ (_ : FewP n len S D) (w1 : World), Below w.heap.size w w1 → Calls Tryz.prog 11 #[.slice a n cap] w1 fun e w' => e = .returned (.int .i64 (firstE c n : Nat)) ∧ Below w1.heap.size w1 w' := fun hF w1 b => by
  rw [hc]
  refine numbers_any a n cap len N S D w1 hF.1 (fun i hi => (hF.2 i hi).1) (h.below b) (fun i j hi hj => ?_)
  have : (S i j).size ≤ 80 ∧ (D i j).size ≤ 80 := of_decide_eq_true ((hF.2 i hi).2 j hj)
  omega
 by_cases hg : FewP n len S D ∧ sq n len ∧ firstE c n = 0 ∧ 0 ≤ A ∧ 0 ≤ Bz ∧ A < n ∧ Bz < n ∧ ¬ A = Bz
 case neg =>
  exact turned_l a n cap A Bz (firstE c n : Nat) (FewP n len S D) (decide (sq n len)) w HL (fun w1 b => lfew_any a n cap len N S D w1 (h.below b)) HS (fun hF _ w1 b => HN hF w1 b)
   (fun hF hs hE h1 h2 h3 h4 => Decidable.byContradiction fun hne => hg ⟨hF, of_decide_eq_true hs, by omega, h1, h2, h3, h4, hne⟩)
 obtain ⟨hF, hs, hE, h1, h2, h3, h4, hne⟩ := hg
 obtain ⟨α, rfl⟩ := Int.eq_ofNat_of_zero_le h1
 obtain ⟨β, rfl⟩ := Int.eq_ofNat_of_zero_le h2
 have ha : α < n := by omega
 have hb : β < n := by omega
 have hab : ¬ α = β := by omega
 have hok : ∀ i j, i < n → j < n → OkQ (N i j) (S i j) (D i j) := fun i j hi hj => by
  have h1 := firstT_all hE i hi
  rw [hc] at h1
  exact (chkq_zero (firstT_all h1 j (by rw [hs.2.2 i hi]; exact hj))).1
 have h80 : ∀ i j, i < n → j < n → (S i j).size ≤ 80 ∧ (D i j).size ≤ 80 := fun i j hi hj => of_decide_eq_true ((hF.2 i hi).2 j (by rw [hs.2.2 i hi]; exact hj))
 have hr := rdT_of h hs.2.2 hok
 have hbq : ∀ i j, i < n → j < n → Bq (qOf (N i j) (S i j) (D i j)) 80 := fun i j hi hj => (hok i j hi hj).bq (h80 i j hi hj).1 (h80 i j hi hj).2
 obtain ⟨q, hq⟩ : ∃ q : Nat → Nat → Rat, q = fun i j => qOf (N i j) (S i j) (D i j) := ⟨_, rfl⟩
 rw [← hq] at hr
 have hbq' : ∀ i j, i < n → j < n → Bq (q i j) 80 := fun i j hi hj => by rw [hq]; exact hbq i j hi hj
 clear hbq hok h80 hq
 have hE' := hE
 clear hE
 have h4n : n ≤ 4 := hs.2.1
 have h1n : 1 ≤ n := hs.1
 obtain ⟨B, O, rfl⟩ : ∃ B O, a = some ⟨B, O, none⟩ := by
  obtain ⟨b, off, ar, c, e, -⟩ := hr 0 (by omega)
  exact ⟨b, off, e⟩
 obtain ⟨mv, hmv⟩ : ∃ mv : Nat → Value, mv = fun i => (w.cell? ⟨B, O + i, none⟩).getD undef := ⟨_, rfl⟩
 have hm : ∀ i, i < n → w.cell? ⟨B, O + i, none⟩ = some (mv i) ∧ ∃ g o c, mv i = .slice (some ⟨g, o, none⟩) n c ∧ n ≤ c ∧ RdQI w (some ⟨g, o, none⟩) n (q i) := fun i hi => by
  obtain ⟨b, off, ar, c, e, h0, hcc, h3⟩ := hr i hi
  simp only [Option.some.injEq, Addr.mk.injEq] at e
  obtain ⟨rfl, rfl, -⟩ := e
  obtain ⟨g, o, rfl⟩ := rdqi_some h3 (by omega)
  have : mv i = .slice (some ⟨g, o, none⟩) n c := by rw [hmv]; show (w.cell? _).getD undef = _; rw [h0]; rfl
  exact ⟨by rw [h0, this], g, o, c, this, hcc, h3⟩
 have hsw : ∀ i, i < n → Dt.swp α β i < n := fun i hi => by
  unfold Dt.swp
  split
  ·exact ha
  ·split
   ·exact hb
   ·exact hi
 have htw : ∀ i, i < n → Dt.twc α β i < n := fun i hi => by
  unfold Dt.twc
  split
  ·exact hb
  ·exact hi
 have hz : (0 : Rat).num = 0 := rfl
 have key := turned_ok B O n cap α β q mv (nfZ (Dt.det n q).num) (nfZ (-Dt.det n q).num) (nfZ (0 : Rat).num) (sfZ (Dt.det n q).num) (strOf (Dt.det n q).den) (sfZ (-Dt.det n q).num) (strOf (-Dt.det n q).den) (sfZ (0 : Rat).num) (strOf (0 : Rat).den) w h4n ha hb hab hm HL
  (fun w1 b => (lfew_any _ n cap len N S D w1 (h.below b)).mono fun e w' ⟨h1, h2⟩ => ⟨h1.imp id And.left, h2⟩)
  (fun w1 b => by have := HS.out w1 b; rwa [decide_eq_true hs] at this)
  (fun w1 b => by have := HN hF w1 b; rwa [hE'] at this)
  (fun w1 b => detR_any _ n cap q w1 (hT.below b) h1n h4n (hr.below b) hbq')
  (fun w1 g cc b hv => ?_) (fun w1 g cc b hv => ?_) (fun w1 g cc b hv => ?_) (fun w1 => rnegT _ w1) (fun w1 => rsign_zero _ w1)
 ·exact key
 ·have := detR_any (some ⟨g, 0, none⟩) n cc (fun i j => q (Dt.swp α β i) j) w1 (hT.below b) h1n h4n (hv.rdR fun i hi => by
   obtain ⟨g, o, c, e, hc, h3⟩ := (hm _ (hsw i hi)).2
   exact ⟨g, o, c, e, hc, RdQ.below h3 b⟩) (fun i j hi hj => hbq' _ j (hsw i hi) hj)
  rwa [Dt.det_swap h4n ha hb hab] at this
 ·have := detR_any (some ⟨g, 0, none⟩) n cc (fun i j => q (Dt.twc α β i) j) w1 (hT.below b) h1n h4n (hv.rdR fun i hi => by
   obtain ⟨g, o, c, e, hc, h3⟩ := (hm _ (htw i hi)).2
   exact ⟨g, o, c, e, hc, RdQ.below h3 b⟩) (fun i j hi hj => hbq' _ j (htw i hi) hj)
  rwa [Dt.det_twice h4n ha hb hab] at this
 ·have := detR_any (some ⟨g, 0, none⟩) n cc (fun i j => q j i) w1 (hT.below b) h1n h4n hv.rdR (fun i j hi hj => hbq' j i hj hi)
  rwa [Dt.det_trans h1n h4n] at this
end Go.Proofs.YtgihiaaodkkkbaaGreatDoor
