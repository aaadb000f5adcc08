/-
  What the laws of gussetlaw07 over a triangle begin with: few, Three; how long integrals and loads are.
  Polynomials over a triangle: loads, squares, other orders of the corners.
  gussetref07: Zero; a square of nought.
  gussetlaw07: live.
  gussetlaw07: live is true.
-/
import Derived.Test.YtbafjmjcepcckaaGreatDoorN46
import Derived.Test.YtbafjmjcepcckaaGreatDoorN47
set_option maxRecDepth 100000
set_option maxHeartbeats 8000000
namespace Go.Proofs.YtbafjmjcepcckaaGreatDoor
open Go.RowKit
abbrev t18 (x0 z0 x1 z1 x2 z2 : Rat) : Value := .agg #[.bool (nfZ x0.num), .string (sfZ x0.num), .string (strOf x0.den), .bool (nfZ z0.num), .string (sfZ z0.num), .string (strOf z0.den), .bool (nfZ x1.num), .string (sfZ x1.num), .string (strOf x1.den), .bool (nfZ z1.num), .string (sfZ z1.num), .string (strOf z1.den), .bool (nfZ x2.num), .string (sfZ x2.num), .string (strOf x2.den), .bool (nfZ z2.num), .string (sfZ z2.num), .string (strOf z2.den)]
theorem firstE_zero {c : Nat → Nat} : ∀ {n : Nat}, firstE c n = 0 → ∀ k, k < n → c k = 0
 | 0, _, k, hk => absurd hk (by omega)
 | n + 1, h, k, hk => by
  unfold firstE at h
  split at h
  ·rename_i hz
   rcases Nat.lt_or_ge k n with q | q
   ·exact firstE_zero hz k q
   ·obtain rfl : k = n := by omega
    exact h
  ·rename_i hz
   exact absurd h hz
theorem few7E (n0 n1 n2 n3 n4 n5 p0 p1 p2 p3 p4 p5 : Bool) (s0 d0 s1 d1 s2 d2 s3 d3 s4 d4 s5 d5 q0 r0 q1 r1 q2 r2 q3 r3 q4 r4 q5 r5 : ByteArray) (w : World) : Calls Tryz.prog 8 #[.agg #[.bool n0, .string s0, .string d0, .bool n1, .string s1, .string d1, .bool n2, .string s2, .string d2, .bool n3, .string s3, .string d3, .bool n4, .string s4, .string d4, .bool n5, .string s5, .string d5], .agg #[.bool p0, .string q0, .string r0, .bool p1, .string q1, .string r1, .bool p2, .string q2, .string r2, .bool p3, .string q3, .string r3, .bool p4, .string q4, .string r4, .bool p5, .string q5, .string r5]] w (Re w (.bool (allB (fun k => sh7 (six6 s0 s1 s2 s3 s4 s5 k) (six6 d0 d1 d2 d3 d4 d5 k)) 6 && allB (fun k => sh7 (f4 q0 q2 q4 q4 k) (f4 r0 r2 r4 r4 k) && sh7 (f4 q1 q3 q5 q5 k) (f4 r1 r3 r5 r5 k)) 3))) :=
 few7_any (six6 n0 n1 n2 n3 n4 n5) (f4 p0 p2 p4 p4) (f4 p1 p3 p5 p5) (six6 s0 s1 s2 s3 s4 s5) (six6 d0 d1 d2 d3 d4 d5) (f4 q0 q2 q4 q4) (f4 r0 r2 r4 r4) (f4 q1 q3 q5 q5) (f4 r1 r3 r5 r5) w
theorem tri7 (n0 n1 n2 n3 n4 n5 p0 p1 p2 p3 p4 p5 : Bool) (s0 d0 s1 d1 s2 d2 s3 d3 s4 d4 s5 d5 q0 r0 q1 r1 q2 r2 q3 r3 q4 r4 q5 r5 : ByteArray) (h : (allB (fun k => sh7 (six6 s0 s1 s2 s3 s4 s5 k) (six6 d0 d1 d2 d3 d4 d5 k)) 6 && allB (fun k => sh7 (f4 q0 q2 q4 q4 k) (f4 r0 r2 r4 r4 k) && sh7 (f4 q1 q3 q5 q5 k) (f4 r1 r3 r5 r5 k)) 3) = true) :
  (∃ E : Int, ¬ E = 0 ∧ ∀ w1, Calls Tryz.prog 18 #[.agg #[.bool n0, .string s0, .string d0, .bool n1, .string s1, .string d1, .bool n2, .string s2, .string d2, .bool n3, .string s3, .string d3, .bool n4, .string s4, .string d4, .bool n5, .string s5, .string d5], .agg #[.bool p0, .string q0, .string r0, .bool p1, .string q1, .string r1, .bool p2, .string q2, .string r2, .bool p3, .string q3, .string r3, .bool p4, .string q4, .string r4, .bool p5, .string q5, .string r5]] w1 (Re w1 (.int .i64 E))) ∨
  (∃ y0 y1 y2 y3 y4 y5 x0 z0 x1 z1 x2 z2 : Rat, .agg #[.bool n0, .string s0, .string d0, .bool n1, .string s1, .string d1, .bool n2, .string s2, .string d2, .bool n3, .string s3, .string d3, .bool n4, .string s4, .string d4, .bool n5, .string s5, .string d5] = fq6 (six y0 y1 y2 y3 y4 y5) ∧ .agg #[.bool p0, .string q0, .string r0, .bool p1, .string q1, .string r1, .bool p2, .string q2, .string r2, .bool p3, .string q3, .string r3, .bool p4, .string q4, .string r4, .bool p5, .string q5, .string r5] = t18 x0 z0 x1 z1 x2 z2 ∧ (∀ k, k < 6 → Bq (six y0 y1 y2 y3 y4 y5 k) 30) ∧ (Bq x0 30 ∧ Bq z0 30 ∧ Bq x1 30 ∧ Bq z1 30 ∧ Bq x2 30 ∧ Bq z2 30) ∧ ((x1 - x0) * (z2 - z0) - (z1 - z0) * (x2 - x0)) ≠ 0 ∧
   ∀ w1, Calls Tryz.prog 18 #[fq6 (six y0 y1 y2 y3 y4 y5), t18 x0 z0 x1 z1 x2 z2] w1 (Re w1 (.int .i64 0))) := by
 rw [Bool.and_eq_true] at h
 have zf : ∀ k, k < 6 → (six6 s0 s1 s2 s3 s4 s5 k).size ≤ 30 ∧ (six6 d0 d1 d2 d3 d4 d5 k).size ≤ 30 := fun k hk => sh7_sz (allB_all h.1 k hk)
 have zp : ∀ k, k < 3 → ((f4 q0 q2 q4 q4 k).size ≤ 30 ∧ (f4 r0 r2 r4 r4 k).size ≤ 30) ∧ ((f4 q1 q3 q5 q5 k).size ≤ 30 ∧ (f4 r1 r3 r5 r5 k).size ≤ 30) := fun k hk => by
  have := allB_all h.2 k hk
  rw [Bool.and_eq_true] at this
  exact ⟨sh7_sz this.1, sh7_sz this.2⟩
 clear h
 have HC : ∀ w1, Calls Tryz.prog 11 #[.agg #[.bool n0, .string s0, .string d0, .bool n1, .string s1, .string d1, .bool n2, .string s2, .string d2, .bool n3, .string s3, .string d3, .bool n4, .string s4, .string d4, .bool n5, .string s5, .string d5]] w1 (Re w1 (.int .i64 (firstE (fun k => chkq (six6 n0 n1 n2 n3 n4 n5 k) (six6 s0 s1 s2 s3 s4 s5 k) (six6 d0 d1 d2 d3 d4 d5 k)) 6 : Nat))) := fun w1 =>
  rcheck7 (six6 n0 n1 n2 n3 n4 n5) (six6 s0 s1 s2 s3 s4 s5) (six6 d0 d1 d2 d3 d4 d5) w1 (fun k hk => ⟨by have := (zf k hk).1; omega, by have := (zf k hk).2; omega⟩)
 have HA : ∀ w1 B, Cel w1 B [.bool p0, .string q0, .string r0, .bool p1, .string q1, .string r1, .bool p2, .string q2, .string r2, .bool p3, .string q3, .string r3, .bool p4, .string q4, .string r4, .bool p5, .string q5, .string r5] 30 → Calls Tryz.prog 13 #[.slice (some ⟨B, 0, none⟩) 3 3] w1 (Re w1 (.int .i64 (firstE (fun k => two (chkq (f4 p0 p2 p4 p4 k) (f4 q0 q2 q4 q4 k) (f4 r0 r2 r4 r4 k)) (chkq (f4 p1 p3 p5 p5 k) (f4 q1 q3 q5 q5 k) (f4 r1 r3 r5 r5 k))) 3 : Nat))) := fun w1 B kl =>
  asked7 (some ⟨B, 0, none⟩) 3 3 (f4 p0 p2 p4 p4) (f4 p1 p3 p5 p5) (f4 q0 q2 q4 q4) (f4 r0 r2 r4 r4) (f4 q1 q3 q5 q5) (f4 r1 r3 r5 r5) w1 (by omega) (rdpt_f (P := f4 p0 p2 p4 p4) (P' := f4 p1 p3 p5 p5) (Q := f4 q0 q2 q4 q4) (R := f4 r0 r2 r4 r4) (Q' := f4 q1 q3 q5 q5) (R' := f4 r1 r3 r5 r5) kl) (fun k hk => ⟨⟨by have := (zp k hk).1.1; omega, by have := (zp k hk).1.2; omega⟩, ⟨by have := (zp k hk).2.1; omega, by have := (zp k hk).2.2; omega⟩⟩)
 by_cases h1 : firstE (fun k => chkq (six6 n0 n1 n2 n3 n4 n5 k) (six6 s0 s1 s2 s3 s4 s5 k) (six6 d0 d1 d2 d3 d4 d5 k)) 6 = 0
 ·rw [h1] at HC
  by_cases h2 : firstE (fun k => two (chkq (f4 p0 p2 p4 p4 k) (f4 q0 q2 q4 q4 k) (f4 r0 r2 r4 r4 k)) (chkq (f4 p1 p3 p5 p5 k) (f4 q1 q3 q5 q5 k) (f4 r1 r3 r5 r5 k))) 3 = 0
  ·rw [h2] at HA
   have a := firstE_zero h1
   have b := firstE_zero h2
   clear h1 h2
   obtain ⟨y0, c0, rfl, rfl, rfl⟩ := canon (a 0 (by omega)) (zf 0 (by omega))
   obtain ⟨y1, c1, rfl, rfl, rfl⟩ := canon (a 1 (by omega)) (zf 1 (by omega))
   obtain ⟨y2, c2, rfl, rfl, rfl⟩ := canon (a 2 (by omega)) (zf 2 (by omega))
   obtain ⟨y3, c3, rfl, rfl, rfl⟩ := canon (a 3 (by omega)) (zf 3 (by omega))
   obtain ⟨y4, c4, rfl, rfl, rfl⟩ := canon (a 4 (by omega)) (zf 4 (by omega))
   obtain ⟨y5, c5, rfl, rfl, rfl⟩ := canon (a 5 (by omega)) (zf 5 (by omega))
   obtain ⟨x0, bx0, rfl, rfl, rfl⟩ := canon (two_zero.1 (b 0 (by omega))).1 (zp 0 (by omega)).1
   obtain ⟨z0, bz0, rfl, rfl, rfl⟩ := canon (two_zero.1 (b 0 (by omega))).2 (zp 0 (by omega)).2
   obtain ⟨x1, bx1, rfl, rfl, rfl⟩ := canon (two_zero.1 (b 1 (by omega))).1 (zp 1 (by omega)).1
   obtain ⟨z1, bz1, rfl, rfl, rfl⟩ := canon (two_zero.1 (b 1 (by omega))).2 (zp 1 (by omega)).2
   obtain ⟨x2, bx2, rfl, rfl, rfl⟩ := canon (two_zero.1 (b 2 (by omega))).1 (zp 2 (by omega)).1
   obtain ⟨z2, bz2, rfl, rfl, rfl⟩ := canon (two_zero.1 (b 2 (by omega))).2 (zp 2 (by omega)).2
   clear a b zf zp
   have hr : ∀ k, k < 6 → Bq (six y0 y1 y2 y3 y4 y5 k) 30 := fun k hk => by
    match k, hk with
    | 0, _ => exact c0
    | 1, _ => exact c1
    | 2, _ => exact c2
    | 3, _ => exact c3
    | 4, _ => exact c4
    | 5, _ => exact c5
   have HO : ∀ w1, Calls Tryz.prog 44 #[pq x0 z0, pq x1 z1, pq x2 z2] w1 (Re w1 (.int .i64 (Gm.sg (Gm.cr x0 z0 x1 z1 x2 z2)))) := fun w1 => rorientI x0 z0 x1 z1 x2 z2 (K := 30) (by omega) bx0 bz0 bx1 bz1 bx2 bz2 w1
   by_cases hA : ((x1 - x0) * (z2 - z0) - (z1 - z0) * (x2 - x0)) = 0
   ·refine Or.inl ⟨6, by omega, fun w1 => ?_⟩
    exact three_fl _ _ _ _ _ _ _ _ _ _ _ _ _ _ _ _ _ _ _ _ _ _ _ _ _ _ _ _ _ _ _ _ _ _ _ _ w1 (fun w2 _ => HC w2) (fun w2 B _ kl => HA w2 B kl) (fun w2 _ => by
     have := HO w2
     rw [show Gm.sg (Gm.cr x0 z0 x1 z1 x2 z2) = 0 from Gm.sg_eq_zero.2 hA] at this
     exact this)
   ·refine Or.inr ⟨y0, y1, y2, y3, y4, y5, x0, z0, x1, z1, x2, z2, rfl, rfl, hr, ⟨bx0, bz0, bx1, bz1, bx2, bz2⟩, hA, fun w1 => ?_⟩
    exact three_ok _ _ _ _ _ _ _ _ _ _ _ _ _ _ _ _ _ _ _ _ _ _ _ _ _ _ _ _ _ _ _ _ _ _ _ _ (Gm.sg (Gm.cr x0 z0 x1 z1 x2 z2)) (fun q => hA (Gm.sg_eq_zero.1 q)) w1 (fun w2 _ => HC w2) (fun w2 B _ kl => HA w2 B kl) (fun w2 _ => HO w2)
  ·exact Or.inl ⟨_, fun q => h2 (by omega), fun w1 => three_e2 _ _ _ _ _ _ _ _ _ _ _ _ _ _ _ _ _ _ _ _ _ _ _ _ _ _ _ _ _ _ _ _ _ _ _ _ _ (fun q => h2 (by omega)) w1 (fun w2 _ => HC w2) (fun w2 B _ kl => HA w2 B kl)⟩
 ·exact Or.inl ⟨_, fun q => h1 (by omega), fun w1 => three_e1 _ _ _ _ _ _ _ _ _ _ _ _ _ _ _ _ _ _ _ _ _ _ _ _ _ _ _ _ _ _ _ _ _ _ _ _ _ (fun q => h1 (by omega)) w1 (fun w2 _ => HC w2)⟩
theorem node_bd {r s : Nat → Rat} {K : Nat} (hr : ∀ k, k < 6 → Bq (r k) K) (hs : ∀ k, k < 6 → Bq (s k) K) {k : Nat} (hk : k < 6) : Bd (nodeV (zu r 6) (zu s 6) (((um s 6 : Nat) : Int) + ((um s 6 : Nat) : Int)) k) (K * 21 + 21) := by
 unfold nodeV
 have hz : ∀ q, q < 6 → Bd (zu s 6 q) (K + (K * 6 + 1)) := fun q hq => zu_bd hs hq
 have hc : ∀ q, q < 6 → Bd (zu r 6 q) (K * 7 + 5) := fun q hq => (zu_bd hr hq).mono (by omega)
 have hX := wsum_bd (V := zu s 6) (W := ndW k) 3 (fun q hq => hz q (by omega)) (fun q hq => nd_one k hk q hq)
 have hY := wsum_bd (V := fun q => zu s 6 (3 + q)) (W := ndW k) 3 (fun q hq => hz (3 + q) (by omega)) (fun q hq => nd_one k hk q hq)
 have ht : Bd ((um s 6 : Nat) : Int) (K * 6 + 1) := um_bd hs
 exact (at_bd (A := K * 7 + 5) (B := K * 7 + 5) (hc 0 (by omega)) (hc 1 (by omega)) (hc 2 (by omega)) (hc 3 (by omega)) (hc 4 (by omega)) (hc 5 (by omega)) (hX.mono (by omega)) (hY.mono (by omega)) ((ht.add ht).mono (by omega))).mono (by omega)
theorem unit_bd {r s : Nat → Rat} {K : Nat} (hr : ∀ k, k < 6 → Bq (r k) K) (hs : ∀ k, k < 6 → Bq (s k) K) : Bd (((um r 6 : Nat) : Int) * ((((um s 6 : Nat) : Int) + ((um s 6 : Nat) : Int)) * (((um s 6 : Nat) : Int) + ((um s 6 : Nat) : Int)))) (K * 18 + 5) := by
 have ht : Bd ((um s 6 : Nat) : Int) (K * 6 + 1) := um_bd hs
 exact ((um_bd hr).mul ((ht.add ht).mul (ht.add ht))).mono (by omega)
theorem unit_ne (r s : Nat → Rat) : ((um r 6 : Nat) : Int) * ((((um s 6 : Nat) : Int) + ((um s 6 : Nat) : Int)) * (((um s 6 : Nat) : Int) + ((um s 6 : Nat) : Int))) ≠ 0 := by
 have h1 := upn r 6
 have h2 := upn s 6
 have h3 : 0 < ((um s 6 : Nat) : Int) + ((um s 6 : Nat) : Int) := by omega
 exact Int.ne_of_gt (Int.mul_pos h1 (Int.mul_pos h3 h3))
theorem lsum_bq {r s : Nat → Rat} {K : Nat} (hr : ∀ k, k < 6 → Bq (r k) K) (hs : ∀ k, k < 6 → Bq (s k) K) {W : Nat → Int} (hW : ∀ j, j < 6 → -100 ≤ W j ∧ W j ≤ 100) : Bq (lsum W (Fn r s)) (K * 21 + 28) := by
 have bV := wsum_bd (V := nodeV (zu r 6) (zu s 6) (((um s 6 : Nat) : Int) + ((um s 6 : Nat) : Int))) (W := W) 6 (fun k hk => node_bd hr hs hk) (fun k hk => Bd.one (by have := (hW k hk).1; omega) (by have := (hW k hk).2; omega))
 have c := wsum_cast (W := W) (F := Fn r s) (fun k _ => Lns.cast (r := r) (s := s) k)
 rw [← Rat.intCast_mul, ← Rat.intCast_mul] at c
 exact bq_ratio (unit_ne r s) c (bV.mono (by omega)) ((unit_bd hr hs).mono (by omega))
theorem rabs_bq {x : Rat} {K : Nat} (h : Bq x K) : Bq (rabs x) K := by
 unfold rabs
 exact vq_mk x.den_pos h.1.abs h.2
theorem area_bqK (x0 y0 x1 y1 x2 y2 : Rat) {K : Nat} (b0 : Bq x0 K) (b1 : Bq y0 K) (b2 : Bq x1 K) (b3 : Bq y1 K) (b4 : Bq x2 K) (b5 : Bq y2 K) : Bq ((x1 - x0) * (y2 - y0) - (y1 - y0) * (x2 - x0)) (K * 8 + 5) := bq_mono (vqm_sub (vqm_mul (vqm_sub b2 b0) (vqm_sub b5 b1)) (vqm_mul (vqm_sub b3 b1) (vqm_sub b4 b0))) (by omega)
theorem bq_unit (n : Nat) (h : 0 < n) (h2 : n ≤ 1000) : Bq (Rat.divInt 1 (n : Nat)) 2 := by
 refine bq_divI (by omega) ?_ ?_ <;> unfold Bd <;> omega
theorem lds (F : Nat → Rat) : lsum (ldW 0) F + (lsum (ldW 1) F + lsum (ldW 2) F) = lsum inW F := by
 unfold lsum
 simp [ldW, ldT, inW, inT]
 grind
theorem qs_eq (F : Nat → Rat) : qs F = (6 : Rat) * ((F 0 + (-1 / 6 : Rat) * F 1 + (-1 / 6 : Rat) * F 2 + (-2 / 3 : Rat) * F 4) * (F 0 + (-1 / 6 : Rat) * F 1 + (-1 / 6 : Rat) * F 2 + (-2 / 3 : Rat) * F 4)) + (35 / 6 : Rat) * ((F 1 + (-1 / 5 : Rat) * F 2 + (-4 / 35 : Rat) * F 4 + (-24 / 35 : Rat) * F 5) * (F 1 + (-1 / 5 : Rat) * F 2 + (-4 / 35 : Rat) * F 4 + (-24 / 35 : Rat) * F 5)) + (28 / 5 : Rat) * ((F 2 + (-5 / 7 : Rat) * F 3 + (-1 / 7 : Rat) * F 4 + (-1 / 7 : Rat) * F 5) * (F 2 + (-5 / 7 : Rat) * F 3 + (-1 / 7 : Rat) * F 4 + (-1 / 7 : Rat) * F 5)) + (204 / 7 : Rat) * ((F 3 + (9 / 17 : Rat) * F 4 + (9 / 17 : Rat) * F 5) * (F 3 + (9 / 17 : Rat) * F 4 + (9 / 17 : Rat) * F 5)) + (2496 / 119 : Rat) * ((F 4 + (9 / 26 : Rat) * F 5) * (F 4 + (9 / 26 : Rat) * F 5)) + (240 / 13 : Rat) * ((F 5) * (F 5)) := by
 unfold qs lsum
 simp [sqW, sqT]
 grind
theorem Fn_t01 (r : Nat → Rat) (x0 y0 x1 y1 x2 y2 : Rat) : Fn r (six x1 x0 x2 y1 y0 y2) 0 = Fn r (six x0 x1 x2 y0 y1 y2) 1 ∧ Fn r (six x1 x0 x2 y1 y0 y2) 1 = Fn r (six x0 x1 x2 y0 y1 y2) 0 ∧ Fn r (six x1 x0 x2 y1 y0 y2) 2 = Fn r (six x0 x1 x2 y0 y1 y2) 2 ∧ Fn r (six x1 x0 x2 y1 y0 y2) 3 = Fn r (six x0 x1 x2 y0 y1 y2) 3 ∧ Fn r (six x1 x0 x2 y1 y0 y2) 4 = Fn r (six x0 x1 x2 y0 y1 y2) 5 ∧ Fn r (six x1 x0 x2 y1 y0 y2) 5 = Fn r (six x0 x1 x2 y0 y1 y2) 4 := by
 unfold Fn nx ny
 simp only [six, ndW, ndT, List.getD_cons_zero, List.getD_cons_succ]
 generalize Rat.divInt 1 2 = h
 refine ⟨?_, ?_, ?_, ?_, ?_, ?_⟩ <;> congr 1 <;> grind
theorem Fn_t02 (r : Nat → Rat) (x0 y0 x1 y1 x2 y2 : Rat) : Fn r (six x2 x1 x0 y2 y1 y0) 0 = Fn r (six x0 x1 x2 y0 y1 y2) 2 ∧ Fn r (six x2 x1 x0 y2 y1 y0) 1 = Fn r (six x0 x1 x2 y0 y1 y2) 1 ∧ Fn r (six x2 x1 x0 y2 y1 y0) 2 = Fn r (six x0 x1 x2 y0 y1 y2) 0 ∧ Fn r (six x2 x1 x0 y2 y1 y0) 3 = Fn r (six x0 x1 x2 y0 y1 y2) 4 ∧ Fn r (six x2 x1 x0 y2 y1 y0) 4 = Fn r (six x0 x1 x2 y0 y1 y2) 3 ∧ Fn r (six x2 x1 x0 y2 y1 y0) 5 = Fn r (six x0 x1 x2 y0 y1 y2) 5 := by
 unfold Fn nx ny
 simp only [six, ndW, ndT, List.getD_cons_zero, List.getD_cons_succ]
 generalize Rat.divInt 1 2 = h
 refine ⟨?_, ?_, ?_, ?_, ?_, ?_⟩ <;> congr 1 <;> grind
theorem rabs_neg (x : Rat) : rabs (-x) = rabs x := by
 unfold rabs
 rw [Rat.neg_num, Rat.neg_den, Int.natAbs_neg]
theorem area_t01 (x0 y0 x1 y1 x2 y2 : Rat) : (x0 - x1) * (y2 - y1) - (y0 - y1) * (x2 - x1) = -((x1 - x0) * (y2 - y0) - (y1 - y0) * (x2 - x0)) := by grind
theorem area_t02 (x0 y0 x1 y1 x2 y2 : Rat) : (x1 - x2) * (y0 - y2) - (y1 - y2) * (x0 - x2) = -((x1 - x0) * (y2 - y0) - (y1 - y0) * (x2 - x0)) := by grind
theorem lod_t01 {F G : Nat → Rat} (h0 : G 0 = F 1) (h1 : G 1 = F 0) (h2 : G 2 = F 2) (h3 : G 3 = F 3) (h4 : G 4 = F 5) (h5 : G 5 = F 4) : lsum (ldW 0) G = lsum (ldW 1) F ∧ lsum (ldW 1) G = lsum (ldW 0) F ∧ lsum (ldW 2) G = lsum (ldW 2) F := by
 unfold lsum
 rw [h0, h1, h2, h3, h4, h5]
 simp [ldW, ldT]
 refine ⟨?_, ?_, ?_⟩ <;> grind
theorem qs_t02 {F G : Nat → Rat} (h0 : G 0 = F 2) (h1 : G 1 = F 1) (h2 : G 2 = F 0) (h3 : G 3 = F 4) (h4 : G 4 = F 3) (h5 : G 5 = F 5) : qs G = qs F := by
 unfold qs lsum
 rw [h0, h1, h2, h3, h4, h5]
 simp [sqW, sqT]
 grind
theorem qs_pos (F : Nat → Rat) : 0 ≤ qs F := by
 rw [qs_eq]
 have h : ∀ x : Rat, 0 ≤ x * x := fun x => by
  rcases Rat.le_total (a := 0) (b := x) with q | q
  ·exact Rat.mul_nonneg q q
  ·have := Rat.mul_nonneg (show 0 ≤ -x by grind) (show 0 ≤ -x by grind)
   grind
 have g0 := h (F 0 + (-1 / 6 : Rat) * F 1 + (-1 / 6 : Rat) * F 2 + (-2 / 3 : Rat) * F 4)
 have g1 := h (F 1 + (-1 / 5 : Rat) * F 2 + (-4 / 35 : Rat) * F 4 + (-24 / 35 : Rat) * F 5)
 have g2 := h (F 2 + (-5 / 7 : Rat) * F 3 + (-1 / 7 : Rat) * F 4 + (-1 / 7 : Rat) * F 5)
 have g3 := h (F 3 + (9 / 17 : Rat) * F 4 + (9 / 17 : Rat) * F 5)
 have g4 := h (F 4 + (9 / 26 : Rat) * F 5)
 have g5 := h (F 5)
 grind
theorem Fn_at (r : Nat → Rat) (x0 y0 x1 y1 x2 y2 : Rat) : Fn r (six x0 x1 x2 y0 y1 y2) 0 = ev r x0 y0 ∧ Fn r (six x0 x1 x2 y0 y1 y2) 1 = ev r x1 y1 ∧ Fn r (six x0 x1 x2 y0 y1 y2) 2 = ev r x2 y2 ∧ Fn r (six x0 x1 x2 y0 y1 y2) 3 = ev r ((x0 + x1) * Rat.divInt 1 2) ((y0 + y1) * Rat.divInt 1 2) ∧ Fn r (six x0 x1 x2 y0 y1 y2) 4 = ev r ((x1 + x2) * Rat.divInt 1 2) ((y1 + y2) * Rat.divInt 1 2) ∧ Fn r (six x0 x1 x2 y0 y1 y2) 5 = ev r ((x0 + x2) * Rat.divInt 1 2) ((y0 + y2) * Rat.divInt 1 2) := by
 have hh := half_eq
 unfold Fn nx ny
 simp only [six, ndW, ndT, List.getD_cons_zero, List.getD_cons_succ]
 generalize Rat.divInt 1 2 = h at *
 refine ⟨?_, ?_, ?_, ?_, ?_, ?_⟩ <;> congr 1 <;> grind
theorem Fn_zero (r : Nat → Rat) (x0 y0 x1 y1 x2 y2 : Rat) (hA : (x1 - x0) * (y2 - y0) - (y1 - y0) * (x2 - x0) ≠ 0) (h : ∀ k, k < 6 → Fn r (six x0 x1 x2 y0 y1 y2) k = 0) : r 0 = 0 ∧ r 1 = 0 ∧ r 2 = 0 ∧ r 3 = 0 ∧ r 4 = 0 ∧ r 5 = 0 := by
 obtain ⟨f0, f1, f2, f3, f4, f5⟩ := Fn_at r x0 y0 x1 y1 x2 y2
 rw [h 0 (by omega)] at f0
 rw [h 1 (by omega)] at f1
 rw [h 2 (by omega)] at f2
 rw [h 3 (by omega)] at f3
 rw [h 4 (by omega)] at f4
 rw [h 5 (by omega)] at f5
 have hh := half_eq
 clear h
 unfold ev at *
 generalize Rat.divInt 1 2 = t at *
 generalize r 0 = r0 at *
 generalize r 1 = r1 at *
 generalize r 2 = r2 at *
 generalize r 3 = r3 at *
 generalize r 4 = r4 at *
 generalize r 5 = r5 at *
 obtain ⟨ux, hux⟩ : ∃ u, u = x1 - x0 := ⟨_, rfl⟩
 obtain ⟨uy, huy⟩ : ∃ u, u = y1 - y0 := ⟨_, rfl⟩
 obtain ⟨vx, hvx⟩ : ∃ u, u = x2 - x0 := ⟨_, rfl⟩
 obtain ⟨vy, hvy⟩ : ∃ u, u = y2 - y0 := ⟨_, rfl⟩
 obtain rfl : x1 = x0 + ux := by grind
 obtain rfl : y1 = y0 + uy := by grind
 obtain rfl : x2 = x0 + vx := by grind
 obtain rfl : y2 = y0 + vy := by grind
 have hA' : ux * vy - uy * vx ≠ 0 := by intro e; apply hA; grind
 obtain rfl : t = 1 / 2 := by grind
 have qu : r3 * (ux * ux) + r4 * (ux * uy) + r5 * (uy * uy) = 0 := by grind
 have qv : r3 * (vx * vx) + r4 * (vx * vy) + r5 * (vy * vy) = 0 := by grind
 have qb : 2 * (r3 * (ux * vx)) + r4 * (ux * vy + uy * vx) + 2 * (r5 * (uy * vy)) = 0 := by grind
 have e3 : (ux * vy - uy * vx) * ((ux * vy - uy * vx) * r3) = 0 := by grind
 have e4 : (ux * vy - uy * vx) * ((ux * vy - uy * vx) * r4) = 0 := by grind
 have e5 : (ux * vy - uy * vx) * ((ux * vy - uy * vx) * r5) = 0 := by grind
 have z : ∀ x : Rat, (ux * vy - uy * vx) * x = 0 → x = 0 := fun x e => (Rat.mul_eq_zero.1 e).resolve_left hA'
 have z3 := z _ (z _ e3)
 have z4 := z _ (z _ e4)
 have z5 := z _ (z _ e5)
 subst z3 z4 z5
 have l1 : r1 * ux + r2 * uy = 0 := by grind
 have l2 : r1 * vx + r2 * vy = 0 := by grind
 have z1 := z r1 (by grind)
 have z2 := z r2 (by grind)
 subst z1 z2
 exact ⟨by grind, rfl, rfl, rfl, rfl, rfl⟩
theorem qs_zero {F : Nat → Rat} (h : qs F = 0) : ∀ k, k < 6 → F k = 0 := by
 rw [qs_eq] at h
 have hp : ∀ x : Rat, 0 ≤ x * x := fun x => by
  rcases Rat.le_total (a := 0) (b := x) with q | q
  ·exact Rat.mul_nonneg q q
  ·have := Rat.mul_nonneg (show 0 ≤ -x by grind) (show 0 ≤ -x by grind)
   grind
 have g0 := hp (F 0 + (-1 / 6 : Rat) * F 1 + (-1 / 6 : Rat) * F 2 + (-2 / 3 : Rat) * F 4)
 have g1 := hp (F 1 + (-1 / 5 : Rat) * F 2 + (-4 / 35 : Rat) * F 4 + (-24 / 35 : Rat) * F 5)
 have g2 := hp (F 2 + (-5 / 7 : Rat) * F 3 + (-1 / 7 : Rat) * F 4 + (-1 / 7 : Rat) * F 5)
 have g3 := hp (F 3 + (9 / 17 : Rat) * F 4 + (9 / 17 : Rat) * F 5)
 have g4 := hp (F 4 + (9 / 26 : Rat) * F 5)
 have g5 := hp (F 5)
 have s5 : (F 5) * (F 5) = 0 := by grind
 have s4 : (F 4 + (9 / 26 : Rat) * F 5) * (F 4 + (9 / 26 : Rat) * F 5) = 0 := by grind
 have s3 : (F 3 + (9 / 17 : Rat) * F 4 + (9 / 17 : Rat) * F 5) * (F 3 + (9 / 17 : Rat) * F 4 + (9 / 17 : Rat) * F 5) = 0 := by grind
 have s2 : (F 2 + (-5 / 7 : Rat) * F 3 + (-1 / 7 : Rat) * F 4 + (-1 / 7 : Rat) * F 5) * (F 2 + (-5 / 7 : Rat) * F 3 + (-1 / 7 : Rat) * F 4 + (-1 / 7 : Rat) * F 5) = 0 := by grind
 have s1 : (F 1 + (-1 / 5 : Rat) * F 2 + (-4 / 35 : Rat) * F 4 + (-24 / 35 : Rat) * F 5) * (F 1 + (-1 / 5 : Rat) * F 2 + (-4 / 35 : Rat) * F 4 + (-24 / 35 : Rat) * F 5) = 0 := by grind
 have s0 : (F 0 + (-1 / 6 : Rat) * F 1 + (-1 / 6 : Rat) * F 2 + (-2 / 3 : Rat) * F 4) * (F 0 + (-1 / 6 : Rat) * F 1 + (-1 / 6 : Rat) * F 2 + (-2 / 3 : Rat) * F 4) = 0 := by grind
 have z : ∀ x : Rat, x * x = 0 → x = 0 := fun x e => (Rat.mul_eq_zero.1 e).elim id id
 have z5 := z _ s5
 have z4 := z _ s4
 have z3 := z _ s3
 have z2 := z _ s2
 have z1 := z _ s1
 have z0 := z _ s0
 intro k hk
 match k, hk with
 | 5, _ => grind
 | 4, _ => grind
 | 3, _ => grind
 | 2, _ => grind
 | 1, _ => grind
 | 0, _ => grind
theorem zero7 (r : Nat → Rat) (w : World) :
  Calls Tryz.prog 26 #[fq6 r] w (Re w (.bool (allB (fun k => decide (Gm.sg (r k) = 0)) 6))) := by
 have HS : Hid (∀ k w1, Calls Tryz.prog 25 #[.agg #[.bool (nfZ (r k).num), .string (sfZ (r k).num), .string (strOf (r k).den)]] w1 (Re w1 (.int .i64 (Gm.sg (r k))))) := fun k w1 => rsignI (r k) w1
 generalize hB : allB (fun k => decide (Gm.sg (r k) = 0)) 6 = A6
 replace hB := shut hB
 go_enter Tryz.func26, Tryz.ntmps26
 go_upto_region 1 with fail
 obtain ⟨w0, hq, kf, b0⟩ := mk1 w [.bool (nfZ (r 0).num), .string (sfZ (r 0).num), .string (strOf (r 0).den), .bool (nfZ (r 1).num), .string (sfZ (r 1).num), .string (strOf (r 1).den), .bool (nfZ (r 2).num), .string (sfZ (r 2).num), .string (strOf (r 2).den), .bool (nfZ (r 3).num), .string (sfZ (r 3).num), .string (strOf (r 3).den), .bool (nfZ (r 4).num), .string (sfZ (r 4).num), .string (strOf (r 4).den), .bool (nfZ (r 5).num), .string (sfZ (r 5).num), .string (strOf (r 5).den)] 28
 rw [← hq]
 clear hq
 have hf := shut (rdq6 (N := fun k => nfZ (r k).num) (S := fun k => sfZ (r k).num) (D := fun k => strOf (r k).den) kf)
 clear kf
 go_wp2_with fail
 go_loopw [3] (fun i wr => Below w0.heap.size w0 wr ∧ ∃ k : Nat, k ≤ 6 ∧ i = .int .i64 k ∧ allB (fun k => decide (Gm.sg (r k) = 0)) k = true) (fun i _ => 6 - (intOf i).toNat)
 case atStart => exact ⟨Below.refl _ _, 0, by omega, rfl, rfl⟩
 case round =>
  obtain ⟨bb, k, hk, rfl, hz⟩ := hrel
  replace hz := shut hz
  by_cases hkn : k < 6
  ·obtain ⟨b, off, e, h0, h1, h2⟩ := hf.out.below bb k hkn
   injection e with e
   injection e with e1 e2
   subst e1 e2
   rw [Nat.zero_add] at h0 h1 h2
   have i1 : (k : Int) < 6 := by omega
   have i2 : ¬ (k : Int) < 0 := by omega
   go_wp2_with fail
   clear h0 h1 h2
   go_fit (HS.out k _)
   rintro e w3 ⟨rfl, b1⟩
   replace bb := Below.after bb b1
   clear b1
   by_cases hc : Gm.sg (r k) = 0
   ·have hs : Hid (allB (fun k => decide (Gm.sg (r k) = 0)) (k + 1) = true) := by show allB _ (k + 1) = true; unfold allB; rw [hz.out, hc]; rfl
    rw [hc]
    go_wp2
    exact ⟨⟨bb, k + 1, by omega, by go_num, hs.out⟩, by simp [intOf]; omega⟩
   ·have hs := hB.out
    rw [allB_stop (show decide (Gm.sg (r k) = 0) = false from decide_eq_false hc) 6 hkn] at hs
    subst hs
    go_wp2
    go_ret
    exact ⟨rfl, Below.after b0 bb⟩
  ·obtain rfl : k = 6 := by omega
   have hs := hB.out
   rw [hz.out] at hs
   subst hs
   clear hz
   have i3 : ¬ ((6 : Nat) : Int) < 6 := by omega
   go_wp2
   go_ret
   exact ⟨rfl, Below.after b0 bb⟩
theorem live7_walk (n10 n11 n12 n13 n14 n15 n16 n17 n18 n19 n30 n31 n32 n33 n34 n35 n40 n41 n42 n43 n44 n45 : Bool) (s10 d10 s11 d11 s12 d12 s13 d13 s14 d14 s15 d15 s16 d16 s17 d17 s18 d18 s19 d19 s30 d30 s31 d31 s32 d32 s33 d33 s34 d34 s35 d35 s40 d40 s41 d41 s42 d42 s43 d43 s44 d44 s45 d45 : ByteArray) (xN yN : Bool) (xS xD yS yD : ByteArray) (w : World)
  (A00 : Hid (∀ w1, Calls Tryz.prog 31 #[.int .i64 0, .int .i64 0] w1 (Re w1 (.agg #[.bool n10, .string s10, .string d10, .bool n11, .string s11, .string d11]))))
  (A20 : Hid (∀ w1, Calls Tryz.prog 31 #[.int .i64 2, .int .i64 0] w1 (Re w1 (.agg #[.bool n12, .string s12, .string d12, .bool n13, .string s13, .string d13]))))
  (A02 : Hid (∀ w1, Calls Tryz.prog 31 #[.int .i64 0, .int .i64 2] w1 (Re w1 (.agg #[.bool n14, .string s14, .string d14, .bool n15, .string s15, .string d15]))))
  (A10 : Hid (∀ w1, Calls Tryz.prog 31 #[.int .i64 1, .int .i64 0] w1 (Re w1 (.agg #[.bool n16, .string s16, .string d16, .bool n17, .string s17, .string d17]))))
  (A01 : Hid (∀ w1, Calls Tryz.prog 31 #[.int .i64 0, .int .i64 1] w1 (Re w1 (.agg #[.bool n18, .string s18, .string d18, .bool n19, .string s19, .string d19]))))
  (S1 : Hid (∀ w1, Calls Tryz.prog 30 #[.agg #[.int .i64 0, .int .i64 1, .int .i64 0, .int .i64 0, .int .i64 0, .int .i64 0]] w1 (Re w1 (.agg #[.bool n30, .string s30, .string d30, .bool n31, .string s31, .string d31, .bool n32, .string s32, .string d32, .bool n33, .string s33, .string d33, .bool n34, .string s34, .string d34, .bool n35, .string s35, .string d35]))))
  (S2 : Hid (∀ w1, Calls Tryz.prog 30 #[.agg #[.int .i64 1, .int .i64 0, .int .i64 0, .int .i64 0, .int .i64 0, .int .i64 0]] w1 (Re w1 (.agg #[.bool n40, .string s40, .string d40, .bool n41, .string s41, .string d41, .bool n42, .string s42, .string d42, .bool n43, .string s43, .string d43, .bool n44, .string s44, .string d44, .bool n45, .string s45, .string d45]))))
  (F1 : Hid (∀ w1, Calls Tryz.prog 27 #[.int .i64 4, .int .i64 3] w1 (Re w1 (.agg #[.bool xN, .string xS, .string xD]))))
  (F2 : Hid (∀ w1, Calls Tryz.prog 27 #[.int .i64 1, .int .i64 12] w1 (Re w1 (.agg #[.bool yN, .string yS, .string yD]))))
  (C1 : Hid (∀ w1, Below w.heap.size w w1 → Calls Tryz.prog 15 #[.agg #[.bool n30, .string s30, .string d30, .bool n31, .string s31, .string d31, .bool n32, .string s32, .string d32, .bool n33, .string s33, .string d33, .bool n34, .string s34, .string d34, .bool n35, .string s35, .string d35], .agg #[.bool n10, .string s10, .string d10, .bool n11, .string s11, .string d11], .agg #[.bool n12, .string s12, .string d12, .bool n13, .string s13, .string d13], .agg #[.bool n14, .string s14, .string d14, .bool n15, .string s15, .string d15]] w1 (Re w1 (.tuple #[.agg #[.bool xN, .string xS, .string xD], .int .i64 0]))))
  (C2 : Hid (∀ w1, Below w.heap.size w w1 → Calls Tryz.prog 17 #[.agg #[.bool n30, .string s30, .string d30, .bool n31, .string s31, .string d31, .bool n32, .string s32, .string d32, .bool n33, .string s33, .string d33, .bool n34, .string s34, .string d34, .bool n35, .string s35, .string d35], .agg #[.bool n10, .string s10, .string d10, .bool n11, .string s11, .string d11], .agg #[.bool n16, .string s16, .string d16, .bool n17, .string s17, .string d17], .agg #[.bool n18, .string s18, .string d18, .bool n19, .string s19, .string d19]] w1 (Re w1 (.tuple #[.agg #[.bool yN, .string yS, .string yD], .int .i64 0]))))
  (C3 : Hid (∀ w1, Below w.heap.size w w1 → Calls Tryz.prog 16 #[.agg #[.bool n40, .string s40, .string d40, .bool n41, .string s41, .string d41, .bool n42, .string s42, .string d42, .bool n43, .string s43, .string d43, .bool n44, .string s44, .string d44, .bool n45, .string s45, .string d45], .agg #[.bool n10, .string s10, .string d10, .bool n11, .string s11, .string d11], .agg #[.bool n16, .string s16, .string d16, .bool n17, .string s17, .string d17], .agg #[.bool n12, .string s12, .string d12, .bool n13, .string s13, .string d13]] w1 (Re w1 (.tuple #[.agg #[.bool false, .string { data := #[] }, .string { data := #[] }, .bool false, .string { data := #[] }, .string { data := #[] }, .bool false, .string { data := #[] }, .string { data := #[] }], .int .i64 6])))) :
  Calls Tryz.prog 9 #[] w (Re w (.bool true)) := by
 go_enter Tryz.func9, Tryz.ntmps9
 have bb := Below.refl w.heap.size w
 go_wp2_with fail
 go_fit (S1.out _)
 rintro e w1 ⟨rfl, b1⟩
 replace bb := Below.after bb b1
 clear b1
 go_wp2_with fail
 go_fit (A00.out _)
 rintro e w2 ⟨rfl, b1⟩
 replace bb := Below.after bb b1
 clear b1
 go_wp2_with fail
 go_fit (A20.out _)
 rintro e w3 ⟨rfl, b1⟩
 replace bb := Below.after bb b1
 clear b1
 go_wp2_with fail
 go_fit (A02.out _)
 rintro e w4 ⟨rfl, b1⟩
 replace bb := Below.after bb b1
 clear b1
 go_wp2_with fail
 go_fit (C1.out _ bb)
 rintro e w5 ⟨rfl, b1⟩
 replace bb := Below.after bb b1
 clear b1
 go_wp2_with fail
 obtain ⟨x5, hw, kc, b1⟩ := mk1 w5 [.bool xN, .string xS, .string xD] 26
 rw [← hw]
 clear hw
 replace bb := Below.after bb b1
 clear b1
 go_wp2_with fail
 go_fit (S1.out _)
 rintro e w6 ⟨rfl, b1⟩
 replace kc := kc.below b1
 replace bb := Below.after bb b1
 clear b1
 go_wp2_with fail
 go_fit (A00.out _)
 rintro e w7 ⟨rfl, b1⟩
 replace kc := kc.below b1
 replace bb := Below.after bb b1
 clear b1
 go_wp2_with fail
 go_fit (A10.out _)
 rintro e w8 ⟨rfl, b1⟩
 replace kc := kc.below b1
 replace bb := Below.after bb b1
 clear b1
 go_wp2_with fail
 go_fit (A01.out _)
 rintro e w9 ⟨rfl, b1⟩
 replace kc := kc.below b1
 replace bb := Below.after bb b1
 clear b1
 go_wp2_with fail
 go_fit (C2.out _ bb)
 rintro e w10 ⟨rfl, b1⟩
 replace kc := kc.below b1
 replace bb := Below.after bb b1
 clear b1
 go_wp2_with fail
 obtain ⟨x10, hw, kn, b1⟩ := mk1 w10 [.bool yN, .string yS, .string yD] 26
 rw [← hw]
 clear hw
 replace kc := kc.below b1
 replace bb := Below.after bb b1
 clear b1
 go_wp2_with fail
 go_fit (S2.out _)
 rintro e w11 ⟨rfl, b1⟩
 replace kc := kc.below b1
 replace kn := kn.below b1
 replace bb := Below.after bb b1
 clear b1
 go_wp2_with fail
 go_fit (A00.out _)
 rintro e w12 ⟨rfl, b1⟩
 replace kc := kc.below b1
 replace kn := kn.below b1
 replace bb := Below.after bb b1
 clear b1
 go_wp2_with fail
 go_fit (A10.out _)
 rintro e w13 ⟨rfl, b1⟩
 replace kc := kc.below b1
 replace kn := kn.below b1
 replace bb := Below.after bb b1
 clear b1
 go_wp2_with fail
 go_fit (A20.out _)
 rintro e w14 ⟨rfl, b1⟩
 replace kc := kc.below b1
 replace kn := kn.below b1
 replace bb := Below.after bb b1
 clear b1
 go_wp2_with fail
 go_fit (C3.out _ bb)
 rintro e w15 ⟨rfl, b1⟩
 replace kc := kc.below b1
 replace kn := kn.below b1
 replace bb := Below.after bb b1
 clear b1
 go_wp2_with fail
 obtain ⟨x15, hw, kz, b1⟩ := mk1 w15 [.bool false, .string { data := #[] }, .string { data := #[] }, .bool false, .string { data := #[] }, .string { data := #[] }, .bool false, .string { data := #[] }, .string { data := #[] }] 43
 rw [← hw]
 clear hw
 replace kc := kc.below b1
 replace kn := kn.below b1
 replace bb := Below.after bb b1
 clear b1
 clear kz
 have bd := bdrew x15
 replace kc := kc.below bd
 replace kn := kn.below bd
 replace bb := Below.after bb bd
 clear bd
 refine wp_region_held_drew (S := fun w' => xc3 w' w5.heap.size (.bool xN) (.string xS) (.string xD) ∧ xc3 w' w10.heap.size (.bool yN) (.string yS) (.string yD)) (by kernel_rfl) ⟨xk3 kc, xk3 kn⟩ (fun hS => ?_)
 refine WA.start (n := 21) (by kernel_rfl) ?_
 refine WA.tp 0 rfl ?_
 refine WA.cal 1 rfl (fun K hK => ?_)
 simp only [List.getElem_toArray, List.getElem_cons_succ, List.getElem_cons_zero]
 go_simp
 go_fit (F1.out _)
 rintro e wn ⟨rfl, bn⟩
 replace kc := kc.below bn
 replace kn := kn.below bn
 replace bb := Below.after bb bn
 try go_wp2_with fail
 clear hS
 refine hK.out _ _ ⟨xk3 kc, xk3 kn⟩ (fun hS => ?_)
 clear hK K bn
 refine WA.tp 2 rfl ?_
 refine WA.tp 3 rfl ?_
 refine WA.tp 4 rfl ?_
 refine WA.tp 5 rfl ?_
 refine WA.tp 6 rfl ?_
 refine WA.tp 7 rfl ?_
 refine WA.tp 8 rfl ?_
 refine WA.cal 9 rfl (fun K hK => ?_)
 simp only [List.getElem_toArray, List.getElem_cons_succ, List.getElem_cons_zero]
 go_simp
 go_fit (F2.out _)
 rintro e wn ⟨rfl, bn⟩
 replace kc := kc.below bn
 replace kn := kn.below bn
 replace bb := Below.after bb bn
 try go_wp2_with fail
 clear hS
 refine hK.out _ _ ⟨xk3 kc, xk3 kn⟩ (fun hS => ?_)
 clear hK K bn
 refine WA.tp 10 rfl ?_
 refine WA.tp 11 rfl ?_
 refine WA.tp 12 rfl ?_
 refine WA.tp 13 rfl ?_
 refine WA.tp 14 rfl ?_
 refine WA.tp 15 rfl ?_
 refine WA.tp 16 rfl ?_
 refine WA.tp 17 rfl ?_
 refine WA.tp 18 rfl ?_
 refine WA.tp 19 rfl ?_
 refine WA.tp 20 rfl ?_
 refine WA.done (by kernel_rfl) ?_
 clear hS
 go_wp2
 go_ret
 exact ⟨rfl, bb⟩
theorem fq6_int (l : Nat → Int) : fq6 (fun k => ((l k : Int) : Rat)) = .agg #[.bool (nfZ (l 0)), .string (sfZ (l 0)), .string ⟨#[1]⟩, .bool (nfZ (l 1)), .string (sfZ (l 1)), .string ⟨#[1]⟩, .bool (nfZ (l 2)), .string (sfZ (l 2)), .string ⟨#[1]⟩, .bool (nfZ (l 3)), .string (sfZ (l 3)), .string ⟨#[1]⟩, .bool (nfZ (l 4)), .string (sfZ (l 4)), .string ⟨#[1]⟩, .bool (nfZ (l 5)), .string (sfZ (l 5)), .string ⟨#[1]⟩] := by
 have e : strOf 1 = ⟨#[1]⟩ := by decide +kernel
 simp only [fq6, Rat.num_intCast, Rat.den_intCast, e]
def l1 (k : Nat) : Int := match k with | 1 => 1 | _ => 0
def l2 (k : Nat) : Int := match k with | 0 => 1 | _ => 0
theorem bl_l1 : ∀ k, k < 6 → Bq ((l1 k : Int) : Rat) 1 := fun k _ => bq_int _ (by unfold l1; split <;> omega) (by unfold l1; split <;> omega)
theorem bl_l2 : ∀ k, k < 6 → Bq ((l2 k : Int) : Rat) 1 := fun k _ => bq_int _ (by unfold l2; split <;> omega) (by unfold l2; split <;> omega)
theorem frac7I (N M : Int) (h1 : 0 < M) (h2 : M ≤ 1000) (h3 : 0 ≤ N) (h4 : N ≤ 1000) (w : World) : Calls Tryz.prog 27 #[.int .i64 N, .int .i64 M] w (Re w (rq (Rat.divInt N M))) := by
 have bb : ∀ z : Int, 0 ≤ z → z ≤ 1000 → Bd z 2 := fun z a b => by unfold Bd; omega
 refine frac6_walk N M (nfZ N) (nfZ M) (sfZ N) (sfZ M) _ _ _ w (fun w1 _ => rof_any N (by omega) (by omega) w1) (fun w1 _ => rof_any M (by omega) (by omega) w1) (fun w1 _ => ?_)
 have := low_any (nfZ N) (nfZ M) (sfZ N) (sfZ M) w1 (okZ_nz N) (okZ_nz M) (Nat.le_trans (bd_sf (bb N h3 (by omega))) (by omega)) (Nat.le_trans (bd_sf (bb M (by omega) h2)) (by omega)) (by rw [natOf_sfZ]; omega)
 rw [zOf_nz, zOf_nz] at this
 exact this
theorem live7_any (w : World) (hT : Tab w) (hP : PTab w) : Calls Tryz.prog 9 #[] w (Re w (.bool true)) := by
 refine live7_walk (nfZ 0) (nfZ 0) (nfZ 2) (nfZ 0) (nfZ 0) (nfZ 2) (nfZ 1) (nfZ 0) (nfZ 0) (nfZ 1) (nfZ (l1 0)) (nfZ (l1 1)) (nfZ (l1 2)) (nfZ (l1 3)) (nfZ (l1 4)) (nfZ (l1 5)) (nfZ (l2 0)) (nfZ (l2 1)) (nfZ (l2 2)) (nfZ (l2 3)) (nfZ (l2 4)) (nfZ (l2 5)) (sfZ 0) ⟨#[1]⟩ (sfZ 0) ⟨#[1]⟩ (sfZ 2) ⟨#[1]⟩ (sfZ 0) ⟨#[1]⟩ (sfZ 0) ⟨#[1]⟩ (sfZ 2) ⟨#[1]⟩ (sfZ 1) ⟨#[1]⟩ (sfZ 0) ⟨#[1]⟩ (sfZ 0) ⟨#[1]⟩ (sfZ 1) ⟨#[1]⟩ (sfZ (l1 0)) ⟨#[1]⟩ (sfZ (l1 1)) ⟨#[1]⟩ (sfZ (l1 2)) ⟨#[1]⟩ (sfZ (l1 3)) ⟨#[1]⟩ (sfZ (l1 4)) ⟨#[1]⟩ (sfZ (l1 5)) ⟨#[1]⟩ (sfZ (l2 0)) ⟨#[1]⟩ (sfZ (l2 1)) ⟨#[1]⟩ (sfZ (l2 2)) ⟨#[1]⟩ (sfZ (l2 3)) ⟨#[1]⟩ (sfZ (l2 4)) ⟨#[1]⟩ (sfZ (l2 5)) ⟨#[1]⟩ (nfZ (Rat.divInt 4 3).num) (nfZ (Rat.divInt 1 12).num) (sfZ (Rat.divInt 4 3).num) (strOf (Rat.divInt 4 3).den) (sfZ (Rat.divInt 1 12).num) (strOf (Rat.divInt 1 12).den) w ?_ ?_ ?_ ?_ ?_ ?_ ?_ ?_ ?_ ?_ ?_ ?_
 ·exact fun w1 => lat7_any 0 0 (by omega) (by omega) (by omega) (by omega) w1
 ·exact fun w1 => lat7_any 2 0 (by omega) (by omega) (by omega) (by omega) w1
 ·exact fun w1 => lat7_any 0 2 (by omega) (by omega) (by omega) (by omega) w1
 ·exact fun w1 => lat7_any 1 0 (by omega) (by omega) (by omega) (by omega) w1
 ·exact fun w1 => lat7_any 0 1 (by omega) (by omega) (by omega) (by omega) w1
 ·exact fun w1 => small7_walk l1 w1 (fun k w2 hk => roq_any _ (by unfold l1; split <;> omega) (by unfold l1; split <;> omega) w2)
 ·exact fun w1 => small7_walk l2 w1 (fun k w2 hk => roq_any _ (by unfold l2; split <;> omega) (by unfold l2; split <;> omega) w2)
 ·exact fun w1 => frac7I 4 3 (by omega) (by omega) (by omega) (by omega) w1
 ·exact fun w1 => frac7I 1 12 (by omega) (by omega) (by omega) (by omega) w1
 ·intro w1 b
  have := intI (fun k => ((l1 k : Int) : Rat)) ((0 : Int) : Rat) ((0 : Int) : Rat) ((2 : Int) : Rat) ((0 : Int) : Rat) ((0 : Int) : Rat) ((2 : Int) : Rat) (by omega : 1 ≤ 100) (bl_l1) (bq_int 0 (by omega) (by omega)) (bq_int 0 (by omega) (by omega)) (bq_int 2 (by omega) (by omega)) (bq_int 0 (by omega) (by omega)) (bq_int 0 (by omega) (by omega)) (bq_int 2 (by omega) (by omega)) w1 (hT.below b) (hP.below b) (by decide +kernel) (x := (Rat.divInt 4 3)) (by decide +kernel)
  simp only [pq_int, fq6_int] at this
  exact this
 ·intro w1 b
  have := squI (fun k => ((l1 k : Int) : Rat)) ((0 : Int) : Rat) ((0 : Int) : Rat) ((1 : Int) : Rat) ((0 : Int) : Rat) ((0 : Int) : Rat) ((1 : Int) : Rat) (by omega : 1 ≤ 100) (bl_l1) (bq_int 0 (by omega) (by omega)) (bq_int 0 (by omega) (by omega)) (bq_int 1 (by omega) (by omega)) (bq_int 0 (by omega) (by omega)) (bq_int 0 (by omega) (by omega)) (bq_int 1 (by omega) (by omega)) w1 (hT.below b) (hP.below b) (by decide +kernel) (x := (Rat.divInt 1 12)) (by decide +kernel)
  simp only [pq_int, fq6_int] at this
  exact this
 ·intro w1 b
  have := lod_flat (fun k => ((l2 k : Int) : Rat)) ((0 : Int) : Rat) ((0 : Int) : Rat) ((1 : Int) : Rat) ((0 : Int) : Rat) ((2 : Int) : Rat) ((0 : Int) : Rat) (by omega : 1 ≤ 100) (bl_l2) (bq_int 0 (by omega) (by omega)) (bq_int 0 (by omega) (by omega)) (bq_int 1 (by omega) (by omega)) (bq_int 0 (by omega) (by omega)) (bq_int 2 (by omega) (by omega)) (bq_int 0 (by omega) (by omega)) w1 (hT.below b) (by decide +kernel)
  simp only [pq_int, fq6_int] at this
  exact this
end Go.Proofs.YtbafjmjcepcckaaGreatDoor
