/-
  Package vec: Plus, Minus, Scale, of any points.
  Package vec: Cross, Dot, Norm2, of any points.
  gussetlaw04: live.
-/
import Derived.Test.YtgihiaaodkkkbaaGreatDoorG39
namespace Go.Proofs.YtgihiaaodkkkbaaGreatDoor
open Go.RowKit

theorem qI_nz (q : Rat) : qI q = .agg #[.bool (nfZ q.num), .string (sfZ q.num), .string (strOf q.den)] := rfl
end Go.Proofs.YtgihiaaodkkkbaaGreatDoor
namespace Go.Proofs.YtgihiaaodkkkbaaGreatDoor
open Go.RowKit

theorem vCross_ok (n0 n1 n2 n3 : Bool) (s0 d0 s1 d1 s2 d2 s3 d3 : ByteArray) (w : World) (hT : Tab w) (h : two (twoq n0 s0 d0 n1 s1 d1) (twoq n2 s2 d2 n3 s3 d3) = 0) (z0 : s0.size ≤ 170 ∧ d0.size ≤ 170) (z1 : s1.size ≤ 170 ∧ d1.size ≤ 170) (z2 : s2.size ≤ 170 ∧ d2.size ≤ 170) (z3 : s3.size ≤ 170 ∧ d3.size ≤ 170) :
  Calls Tryz.prog 37 #[.agg #[.bool n0, .string s0, .string d0, .bool n1, .string s1, .string d1], .agg #[.bool n2, .string s2, .string d2, .bool n3, .string s3, .string d3]] w fun e w' => e = .returned (.tuple #[.agg #[.bool (nfZ (qOf n0 s0 d0 * qOf n3 s3 d3 - qOf n1 s1 d1 * qOf n2 s2 d2).num), .string (sfZ (qOf n0 s0 d0 * qOf n3 s3 d3 - qOf n1 s1 d1 * qOf n2 s2 d2).num), .string (strOf (qOf n0 s0 d0 * qOf n3 s3 d3 - qOf n1 s1 d1 * qOf n2 s2 d2).den)], .int .i64 0]) ∧ Below w.heap.size w w' := by
 have hc : Hid (∀ (B : Nat) (w1 : World), Below w.heap.size w w1 → Cel w1 B [.bool n0, .string s0, .string d0, .bool n1, .string s1, .string d1, .bool n2, .string s2, .string d2, .bool n3, .string s3, .string d3] 32 → Calls Tryz.prog 42 #[.slice (some ⟨B, 0, none⟩) 4 4] w1 fun e w' => e = .returned (.int .i64 (two (twoq n0 s0 d0 n1 s1 d1) (twoq n2 s2 d2 n3 s3 d3) : Nat)) ∧ Below w1.heap.size w1 w') := fun B w1 b k => vcheck4 B n0 n1 n2 n3 s0 d0 s1 d1 s2 d2 s3 d3 w1 (hT.below b) k
 rw [h] at hc
 obtain ⟨h0, h1⟩ := two_zero.1 h
 have o0 := (chkq_zero (twoq_zero.1 h0).1).1
 have o1 := (chkq_zero (twoq_zero.1 h0).2).1
 have o2 := (chkq_zero (twoq_zero.1 h1).1).1
 have o3 := (chkq_zero (twoq_zero.1 h1).2).1
 refine cross_ok n0 n1 n2 n3 _ s0 d0 s1 d1 s2 d2 s3 d3 _ _ w hc (fun B g1 g2 w1 b kB k1 k2 => ?_)
 have := det2_any B g1 g2 n0 n1 n2 n3 s0 d0 s1 d1 s2 d2 s3 d3 (hT.below b) kB k1 k2 o0 o1 o2 o3 z0 z1 z2 z3
 exact this
end Go.Proofs.YtgihiaaodkkkbaaGreatDoor
namespace Go.Proofs.YtgihiaaodkkkbaaGreatDoor
open Go.RowKit

theorem okq_int (z : Int) : OkQ (nfZ z) (sfZ z) ⟨#[1]⟩ := ⟨okZ_nz z, by rw [← strOf_one]; exact okS_strOf 1, by rw [natOf_one]; omega, by rw [natOf_one]; exact Nat.gcd_one_right _⟩
theorem qOf_int (z : Int) : qOf (nfZ z) (sfZ z) ⟨#[1]⟩ = (z : Rat) := by
 unfold qOf
 rw [zOf_nz, natOf_one, Rat.mkRat_one]
theorem sz_int (z : Int) (h1 : -200 ≤ z) (h2 : z ≤ 200) : (sfZ z).size ≤ 170 ∧ (⟨#[1]⟩ : ByteArray).size ≤ 170 := by
 refine ⟨Nat.le_trans (Bd.size (k := 1) ?_) (by omega), by decide⟩
 unfold Bd
 simp
 omega
theorem chk_int (z : Int) (h1 : -200 ≤ z) (h2 : z ≤ 200) : chkq (nfZ z) (sfZ z) ⟨#[1]⟩ = 0 := chkq_ok (okq_int z) (by have := (sz_int z h1 h2).1; omega) (by decide)
theorem qI_z (z : Int) : (nfZ ((z : Rat)).num = nfZ z ∧ sfZ ((z : Rat)).num = sfZ z ∧ strOf ((z : Rat)).den = ⟨#[1]⟩) := ⟨rfl, rfl, strOf_one⟩
theorem live4_any (w : World) (hT : Tab w) : Calls Tryz.prog 12 #[] w fun e w' => e = .returned (.bool true) ∧ Below w.heap.size w w' := by
 refine live4_walk (nfZ 1) (nfZ 0) (nfZ 0) (nfZ 1) (nfZ 1) (nfZ 2) (nfZ 3) (nfZ 4) (nfZ (-2)) (sfZ 1) ⟨#[1]⟩ (sfZ 0) ⟨#[1]⟩ (sfZ 0) ⟨#[1]⟩ (sfZ 1) ⟨#[1]⟩ (sfZ 1) ⟨#[1]⟩ (sfZ 2) ⟨#[1]⟩ (sfZ 3) ⟨#[1]⟩ (sfZ 4) ⟨#[1]⟩ (sfZ (-2)) ⟨#[1]⟩ w ?_ ?_ ?_ ?_ ?_ ?_ ?_ ?_ ?_ ?_ ?_
 ·exact fun w1 => lat_any 1 0 (by omega) (by omega) (by omega) (by omega) w1
 ·exact fun w1 => lat_any 0 1 (by omega) (by omega) (by omega) (by omega) w1
 ·intro w1 b
  have h0 : two (twoq (nfZ 1) (sfZ 1) ⟨#[1]⟩ (nfZ 0) (sfZ 0) ⟨#[1]⟩) (twoq (nfZ 0) (sfZ 0) ⟨#[1]⟩ (nfZ 1) (sfZ 1) ⟨#[1]⟩) = 0 := two_zero.2 ⟨twoq_zero.2 ⟨chk_int 1 (by omega) (by omega), chk_int 0 (by omega) (by omega)⟩, twoq_zero.2 ⟨chk_int 0 (by omega) (by omega), chk_int 1 (by omega) (by omega)⟩⟩
  have := vCross_ok (nfZ 1) (nfZ 0) (nfZ 0) (nfZ 1) (sfZ 1) ⟨#[1]⟩ (sfZ 0) ⟨#[1]⟩ (sfZ 0) ⟨#[1]⟩ (sfZ 1) ⟨#[1]⟩ w1 (hT.below b) h0 (sz_int 1 (by omega) (by omega)) (sz_int 0 (by omega) (by omega)) (sz_int 0 (by omega) (by omega)) (sz_int 1 (by omega) (by omega))
  rw [qOf_int, qOf_int, show ((1 : Int) : Rat) * ((1 : Int) : Rat) - ((0 : Int) : Rat) * ((0 : Int) : Rat) = ((1 : Int) : Rat) by decide +kernel] at this
  rw [(qI_z 1).1, (qI_z 1).2.1, (qI_z 1).2.2] at this
  exact this
 ·exact fun w1 => roq_any 1 (by omega) (by omega) w1
 ·exact fun w1 => roq_any 2 (by omega) (by omega) w1
 ·exact fun w1 => roq_any 3 (by omega) (by omega) w1
 ·exact fun w1 => roq_any 4 (by omega) (by omega) w1
 ·exact fun w1 => roq_any (-2) (by omega) (by omega) w1
 ·intro B g1 g2 w1 b kB k1 k2
  have hB0 := kB.cell 0
  have hB1 := kB.cell 1
  simp only [List.getElem?_cons_zero, List.getElem?_cons_succ] at hB0 hB1
  have sm : ∀ z : Int, 1 ≤ z → z ≤ 4 → chkq (nfZ z) (sfZ z) ⟨#[1]⟩ = 0 := fun z a c => chk_int z (by omega) (by omega)
  have := vDet_sq (some ⟨B, 0, none⟩) 2 2 (fun _ => 0) (.agg #[.bool (nfZ (-2)), .string (sfZ (-2)), .string ⟨#[1]⟩]) 0 w1 (by omega) ?_ ?_ ?_
  ·exact this
  ·refine Or.inr ⟨rfl, rfl, ⟨_, _, _, rfl⟩, fun w2 b2 => ?_⟩
   have := det2_any B g1 g2 (nfZ 1) (nfZ 2) (nfZ 3) (nfZ 4) (sfZ 1) ⟨#[1]⟩ (sfZ 2) ⟨#[1]⟩ (sfZ 3) ⟨#[1]⟩ (sfZ 4) ⟨#[1]⟩ ((hT.below b).below b2) (kB.below b2) (k1.below b2) (k2.below b2) (okq_int 1) (okq_int 2) (okq_int 3) (okq_int 4) (sz_int 1 (by omega) (by omega)) (sz_int 2 (by omega) (by omega)) (sz_int 3 (by omega) (by omega)) (sz_int 4 (by omega) (by omega))
   rw [qOf_int, qOf_int, qOf_int, qOf_int, show ((1 : Int) : Rat) * ((4 : Int) : Rat) - ((2 : Int) : Rat) * ((3 : Int) : Rat) = ((-2 : Int) : Rat) by decide +kernel, qI_nz, (qI_z (-2)).1, (qI_z (-2)).2.1, (qI_z (-2)).2.2] at this
   exact this
  ·intro w2 b2
   have kB' := kB.below b2
   refine isSquare_yes (some ⟨B, 0, none⟩) 2 2 (fun _ => 2) (fun i => f2 (f2 (nfZ 1) (nfZ 3) i) (f2 (nfZ 2) (nfZ 4) i)) (fun i => f2 (f2 (sfZ 1) (sfZ 3) i) (f2 (sfZ 2) (sfZ 4) i)) (fun _ => f2 ⟨#[1]⟩ ⟨#[1]⟩) w2 (fun i hi => ?_) ⟨by omega, by omega, fun _ _ => rfl⟩
   match i, hi with
   | 0, _ => exact ⟨B, 0, some ⟨g1, 0, none⟩, 2, rfl, kB'.cell 0, Nat.le_refl _, rdq_2 (k1.below b2)⟩
   | 1, _ => exact ⟨B, 0, some ⟨g2, 0, none⟩, 2, rfl, kB'.cell 1, Nat.le_refl _, rdq_2 (k2.below b2)⟩
  ·intro i hi
   match i, hi with
   | 0, _ =>
    refine ⟨B, 0, some ⟨g1, 0, none⟩, 2, 2, rfl, hB0, fun w2 b2 => ?_⟩
    have := vcheck2 g1 (nfZ 1) (nfZ 2) (sfZ 1) ⟨#[1]⟩ (sfZ 2) ⟨#[1]⟩ w2 ((hT.below b).below b2) (k1.below b2)
    rw [twoq_zero.2 ⟨sm 1 (by omega) (by omega), sm 2 (by omega) (by omega)⟩] at this
    exact this
   | 1, _ =>
    refine ⟨B, 0, some ⟨g2, 0, none⟩, 2, 2, rfl, hB1, fun w2 b2 => ?_⟩
    have := vcheck2 g2 (nfZ 3) (nfZ 4) (sfZ 3) ⟨#[1]⟩ (sfZ 4) ⟨#[1]⟩ w2 ((hT.below b).below b2) (k2.below b2)
    rw [twoq_zero.2 ⟨sm 3 (by omega) (by omega), sm 4 (by omega) (by omega)⟩] at this
    exact this
 ·exact fun w1 => vDet_no none 0 0 w1 (fun w2 b2 => isSquare_few none 0 0 w2 (by omega))
 ·intro w1 b
  have := vCheck_any false false ⟨#[]⟩ ⟨#[]⟩ ⟨#[]⟩ ⟨#[]⟩ w1 (hT.below b)
  have hc : chkq false ⟨#[]⟩ ⟨#[]⟩ = 1 := by unfold chkq; rw [if_neg (by decide)]; exact if_pos (Or.inr (Or.inl rfl))
  rw [show twoq false ⟨#[]⟩ ⟨#[]⟩ false ⟨#[]⟩ ⟨#[]⟩ = 1 by unfold twoq; rw [hc]; rfl] at this
  exact this
end Go.Proofs.YtgihiaaodkkkbaaGreatDoor
