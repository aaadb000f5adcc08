/-
  gussetref03: Order, Sum, Negate, Less, of any two.
  gussetref03: Times, Over, Sign, of any two.
-/
import Derived.Test.YtafikdacdfkkhaaGreatDoorG42
import Derived.Test.YtafikdacdfkkhaaGreatDoorG43
namespace Go.Proofs.YtafikdacdfkkhaaGreatDoor
open Go.RowKit Go.Shelf

theorem cmp_same {n0 n1 : Bool} {s0 s1 d0 : ByteArray} (o0 : OkQ n0 s0 d0) (o1 : OkQ n1 s1 d0) : Q.cmp (qOf n0 s0 d0) (qOf n1 s1 d0) = cmpZ (zOf n0 s0) (zOf n1 s1) := by
 have hp : (0 : Int) < ((natOf d0 : Nat) : Int) := by have := o0.2.2.1; omega
 have hm : ∀ x y : Int, x * ((natOf d0 : Nat) : Int) < y * ((natOf d0 : Nat) : Int) ↔ x < y := fun x y => ⟨fun h => Int.lt_of_mul_lt_mul_right h (by omega), fun h => Int.mul_lt_mul_of_pos_right h hp⟩
 unfold Q.cmp cmpZ
 simp only [Q.lt_mul, o0.low.1, o0.low.2, o1.low.1, o1.low.2, hm]
theorem cmp_cross {n0 n1 : Bool} {s0 s1 d0 d1 : ByteArray} (o0 : OkQ n0 s0 d0) (o1 : OkQ n1 s1 d1) : Q.cmp (qOf n0 s0 d0) (qOf n1 s1 d1) = cmpZ (zOf n0 s0 * zOf false d1) (zOf n1 s1 * zOf false d0) := by
 rw [zOf_false, zOf_false]
 unfold Q.cmp cmpZ
 simp only [Q.lt_mul, o0.low.1, o0.low.2, o1.low.1, o1.low.2]
theorem toList_inj {d e : ByteArray} (h : (d.toList == e.toList) = true) : d = e := by
 have h2 := eq_of_beq h
 rw [ByteArray.toList_eq, ByteArray.toList_eq] at h2
 obtain ⟨⟨l⟩⟩ := d
 obtain ⟨⟨m⟩⟩ := e
 have h3 : l = m := h2
 rw [h3]
theorem rorderq_any (n0 n1 : Bool) (s0 d0 s1 d1 : ByteArray) (w : World) (o0 : OkQ n0 s0 d0) (o1 : OkQ n1 s1 d1) {K : Nat} (hK : K ≤ 4000) (z0 : s0.size ≤ K) (y0 : d0.size ≤ K) (z1 : s1.size ≤ K) (y1 : d1.size ≤ K) :
  Calls Tryz.prog 89 #[.agg #[.bool n0, .string s0, .string d0], .agg #[.bool n1, .string s1, .string d1]] w fun e w' => e = .returned (.int .i64 (Q.cmp (qOf n0 s0 d0) (qOf n1 s1 d1))) ∧ Below w.heap.size w w' := by
 obtain ⟨nf, sf, hf, hok, hsz, hz, hnat, hneg, hstr, hnn, hfn⟩ := named0
 cases e : (d0.toList == d1.toList) with
 | true =>
  have e' : d0 = d1 := toList_inj e
  subst e'
  rw [cmp_same o0 o1]
  exact rorder_same n0 n1 s0 d0 s1 d0 _ e w (fun w1 => rorder_any n0 n1 s0 s1 w1 o0.1 o1.1 (by omega) (by omega))
 | false =>
  have h1 := fun w1 => rtimes_any n0 false s0 d1 w1 (by omega) (by omega)
  have h2 := fun w1 => rtimes_any n1 false s1 d0 w1 (by omega) (by omega)
  have h3 := fun w1 => rorder_any _ _ _ _ w1 (hok (zOf n0 s0 * zOf false d1)) (hok (zOf n1 s1 * zOf false d0)) (Nat.le_trans (hsz _ _ ((bd_zOf z0).mul (bd_zOf y1))) (by omega)) (Nat.le_trans (hsz _ _ ((bd_zOf z1).mul (bd_zOf y0))) (by omega))
  simp only [hf] at h1 h2
  simp only [hz] at h3
  rw [cmp_cross o0 o1]
  exact rorder_walk n0 n1 _ _ s0 d0 s1 d1 _ _ _ e w h1 h2 h3
theorem div_one' (z : Int) : Rat.divInt z 1 = (z : Rat) := by
 rw [show (1 : Int) = ((1 : Nat) : Int) from rfl, Rat.divInt_ofNat]
 exact Rat.ext (Q.mk_low (by omega) (by simp)).1 (Q.mk_low (by omega) (by simp)).2
theorem rsumq_any (n0 n1 : Bool) (s0 d0 s1 d1 : ByteArray) (w : World) (o0 : OkQ n0 s0 d0) (o1 : OkQ n1 s1 d1) {K : Nat} (hK : K ≤ 4000) (z0 : s0.size ≤ K) (y0 : d0.size ≤ K) (z1 : s1.size ≤ K) (y1 : d1.size ≤ K) :
  Calls Tryz.prog 77 #[.agg #[.bool n0, .string s0, .string d0], .agg #[.bool n1, .string s1, .string d1]] w fun e w' => e = .returned (qI (qOf n0 s0 d0 + qOf n1 s1 d1)) ∧ Below w.heap.size w w' := by
 obtain ⟨nf, sf, hf, hok, hsz, hz, hnat, hneg, hstr, hnn, hfn⟩ := named0
 obtain ⟨nq, sq, dq, hq, -⟩ := named3
 have bx : Bd (zOf n0 s0 * zOf false d1) (K + K) := (bd_zOf z0).mul (bd_zOf y1)
 have bY : Bd (zOf n1 s1 * zOf false d0) (K + K) := (bd_zOf z1).mul (bd_zOf y0)
 have h0 := fun w1 => rsum_any n0 n1 s0 s1 w1 (by omega) (by omega)
 have h1 := fun w1 => rtimes_any n0 false s0 d1 w1 (by omega) (by omega)
 have h2 := fun w1 => rtimes_any n1 false s1 d0 w1 (by omega) (by omega)
 have h3 := fun w1 => rsum_any (nf (zOf n0 s0 * zOf false d1)) (nf (zOf n1 s1 * zOf false d0)) (sf (zOf n0 s0 * zOf false d1)) (sf (zOf n1 s1 * zOf false d0)) w1 (Nat.le_trans (hsz _ _ bx) (by omega)) (Nat.le_trans (hsz _ _ bY) (by omega))
 have h4 := fun w1 => rtimes_any false false d0 d1 w1 (by omega) (by omega)
 have key : qOf n0 s0 d0 + qOf n1 s1 d1 = Rat.divInt (zOf n0 s0 * zOf false d1 + zOf n1 s1 * zOf false d0) (zOf false d0 * zOf false d1) := by
  have p0 := o0.2.2.1
  have p1 := o1.2.2.1
  unfold qOf
  rw [Rat.mkRat_add_mkRat _ _ (by omega) (by omega), zOf_false, zOf_false, ← Int.natCast_mul, Rat.divInt_ofNat]
 have hp : 0 < natOf (sf (zOf false d0 * zOf false d1)) := by
  rw [zOf_false, zOf_false, ← Int.natCast_mul, hnn]
  exact Nat.mul_pos o0.2.2.1 o1.2.2.1
 have hl := fun w1 => low_any (nf (zOf n0 s0 * zOf false d1 + zOf n1 s1 * zOf false d0)) (nf (zOf false d0 * zOf false d1)) (sf (zOf n0 s0 * zOf false d1 + zOf n1 s1 * zOf false d0)) (sf (zOf false d0 * zOf false d1)) w1 (hok _) (hok _) (Nat.le_trans (hsz _ _ (bx.add bY)) (by omega)) (Nat.le_trans (hsz _ _ ((bd_zOf y0).mul (bd_zOf y1))) (by omega)) hp
 rw [key]
 simp only [hz] at h3
 simp only [hf] at h0 h1 h2 h3 h4
 simp only [hz, hq] at hl
 rw [hq]
 cases e0 : (d0.toList == [1]) with
 | false => exact rsum_walk0 n0 n1 _ _ _ _ _ s0 d0 s1 d1 _ _ _ _ _ _ e0 w h1 h2 h3 h4 hl
 | true =>
  cases e1 : (d1.toList == [1]) with
  | false => exact rsum_walk1 n0 n1 _ _ _ _ _ s0 d0 s1 d1 _ _ _ _ _ _ e0 e1 w h1 h2 h3 h4 hl
  | true =>
   rw [← hq, zOf_false, zOf_false, one_of e0, one_of e1, show ((1 : Nat) : Int) * ((1 : Nat) : Int) = 1 from rfl, show zOf n0 s0 * ((1 : Nat) : Int) + zOf n1 s1 * ((1 : Nat) : Int) = zOf n0 s0 + zOf n1 s1 from by omega, div_one', qI_int _ (hf _)]
   exact rsum_ones n0 n1 _ s0 s1 _ d0 d1 e0 e1 w h0
end Go.Proofs.YtafikdacdfkkhaaGreatDoor
namespace Go.Proofs.YtafikdacdfkkhaaGreatDoor
open Go.RowKit Go.Shelf

set_option maxRecDepth 100000 in
set_option maxHeartbeats 4000000 in
theorem rtimes_ones (n0 n1 xN : Bool) (s0 s1 xS d0 d1 : ByteArray) (h0 : (d0.toList == [1]) = true) (h : (d1.toList == [1]) = true) (w : World)
  (H1 : Hid (∀ w1, Calls Tryz.prog 108 #[.agg #[.bool n0, .string s0], .agg #[.bool n1, .string s1]] w1 fun e w' => e = .returned (.agg #[.bool xN, .string xS]) ∧ Below w1.heap.size w1 w')) :
  Calls Tryz.prog 79 #[.agg #[.bool n0, .string s0, .string d0], .agg #[.bool n1, .string s1, .string d1]] w fun e w' => e = .returned (.agg #[.bool xN, .string xS, .string ⟨#[1]⟩]) ∧ Below w.heap.size w w' := by
 go_enter Tryz.func79, Tryz.ntmps79
 go_wp2_with fail
 obtain ⟨w1, hw, ka, kb, kr, b1⟩ := mk3 w [.bool n0, .string s0, .string d0] [.bool n1, .string s1, .string d1] [.bool false, .string { data := #[] }, .string { data := #[] }] 26 26 26
 rw [← hw]
 clear hw
 have sz := b1.size
 have ta := ka.lt
 have tb := kb.lt
 have tr := kr.lt
 have bb := b1
 clear b1
 have ca_0 := cel3_0 ka
 have ca_1 := cel3_1 ka
 have ca_2 := cel3_2 ka
 have cb_3 := cel3_0 kb
 have cb_4 := cel3_1 kb
 have cb_5 := cel3_2 kb
 go_wp2_with fail
 clear ca_0 ca_1 ca_2 cb_3 cb_4 cb_5
 go_fit (H1.out _)
 rintro e w2 ⟨rfl, b1⟩
 have sz := b1.size
 replace ka := ka.below b1
 replace kb := kb.below b1
 replace kr := kr.below b1
 replace bb := Below.after bb b1
 clear b1
 have cr_0 := cel3_0 kr
 have fr_1 := Cel.frozen kr 0
 have cr_2 := cel3_1 kr
 have fr_3 := Cel.frozen kr 1
 have cr_4 := cel3_2 kr
 have fr_5 := Cel.frozen kr 2
 go_wp2
 exact post_q (p := 4) (by kernel_rfl) rfl rfl (((kr.set 0 _).set 1 _).set 2 _) ⟨rfl, bset (bset (bset bb (by omega) 0 _) (by omega) 1 _) (by omega) 2 _⟩

theorem rtimesq_any (n0 n1 : Bool) (s0 d0 s1 d1 : ByteArray) (w : World) (o0 : OkQ n0 s0 d0) (o1 : OkQ n1 s1 d1) {K : Nat} (hK : K ≤ 4000) (z0 : s0.size ≤ K) (y0 : d0.size ≤ K) (z1 : s1.size ≤ K) (y1 : d1.size ≤ K) :
  Calls Tryz.prog 79 #[.agg #[.bool n0, .string s0, .string d0], .agg #[.bool n1, .string s1, .string d1]] w fun e w' => e = .returned (qI (qOf n0 s0 d0 * qOf n1 s1 d1)) ∧ Below w.heap.size w w' := by
 obtain ⟨nf, sf, hf, hok, hsz, hz, hnat, hneg, hstr, hnn, hfn⟩ := named0
 obtain ⟨nq, sq, dq, hq, -⟩ := named3
 have h1 := fun w1 => rtimes_any n0 n1 s0 s1 w1 (by omega) (by omega)
 have h2 := fun w1 => rtimes_any false false d0 d1 w1 (by omega) (by omega)
 have key : qOf n0 s0 d0 * qOf n1 s1 d1 = Rat.divInt (zOf n0 s0 * zOf n1 s1) (zOf false d0 * zOf false d1) := by
  unfold qOf
  rw [zOf_false, zOf_false, ← Rat.divInt_mul_divInt, ← Rat.divInt_ofNat, ← Rat.divInt_ofNat]
 have hp : 0 < natOf (sf (zOf false d0 * zOf false d1)) := by
  rw [zOf_false, zOf_false, ← Int.natCast_mul, hnn]
  exact Nat.mul_pos o0.2.2.1 o1.2.2.1
 have hl := fun w1 => low_any (nf (zOf n0 s0 * zOf n1 s1)) (nf (zOf false d0 * zOf false d1)) (sf (zOf n0 s0 * zOf n1 s1)) (sf (zOf false d0 * zOf false d1)) w1 (hok _) (hok _) (Nat.le_trans (hsz _ _ ((bd_zOf z0).mul (bd_zOf z1))) (by omega)) (Nat.le_trans (hsz _ _ ((bd_zOf y0).mul (bd_zOf y1))) (by omega)) hp
 rw [key]
 simp only [hf] at h1 h2
 simp only [hz, hq] at hl
 rw [hq]
 cases e0 : (d0.toList == [1]) with
 | false => exact rtimes_walk0 n0 n1 _ _ _ s0 d0 s1 d1 _ _ _ _ e0 w h1 h2 hl
 | true =>
  cases e1 : (d1.toList == [1]) with
  | false => exact rtimes_walk1 n0 n1 _ _ _ s0 d0 s1 d1 _ _ _ _ e0 e1 w h1 h2 hl
  | true =>
   rw [← hq, zOf_false, zOf_false, one_of e0, one_of e1, show ((1 : Nat) : Int) * ((1 : Nat) : Int) = 1 from rfl, show Rat.divInt (zOf n0 s0 * zOf n1 s1) 1 = ((zOf n0 s0 * zOf n1 s1 : Int) : Rat) from (by first | (rw [show (1 : Int) = ((1 : Nat) : Int) from rfl, Rat.divInt_ofNat, Rat.mkRat_one]) | (rw [show (1 : Int) = ((1 : Nat) : Int) from rfl, Rat.divInt_ofNat]; exact Rat.ext (Q.mk_low (by omega) (by simp)).1 (Q.mk_low (by omega) (by simp)).2)), qI_int _ (hf _)]
   exact rtimes_ones n0 n1 _ s0 s1 _ d0 d1 e0 e1 w h1
end Go.Proofs.YtafikdacdfkkhaaGreatDoor
