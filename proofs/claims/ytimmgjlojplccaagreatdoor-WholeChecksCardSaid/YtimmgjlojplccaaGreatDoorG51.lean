/-
  Package whole: Gcd.
  gussetlaw02.WholeCommon.
-/
import Derived.Test.YtimmgjlojplccaaGreatDoorG49
import Derived.Test.YtimmgjlojplccaaGreatDoorG50
import Derived.Test.YtimmgjlojplccaaGreatDoorG25
import Derived.Test.YtimmgjlojplccaaGreatDoorG21
import Derived.Test.YtimmgjlojplccaaGreatDoorG44
import Derived.Test.YtimmgjlojplccaaGreatDoorG45
import Derived.Test.YtimmgjlojplccaaGreatDoorG26
namespace Go.Proofs.YtimmgjlojplccaaGreatDoor
open Go.RowKit Go.Shelf

theorem Below.of_grew2 {w w1 w2 w3 : World} {g0 g1 : Nat} (bb : Below w.heap.size w w1) (h2 : Grew2 g0 g1 w1.drew w2) (h3 : Below w2.heap.size w2 w3) (l0 : w.heap.size ≤ g0) (l1 : w.heap.size ≤ g1) : Below w.heap.size w w3 :=
  Below.after (Grew2.below (show Below w.heap.size w w1.drew from bb.drew) h2 bb.size l0 l1) h3
theorem nat_ltK {s : ByteArray} {K : Nat} (h : s.size ≤ 8 * K) : natOf s < B64 ^ K := by
  refine Nat.lt_of_lt_of_le (natOf_lt s) ?_
  rw [B64_pow]
  exact Nat.pow_le_pow_right (by omega) h
theorem digs_leK {s : ByteArray} {K : Nat} (h : s.size ≤ 8 * K) : (M.digs B64 (natOf s)).length ≤ K := M.digs_len_of_lt B64_two (nat_ltK h)
theorem gcd_le_max (a b : Nat) : Nat.gcd a b ≤ max a b := by
  rcases Nat.eq_zero_or_pos a with h | h
  · rw [h, Nat.gcd_zero_left]; omega
  · have := Nat.le_of_dvd h (Nat.gcd_dvd_left a b); omega

theorem gcd_ltK {s0 s1 : ByteArray} {K : Nat} (h0 : s0.size ≤ 8 * K) (h1 : s1.size ≤ 8 * K) : Nat.gcd (natOf s0) (natOf s1) < B64 ^ K := by
  have a := nat_ltK h0
  have b := nat_ltK h1
  have c := gcd_le_max (natOf s0) (natOf s1)
  generalize B64 ^ K = P at *
  omega

theorem tellG {s0 s1 : ByteArray} {K : Nat} (hK : K ≤ 4000) (h0 : s0.size ≤ 8 * K) (h1 : s1.size ≤ 8 * K) (v : Value) (wx : World) (hr : Rd wx v (M.digs B64 (Nat.gcd (natOf s0) (natOf s1)))) :
    Calls Tryz.prog 27 #[.agg #[.bool false, v]] wx fun e w' => e = .returned (zI (sgn false (Nat.gcd (natOf s0) (natOf s1)))) ∧ Below wx.heap.size wx w' := tell_dig false hK (gcd_ltK h0 h1) v wx hr

set_option maxRecDepth 100000 in
set_option maxHeartbeats 4000000 in
theorem zgcd_ok (n0 n1 : Bool) (s0 s1 : ByteArray) (w : World) (o0 : OkZ n0 s0) (o1 : OkZ n1 s1) (z0 : s0.size ≤ 32000) (z1 : s1.size ≤ 32000) (hT : Tab w) :
    Calls Tryz.prog 14 #[.agg #[.bool n0, .string s0], .agg #[.bool n1, .string s1]] w fun e w' => e = .returned (.tuple #[zI (Nat.gcd (natOf s0) (natOf s1) : Nat), .int .i64 0]) ∧ Below w.heap.size w w' := by
  have HT := shut (tellG (s0 := s0) (s1 := s1) (K := 4000) (by omega) (by omega) (by omega))
  have hz : sgn false (Nat.gcd (natOf s0) (natOf s1)) = ((Nat.gcd (natOf s0) (natOf s1) : Nat) : Int) := rfl
  rw [hz] at HT
  generalize hR : zI ((Nat.gcd (natOf s0) (natOf s1) : Nat) : Int) = R at *
  obtain ⟨za, zb, rfl⟩ : ∃ a b, R = .agg #[.bool a, .string b] := ⟨_, _, hR.symm⟩
  clear hR hz
  go_enter Tryz.func14, Tryz.ntmps14
  go_wp2_with fail
  obtain ⟨w0, hw0, k0, k1, k2, k3, hb0⟩ := boxes4 w (.bool n0) (.string s0) (.bool n1) (.string s1)
  rw [← hw0]
  clear hw0
  refine (read2_own _ n0 n1 s0 s1 w0 k3 o0 o1 z0 z1).mono ?_
  rintro e w1 ⟨g, g0, g1, m0, m1, rfl, kg, e0, e1, r0, r1, hg, hg0, hg1, hb⟩
  have c0 := kg.cell 0
  have c1 := kg.cell 1
  have c2 := kg.cell 2
  have c3 := kg.cell 3
  simp only [List.getElem?_cons_zero, List.getElem?_cons_succ] at c0 c1 c2 c3
  have lt2 := k2.lt
  have m2 := k2.below hb
  have bb := Below.after hb0 hb
  have d0 := digs_leK (s := s0) (K := 4000) (by omega)
  have d1 := digs_leK (s := s1) (K := 4000) (by omega)
  have H55 := shut (cdiv_any g0 g1 (natOf s0) (natOf s1) m0 m1 w1.drew e0 e1 (show Blk w1 _ _ from r0) (show Blk w1 _ _ from r1) (by omega) (by omega) (show Tab w1 from (hT.below hb0).below hb))
  have bs := hb0.size
  clear k0 k1 k2 k3 kg hT e0 e1 r0 r1 d0 d1
  go_wp2
  go_region_with (first | (go_at_call 31; refine (H55.out).mono ?_; rintro e w2 ⟨v, rfl, rv, hb2⟩; obtain ⟨av, cv, rfl, -, -⟩ := id rv) | (go_at_call 27; refine (HT.out _ w2 rv).mono ?_; rintro e w3 ⟨rfl, hb3⟩; have q2 := ((show Cel w1.drew _ _ _ from m2).grew2 hb2 (by omega) (by omega)).below hb3; have e0 := cel2_0 q2; have e1 := cel2_1 q2; have f0 := q2.frozen 0; have f1 := q2.frozen 1))
  all_goals try go_wp2
  all_goals refine post_z1 (p := 4) (u := 5) (by kernel_rfl) rfl rfl rfl ((q2.set 0 _).set 1 _) ⟨rfl, ((Below.of_grew2 bb hb2 hb3 (by omega) (by omega)).setCell (by simp; omega) _).setCell (by simp; omega) _⟩

set_option maxRecDepth 100000 in
set_option maxHeartbeats 2000000 in
theorem zgcd_bad (n0 n1 : Bool) (s0 s1 : ByteArray) (w : World) (hbad : two n0 s0 n1 s1 ≠ 0) :
    Calls Tryz.prog 14 #[.agg #[.bool n0, .string s0], .agg #[.bool n1, .string s1]] w fun e w' => e = .returned (.tuple #[zI 0, .int .i64 (two n0 s0 n1 s1 : Nat)]) ∧ Below w.heap.size w w' := by
  have HR := shut (fun B wx hB => read2_bad B n0 n1 s0 s1 wx hB hbad)
  rw [zI_zero]
  generalize two n0 s0 n1 s1 = c at *
  have hbad' : ¬ (c : Int) = 0 := by omega
  go_enter Tryz.func14, Tryz.ntmps14
  go_wp2_with fail
  obtain ⟨w0, hw0, k0, k1, k2, k3, hb0⟩ := boxes4 w (.bool n0) (.string s0) (.bool n1) (.string s1)
  rw [← hw0]
  clear hw0
  refine (HR.out _ w0 k3).mono ?_
  rintro e w1 ⟨rfl, hb⟩
  have m2 := k2.below hb
  have bb := Below.after hb0 hb
  have e0 := cel2_0 m2
  have e1 := cel2_1 m2
  have f0 := m2.frozen 0
  have f1 := m2.frozen 1
  go_wp2
  exact post_z1 (p := 4) (u := 5) (by kernel_rfl) rfl rfl rfl ((m2.set 0 _).set 1 _) ⟨rfl, (bb.setCell (by simp; omega) _).setCell (by simp; omega) _⟩

theorem zgcd_any (n0 n1 : Bool) (s0 s1 : ByteArray) (w : World) (z0 : s0.size ≤ 32000) (z1 : s1.size ≤ 32000) (hT : Tab w) :
    Calls Tryz.prog 14 #[.agg #[.bool n0, .string s0], .agg #[.bool n1, .string s1]] w fun e w' => e = .returned (.tuple #[zI (if two n0 s0 n1 s1 = 0 then ((Nat.gcd (natOf s0) (natOf s1) : Nat) : Int) else 0), .int .i64 (two n0 s0 n1 s1 : Nat)]) ∧ Below w.heap.size w w' := by
  by_cases h : two n0 s0 n1 s1 = 0
  · rw [if_pos h, h]
    exact zgcd_ok n0 n1 s0 s1 w (chk_zero (two_zero.1 h).1).2 (chk_zero (two_zero.1 h).2).2 z0 z1 hT
  · rw [if_neg h]
    exact zgcd_bad n0 n1 s0 s1 w h
end Go.Proofs.YtimmgjlojplccaaGreatDoor
namespace Go.Proofs.YtimmgjlojplccaaGreatDoor
open Go.RowKit Go.Shelf

set_option maxRecDepth 100000 in
set_option maxHeartbeats 4000000 in
/-- Both are 0: there is no divisor above 0. -/
theorem common_zero (w : World)
    (HL : Hid (∀ wl, Below w.heap.size w wl → Calls Tryz.prog 7 #[] wl fun e w' => e = .returned (.bool true) ∧ Below wl.heap.size wl w'))
    (H0 : Hid (∀ w1, Below w.heap.size w w1 → Calls Tryz.prog 8 #[.agg #[.bool false, .string { data := #[] }], .agg #[.bool false, .string { data := #[] }]] w1 fun e w' => e = .returned (.int .i64 0) ∧ Below w1.heap.size w1 w'))
    (H1 : Hid (∀ w1, Below w.heap.size w w1 → Calls Tryz.prog 14 #[.agg #[.bool false, .string { data := #[] }], .agg #[.bool false, .string { data := #[] }]] w1 fun e w' => e = .returned (.tuple #[.agg #[.bool false, .string { data := #[] }], .int .i64 0]) ∧ Below w1.heap.size w1 w'))
    (H2 : Hid (∀ w1, Below w.heap.size w w1 → Calls Tryz.prog 18 #[.agg #[.bool false, .string { data := #[] }], .agg #[.bool false, .string { data := #[] }]] w1 fun e w' => e = .returned (.agg #[.bool false, .string { data := #[] }]) ∧ Below w1.heap.size w1 w')) :
    Calls Tryz.prog 4 #[.agg #[.bool false, .string { data := #[] }], .agg #[.bool false, .string { data := #[] }]] w fun e w' => e = .returned (.bool true) ∧ Below w.heap.size w w' := by
  go_enter Tryz.func4, Tryz.ntmps4
  go_wp2_with fail
  obtain ⟨w0, hw0, ka, kb, bb⟩ := bx2 w (.bool false) (.string { data := #[] }) (.bool false) (.string { data := #[] })
  rw [← hw0]
  clear hw0
  refine (H0.out w0 bb).mono ?_
  rintro e w1 ⟨rfl, b1⟩
  replace ka := ka.below b1
  replace kb := kb.below b1
  replace bb := Below.after bb b1
  clear b1
  have ca0 := cel2_0' ka
  have ca1 := cel2_1' ka
  have cb0 := cel2_0' kb
  have cb1 := cel2_1' kb
  go_wp2_with fail
  clear ca0 ca1 cb0 cb1
  refine (H1.out w1 bb).mono ?_
  rintro e w2 ⟨rfl, b1⟩
  replace ka := ka.below b1
  replace kb := kb.below b1
  replace bb := Below.after bb b1
  clear b1
  obtain ⟨w3, hw, kg, b1⟩ := bx1 w2 (.bool false) (.string { data := #[] })
  replace ka := ka.below b1
  replace kb := kb.below b1
  replace bb := Below.after bb b1
  clear b1
  have ca0 := cel2_0' ka
  have ca1 := cel2_1' ka
  have cb0 := cel2_0' kb
  have cb1 := cel2_1' kb
  have cg0 := cel2_0' kg
  have cg1 := cel2_1' kg
  rw [hw] at ca0 ca1 cb0 cb1 cg0 cg1
  go_wp2_with fail
  rw [← hw]
  clear hw ca0 ca1 cb0 cb1 cg0 cg1
  go_region_held3 (fun w' => w'.cell? ⟨w.heap.size, 0, none⟩ = some (.bool false) ∧ w'.cell? ⟨w.heap.size, 1, none⟩ = some (.string { data := #[] }) ∧ w'.cell? ⟨w.heap.size + 1, 0, none⟩ = some (.bool false) ∧ w'.cell? ⟨w.heap.size + 1, 1, none⟩ = some (.string { data := #[] }) ∧ w'.cell? ⟨w2.heap.size, 0, none⟩ = some (.bool false) ∧ w'.cell? ⟨w2.heap.size, 1, none⟩ = some (.string { data := #[] })) (exact ⟨cel2_0' ka, cel2_1' ka, cel2_0' kb, cel2_1' kb, cel2_0' kg, cel2_1' kg⟩) (first | (go_at_call 18; refine (H2.out _ ?_).mono ?_; (first | exact bb | exact bb.drew); rintro e wn ⟨rfl, bn⟩; replace ka := ka.below ⟨bn.os, bn.tape, bn.output, bn.size, bn.block⟩; replace kb := kb.below ⟨bn.os, bn.tape, bn.output, bn.size, bn.block⟩; replace kg := kg.below ⟨bn.os, bn.tape, bn.output, bn.size, bn.block⟩; replace bb := Below.after bb ⟨bn.os, bn.tape, bn.output, bn.size, bn.block⟩))
  have ca0 := cel2_0' ka
  have ca1 := cel2_1' ka
  have cb0 := cel2_0' kb
  have cb1 := cel2_1' kb
  have cg0 := cel2_0' kg
  have cg1 := cel2_1' kg
  go_wp2_with fail
  refine (HL.out _ bb).mono ?_
  rintro e w9 ⟨rfl, b1⟩
  replace bb := Below.after bb b1
  clear b1
  go_wp2
  go_ret
  exact ⟨rfl, bb⟩

set_option maxRecDepth 100000 in
set_option maxHeartbeats 4000000 in
theorem common_bad (n0 n1 : Bool) (s0 s1 : ByteArray) (w : World) (hT : Tab w) (h : ¬ (s0.size ≤ 200 ∧ s1.size ≤ 200 ∧ two n0 s0 n1 s1 = 0)) :
    Calls Tryz.prog 4 #[.agg #[.bool n0, .string s0], .agg #[.bool n1, .string s1]] w fun e w' => e = .returned (.bool true) ∧ Below w.heap.size w w' := by
  have HL := shut (fun wl (bl : Below w.heap.size w wl) => live2_any wl (hT.below bl))
  clear hT
  by_cases z0 : s0.size ≤ 200
  · by_cases z1 : s1.size ≤ 200
    · have hc : ¬ ((two n0 s0 n1 s1 : Nat) : Int) = 0 := fun e => h ⟨z0, z1, by omega⟩
      have i0 : ¬ (200 : Int) < s0.size := by omega
      have i1 : ¬ (200 : Int) < s1.size := by omega
      clear h
      go_enter Tryz.func4, Tryz.ntmps4
      go_wp2_with fail
      obtain ⟨w0, hw0, ka, kb, bb⟩ := bx2 w (.bool n0) (.string s0) (.bool n1) (.string s1)
      rw [← hw0]
      clear hw0
      refine (rboth_any n0 n1 s0 s1 w0).mono ?_
      rintro e w1 ⟨rfl, b1⟩
      generalize ((two n0 s0 n1 s1 : Nat) : Int) = E at *
      have hE : (E != 0) = true := by simpa using hc
      replace bb := Below.after bb b1
      clear b1
      go_wp2_with fail
      refine (HL.out w1 bb).mono ?_
      rintro e w7 ⟨rfl, b1⟩
      replace bb := Below.after bb b1
      clear b1
      go_wp2
      go_ret
      exact ⟨rfl, bb⟩
    · have i0 : ¬ (200 : Int) < s0.size := by omega
      have i1 : (200 : Int) < s1.size := by omega
      clear h
      go_enter Tryz.func4, Tryz.ntmps4
      go_wp2_with fail
      obtain ⟨w0, hw0, ka, kb, bb⟩ := bx2 w (.bool n0) (.string s0) (.bool n1) (.string s1)
      rw [← hw0]
      clear hw0
      refine (HL.out w0 bb).mono ?_
      rintro e w7 ⟨rfl, b1⟩
      replace bb := Below.after bb b1
      clear b1
      go_wp2
      go_ret
      exact ⟨rfl, bb⟩
  · have i0 : (200 : Int) < s0.size := by omega
    clear h
    go_enter Tryz.func4, Tryz.ntmps4
    go_wp2_with fail
    obtain ⟨w0, hw0, ka, kb, bb⟩ := bx2 w (.bool n0) (.string s0) (.bool n1) (.string s1)
    rw [← hw0]
    clear hw0
    refine (HL.out w0 bb).mono ?_
    rintro e w7 ⟨rfl, b1⟩
    replace bb := Below.after bb b1
    clear b1
    go_wp2
    go_ret
    exact ⟨rfl, bb⟩

theorem okz_zero {n : Bool} {s : ByteArray} (o : OkZ n s) (h : natOf s = 0) : n = false ∧ s = ⟨#[]⟩ := by
  have hs : ¬ 0 < s.size := fun e => by have := natOf_pos o.1 e; omega
  refine ⟨?_, ?_⟩
  · cases n with
    | false => rfl
    | true => exact absurd (o.2 rfl) hs
  · obtain ⟨⟨l⟩⟩ := s
    cases l with
    | nil => rfl
    | cons x l => exact absurd (show 0 < (ByteArray.mk ⟨x :: l⟩).size by show 0 < (x :: l).length; simp) hs
theorem okz_zero_size {n : Bool} {s : ByteArray} (_o : OkZ n s) (h : s.size = 0) : natOf s = 0 := by
  have := natOf_lt s
  rw [h] at this
  omega
theorem zdiv_exact (n : Bool) (s : ByteArray) {G : Nat} (hG : 0 < G) (hd : G ∣ natOf s) : zOf n s % (G : Int) = 0 ∧ (zOf n s / (G : Int)).natAbs = natOf s / G := by
  obtain ⟨k, hk⟩ := hd
  have hne : (G : Int) ≠ 0 := by omega
  rw [hk, Nat.mul_div_cancel_left k hG]
  cases n with
  | false =>
    have e : zOf false s = (G : Int) * k := by simp [zOf, hk]
    rw [e, Int.mul_ediv_cancel_left _ hne]
    exact ⟨Int.mul_emod_right _ _, by simp⟩
  | true =>
    have e : zOf true s = (G : Int) * (-(k : Int)) := by simp [zOf, hk, Int.mul_neg]
    rw [e, Int.mul_ediv_cancel_left _ hne]
    exact ⟨Int.mul_emod_right _ _, by simp⟩

theorem gcd_quot {A B G : Nat} (hG : G = Nat.gcd A B) (h : 0 < G) : Nat.gcd (A / G) (B / G) = 1 := by
  obtain ⟨a, ha⟩ : G ∣ A := by rw [hG]; exact Nat.gcd_dvd_left _ _
  obtain ⟨b, hb⟩ : G ∣ B := by rw [hG]; exact Nat.gcd_dvd_right _ _
  rw [ha, hb, Nat.gcd_mul_left] at hG
  rw [ha, hb, Nat.mul_div_cancel_left a h, Nat.mul_div_cancel_left b h]
  have e : G * Nat.gcd a b = G * 1 := by rw [Nat.mul_one]; exact hG.symm
  exact Nat.eq_of_mul_eq_mul_left h e
theorem bd_gcd {s0 s1 : ByteArray} {k G : Nat} (hG : G = Nat.gcd (natOf s0) (natOf s1)) (h0 : s0.size ≤ k) (h1 : s1.size ≤ k) : Bd (G : Int) k := by
  have a := bd_zOf (n := false) h0
  have b := bd_zOf (n := false) h1
  have c := gcd_le_max (natOf s0) (natOf s1)
  unfold Bd at *
  rw [natAbs_zOf] at a b
  rw [Int.natAbs_natCast, hG]
  generalize 256 ^ k = P at *
  omega
theorem bd_quot {n : Bool} {s : ByteArray} {k G : Nat} (hG : 0 < G) (hd : G ∣ natOf s) (h : s.size ≤ k) : Bd (zOf n s / (G : Int)) k := by
  have a := bd_zOf (n := n) h
  unfold Bd at *
  rw [natAbs_zOf] at a
  rw [(zdiv_exact n s hG hd).2]
  exact Nat.lt_of_le_of_lt (Nat.div_le_self _ _) a

theorem common_law (n0 n1 : Bool) (s0 s1 : ByteArray) (w : World) (hT : Tab w) :
    Calls Tryz.prog 4 #[.agg #[.bool n0, .string s0], .agg #[.bool n1, .string s1]] w fun e w' => e = .returned (.bool true) ∧ Below w.heap.size w w' := by
  by_cases hb : s0.size ≤ 200 ∧ s1.size ≤ 200 ∧ two n0 s0 n1 s1 = 0
  · obtain ⟨z0, z1, h2⟩ := hb
    have o0 : OkZ n0 s0 := (chk_zero (two_zero.1 h2).1).2
    have o1 : OkZ n1 s1 := (chk_zero (two_zero.1 h2).2).2
    have HL := shut (fun wl (bl : Below w.heap.size w wl) => live2_any wl (hT.below bl))
    have H0 : Hid (∀ w1, Below w.heap.size w w1 → Calls Tryz.prog 8 #[.agg #[.bool n0, .string s0], .agg #[.bool n1, .string s1]] w1 fun e w' => e = .returned (.int .i64 0) ∧ Below w1.heap.size w1 w') := by
      intro w1 _
      have := rboth_any n0 n1 s0 s1 w1
      rw [h2] at this
      exact this
    obtain ⟨G, hG⟩ : ∃ G, G = Nat.gcd (natOf s0) (natOf s1) := ⟨_, rfl⟩
    have H1 : Hid (∀ w1, Below w.heap.size w w1 → Calls Tryz.prog 14 #[.agg #[.bool n0, .string s0], .agg #[.bool n1, .string s1]] w1 fun e w' => e = .returned (.tuple #[zI ((G : Nat) : Int), .int .i64 0]) ∧ Below w1.heap.size w1 w') := by
      intro w1 b1
      rw [hG]
      exact zgcd_ok n0 n1 s0 s1 w1 o0 o1 (by omega) (by omega) (hT.below b1)
    have H2 : Hid (∀ w1, Below w.heap.size w w1 → Calls Tryz.prog 18 #[.agg #[.bool n0, .string s0], .agg #[.bool n1, .string s1]] w1 fun e w' => e = .returned (zI ((G : Nat) : Int)) ∧ Below w1.heap.size w1 w') := by
      intro w1 _
      rw [hG]
      exact rcommon_any n0 n1 s0 s1 w1 (by omega) (by omega)
    by_cases hG0 : G = 0
    · have hz : natOf s0 = 0 ∧ natOf s1 = 0 := Nat.gcd_eq_zero_iff.1 (by rw [← hG]; exact hG0)
      obtain ⟨rfl, rfl⟩ := okz_zero o0 hz.1
      obtain ⟨rfl, rfl⟩ := okz_zero o1 hz.2
      rw [hG0, show (((0 : Nat) : Int)) = 0 from rfl, zI_zero] at H1 H2
      exact common_zero w HL H0 H1 H2
    · obtain ⟨nf, sf, hf, hok, hsz, hz, hback, hn0, hs0⟩ := named
      have hGp : 0 < G := by omega
      have d0 : G ∣ natOf s0 := by rw [hG]; exact Nat.gcd_dvd_left _ _
      have d1 : G ∣ natOf s1 := by rw [hG]; exact Nat.gcd_dvd_right _ _
      have nat : ∀ z, natOf (sf z) = z.natAbs := fun z => by rw [← natAbs_zOf (nf z), hz]
      have bG : (sf (G : Int)).size ≤ 200 := hsz _ _ (bd_gcd hG z0 z1)
      have bX : (sf (zOf n0 s0 / (G : Int))).size ≤ 200 := hsz _ _ (bd_quot hGp d0 z0)
      have bY : (sf (zOf n1 s1 / (G : Int))).size ≤ 200 := hsz _ _ (bd_quot hGp d1 z1)
      have nG : natOf (sf (G : Int)) = G := by rw [nat]; rfl
      rw [hf] at H1 H2
      have e0 := zdiv_exact n0 s0 hGp d0
      have e1 := zdiv_exact n1 s1 hGp d1
      refine common_walk n0 n1 (nf G) (nf (zOf n0 s0 / (G : Int))) (nf (zOf n1 s1 / (G : Int))) (nf 1) s0 s1 (sf G) (sf (zOf n0 s0 / (G : Int))) (sf (zOf n1 s1 / (G : Int))) (sf 1) w z0 z1 ?_ HL H0 H1 H2 ?_ ?_ ?_ ?_
      · intro e
        have := (okz_zero_size (hok (G : Int)) e)
        omega
      · intro w1 _
        have := zdiv_ok n0 (nf G) s0 (sf G) w1 o0 (hok G) (by omega) (by omega) (by omega)
        rw [hz, e0.1, hf, zI_zero] at this
        exact this
      · intro w1 _
        have := zdiv_ok n1 (nf G) s1 (sf G) w1 o1 (hok G) (by omega) (by omega) (by omega)
        rw [hz, e1.1, hf, zI_zero] at this
        exact this
      · intro w1 b1
        have := zgcd_ok (nf (zOf n0 s0 / (G : Int))) (nf (zOf n1 s1 / (G : Int))) (sf (zOf n0 s0 / (G : Int))) (sf (zOf n1 s1 / (G : Int))) w1 (hok _) (hok _) (by omega) (by omega) (hT.below b1)
        rw [nat, nat, e0.2, e1.2, gcd_quot hG hGp, show (((1 : Nat) : Int)) = 1 from rfl, hf 1] at this
        exact this
      · intro w1 _
        have := rof_any 1 (by omega) (by omega) w1
        rwa [hf 1] at this
  · exact common_bad n0 n1 s0 s1 w hT hb
end Go.Proofs.YtimmgjlojplccaaGreatDoor
