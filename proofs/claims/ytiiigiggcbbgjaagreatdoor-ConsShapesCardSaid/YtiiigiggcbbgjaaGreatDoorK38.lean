/-
  Package whole: Gcd.
  Package rat: divisor, cut.
  Package rat: Check.
  Package rat: check, of two numbers.
  Package long: the contracts of numbers that are not long.
  Blocks by what stands at each place; package vec: cleared.
  Package long: Over.
-/
import Derived.Test.YtiiigiggcbbgjaaGreatDoorK34
import Derived.Test.YtiiigiggcbbgjaaGreatDoorK35
import Derived.Test.YtiiigiggcbbgjaaGreatDoorK36
import Derived.Test.YtiiigiggcbbgjaaGreatDoorK37
import Derived.Test.YtiiigiggcbbgjaaGreatDoorK52
set_option maxRecDepth 100000
set_option maxHeartbeats 8000000
namespace Go.Proofs.YtiiigiggcbbgjaaGreatDoor
open Go.RowKit Go.Shelf
theorem Below.of_grew2 {w w1 w2 w3 : World} {g0 g1 : Nat} (bb : Below w.heap.size w w1) (h2 : Grew2 g0 g1 w1.drew w2) (h3 : Below w2.heap.size w2 w3) (l0 : w.heap.size ≤ g0) (l1 : w.heap.size ≤ g1) : Below w.heap.size w w3 :=
 Below.after (Grew2.below (show Below w.heap.size w w1.drew from bb.drew) h2 bb.size l0 l1) h3
theorem nat_ltK {s : ByteArray} {K : Nat} (h : s.size ≤ 8 * K) : natOf s < B64 ^ K := by
 refine Nat.lt_of_lt_of_le (natOf_lt s) ?_
 rw [B64_pow]
 exact Nat.pow_le_pow_right (by omega) h
theorem digs_leK {s : ByteArray} {K : Nat} (h : s.size ≤ 8 * K) : (M.digs B64 (natOf s)).length ≤ K := M.digs_len_of_lt B64_two (nat_ltK h)
theorem gcd_le_max (a b : Nat) : Nat.gcd a b ≤ max a b := by
 rcases Nat.eq_zero_or_pos a with h | h
 ·rw [h, Nat.gcd_zero_left]; omega
 ·have := Nat.le_of_dvd h (Nat.gcd_dvd_left a b); omega
theorem gcd_ltK {s0 s1 : ByteArray} {K : Nat} (h0 : s0.size ≤ 8 * K) (h1 : s1.size ≤ 8 * K) : Nat.gcd (natOf s0) (natOf s1) < B64 ^ K := by
 have a := nat_ltK h0
 have b := nat_ltK h1
 have c := gcd_le_max (natOf s0) (natOf s1)
 generalize B64 ^ K = P at *
 omega
theorem tellG {s0 s1 : ByteArray} {K : Nat} (hK : K ≤ 4000) (h0 : s0.size ≤ 8 * K) (h1 : s1.size ≤ 8 * K) (v : Value) (wx : World) (hr : Rd wx v (M.digs B64 (Nat.gcd (natOf s0) (natOf s1)))) :
  Calls Tryz.prog 170 #[.agg #[.bool false, v]] wx (Re wx (zI (sgn false (Nat.gcd (natOf s0) (natOf s1))))) := tell_dig false hK (gcd_ltK h0 h1) v wx hr
theorem zgcd_ok (n0 n1 : Bool) (s0 s1 : ByteArray) (w : World) (o0 : OkZ n0 s0) (o1 : OkZ n1 s1) (z0 : s0.size ≤ 32000) (z1 : s1.size ≤ 32000) (hT : Tab w) :
  Calls Tryz.prog 136 #[.agg #[.bool n0, .string s0], .agg #[.bool n1, .string s1]] w (Re w (.tuple #[zI (Nat.gcd (natOf s0) (natOf s1) : Nat), .int .i64 0])) := by
 have HT := shut (tellG (s0 := s0) (s1 := s1) (K := 4000) (by omega) (by omega) (by omega))
 have hz : sgn false (Nat.gcd (natOf s0) (natOf s1)) = ((Nat.gcd (natOf s0) (natOf s1) : Nat) : Int) := rfl
 rw [hz] at HT
 generalize hR : zI ((Nat.gcd (natOf s0) (natOf s1) : Nat) : Int) = R at *
 obtain ⟨za, zb, rfl⟩ : ∃ a b, R = .agg #[.bool a, .string b] := ⟨_, _, hR.symm⟩
 clear hR hz
 go_enter Tryz.func136, Tryz.ntmps136
 go_wp2_with fail
 obtain ⟨w0, hw0, k0, k1, k2, k3, hb0⟩ := boxes4 w (.bool n0) (.string s0) (.bool n1) (.string s1)
 rw [← hw0]
 clear hw0
 refine (read2_own _ n0 n1 s0 s1 w0 k3 o0 o1 z0 z1).mono ?_
 rintro e w1 ⟨g, g0, g1, m0, m1, rfl, kg, e0, e1, r0, r1, hg, hg0, hg1, hb⟩
 have c0 := kg.cell 0
 have c1 := kg.cell 1
 have c2 := kg.cell 2
 have c3 := kg.cell 3
 simp only [List.getElem?_cons_zero, List.getElem?_cons_succ] at c0 c1 c2 c3
 have lt2 := k2.lt
 have m2 := k2.below hb
 have bb := Below.after hb0 hb
 have d0 := digs_leK (s := s0) (K := 4000) (by omega)
 have d1 := digs_leK (s := s1) (K := 4000) (by omega)
 have H55 := shut (cdiv_any g0 g1 (natOf s0) (natOf s1) m0 m1 w1.drew e0 e1 (show Blk w1 _ _ from r0) (show Blk w1 _ _ from r1) (by omega) (by omega) (show Tab w1 from (hT.below hb0).below hb))
 have bs := hb0.size
 clear k0 k1 k2 k3 kg hT e0 e1 r0 r1 d0 d1
 go_wp2
 go_region_with (first | (go_at_call 171; refine (H55.out).mono ?_; rintro e w2 ⟨v, rfl, rv, hb2⟩; obtain ⟨av, cv, rfl, -, -⟩ := id rv) | (go_at_call 170; refine (HT.out _ w2 rv).mono ?_; rintro e w3 ⟨rfl, hb3⟩; have q2 := ((show Cel w1.drew _ _ _ from m2).grew2 hb2 (by omega) (by omega)).below hb3; have e0 := cel2_0 q2; have e1 := cel2_1 q2; have f0 := q2.frozen 0; have f1 := q2.frozen 1))
 all_goals try go_wp2
 all_goals refine post_z1 (p := 4) (u := 5) (by kernel_rfl) rfl rfl rfl ((q2.set 0 _).set 1 _) ⟨rfl, ((Below.of_grew2 bb hb2 hb3 (by omega) (by omega)).setCell (by simp; omega) _).setCell (by simp; omega) _⟩
open Go.RowKit
theorem divisor_plain (n0 n1 : Bool) (s0 s1 : ByteArray) (w : World) (o0 : OkZ n0 s0) (o1 : OkZ n1 s1) (z0 : s0.size ≤ 32000) (z1 : s1.size ≤ 32000) (hT : Tab w) (hne0 : s0 ≠ ⟨#[1]⟩) (hne : s1 ≠ ⟨#[1]⟩) :
  Calls Tryz.prog 104 #[.agg #[.bool n0, .string s0], .agg #[.bool n1, .string s1]] w (Re w (zI ((Nat.gcd (natOf s0) (natOf s1) : Nat) : Int))) := by
 have HA := shut (fun w hT => zgcd_ok n0 n1 s0 s1 w o0 o1 z0 z1 hT)
 generalize hR : zI ((Nat.gcd (natOf s0) (natOf s1) : Nat) : Int) = R at *
 obtain ⟨za, zb, rfl⟩ : ∃ a b, R = .agg #[.bool a, .string b] := ⟨_, _, hR.symm⟩
 clear hR
 have hne0 := ne1 hne0
 have hne := ne1 hne
 go_enter Tryz.func104, Tryz.ntmps104
 go_wp2_with fail
 go_fit (HA.out _ (hT.below (ba (ba (ba (Below.refl _ _) _) _) _)))
 rintro e w1 ⟨rfl, b1⟩
 obtain ⟨ka, kb, kr, b1⟩ := al3 b1
 have bb := b1
 clear b1
 have cr_0 := cel2_0' (kr.alloc (.cells #[.bool za, .string zb] 24))
 have fr_1 := Cel.frozen (kr.alloc (.cells #[.bool za, .string zb] 24)) 0
 have cr_2 := cel2_1' (kr.alloc (.cells #[.bool za, .string zb] 24))
 have fr_3 := Cel.frozen (kr.alloc (.cells #[.bool za, .string zb] 24)) 1
 go_wp2
 have kr' := (kr.alloc (.cells #[.bool za, .string zb] 24))
 exact post_z (p := 4) (by kernel_rfl) rfl rfl ((kr'.set 0 _).set 1 _) ⟨rfl, (Below.setCell (ba bb _) (by simp; omega) _).setCell (by simp; omega) _⟩
theorem divisor_l (n0 n1 : Bool) (s1 : ByteArray) (w : World) :
  Calls Tryz.prog 104 #[.agg #[.bool n0, .string ⟨#[1]⟩], .agg #[.bool n1, .string s1]] w (Re w (.agg #[.bool false, .string ⟨#[1]⟩])) := by
 go_enter Tryz.func104, Tryz.ntmps104
 go_wp2
 obtain ⟨w0, hw, k0, k1, k2, b⟩ := mk3 w [.bool n0, .string ⟨#[1]⟩] [.bool n1, .string s1] [.bool false, .string ⟨#[1]⟩] 24 24 24
 rw [← hw]
 exact post_z (p := 4) (by kernel_rfl) rfl rfl k2 ⟨rfl, b⟩
theorem divisor_r (n0 n1 : Bool) (s0 : ByteArray) (w : World) (hne : s0 ≠ ⟨#[1]⟩) :
  Calls Tryz.prog 104 #[.agg #[.bool n0, .string s0], .agg #[.bool n1, .string ⟨#[1]⟩]] w (Re w (.agg #[.bool false, .string ⟨#[1]⟩])) := by
 have hne := ne1 hne
 go_enter Tryz.func104, Tryz.ntmps104
 go_wp2
 obtain ⟨w0, hw, k0, k1, k2, b⟩ := mk3 w [.bool n0, .string s0] [.bool n1, .string ⟨#[1]⟩] [.bool false, .string ⟨#[1]⟩] 24 24 24
 rw [← hw]
 exact post_z (p := 4) (by kernel_rfl) rfl rfl k2 ⟨rfl, b⟩
theorem divisor_ok (n0 n1 : Bool) (s0 s1 : ByteArray) (w : World) (o0 : OkZ n0 s0) (o1 : OkZ n1 s1) (z0 : s0.size ≤ 32000) (z1 : s1.size ≤ 32000) (hT : Tab w) :
  Calls Tryz.prog 104 #[.agg #[.bool n0, .string s0], .agg #[.bool n1, .string s1]] w (Re w (zI ((Nat.gcd (natOf s0) (natOf s1) : Nat) : Int))) := by
 by_cases h0 : s0 = ⟨#[1]⟩
 ·subst h0
  rw [natOf_one, Nat.gcd_one_left, show (((1 : Nat) : Int)) = 1 from rfl, zI_one]
  exact divisor_l n0 n1 s1 w
 ·by_cases h1 : s1 = ⟨#[1]⟩
  ·subst h1
   rw [natOf_one, Nat.gcd_one_right, show (((1 : Nat) : Int)) = 1 from rfl, zI_one]
   exact divisor_r n0 n1 s0 w h0
  ·exact divisor_plain n0 n1 s0 s1 w o0 o1 z0 z1 hT h0 h1
theorem cut_plain (n0 : Bool) (s0 s1 : ByteArray) (w : World) (o0 : OkZ n0 s0) (o1 : OkS s1) (z0 : s0.size ≤ 16000) (z1 : s1.size ≤ 16000) (hp : 0 < natOf s1) (hne : s1 ≠ ⟨#[1]⟩) :
  Calls Tryz.prog 105 #[.agg #[.bool n0, .string s0], .agg #[.bool false, .string s1]] w (Re w (zI (zOf n0 s0 / (natOf s1 : Int)))) := by
 have HA := shut (fun w => zdiv_ok n0 false s0 s1 w o0 ⟨o1, fun h => by cases h⟩ z0 z1 hp)
 rw [show zOf false s1 = (natOf s1 : Int) from rfl] at HA
 generalize hR : zI (zOf n0 s0 / (natOf s1 : Int)) = R at *
 obtain ⟨za, zb, rfl⟩ : ∃ a b, R = .agg #[.bool a, .string b] := ⟨_, _, hR.symm⟩
 clear hR
 generalize hR : zI (zOf n0 s0 % (natOf s1 : Int)) = R at *
 obtain ⟨zc, zd, rfl⟩ : ∃ a b, R = .agg #[.bool a, .string b] := ⟨_, _, hR.symm⟩
 clear hR
 have hne := ne1 hne
 go_enter Tryz.func105, Tryz.ntmps105
 go_wp2_with fail
 go_fit (HA.out _)
 rintro e w1 ⟨rfl, b1⟩
 obtain ⟨ka, kb, kr, b1⟩ := al3 b1
 have bb := b1
 clear b1
 have cr_0 := cel2_0' (kr.alloc (.cells #[.bool za, .string zb] 24))
 have fr_1 := Cel.frozen (kr.alloc (.cells #[.bool za, .string zb] 24)) 0
 have cr_2 := cel2_1' (kr.alloc (.cells #[.bool za, .string zb] 24))
 have fr_3 := Cel.frozen (kr.alloc (.cells #[.bool za, .string zb] 24)) 1
 have cr_4 := cel2_0' ((kr.alloc (.cells #[.bool za, .string zb] 24)).alloc (.cells #[.bool zc, .string zd] 24))
 have fr_5 := Cel.frozen ((kr.alloc (.cells #[.bool za, .string zb] 24)).alloc (.cells #[.bool zc, .string zd] 24)) 0
 have cr_6 := cel2_1' ((kr.alloc (.cells #[.bool za, .string zb] 24)).alloc (.cells #[.bool zc, .string zd] 24))
 have fr_7 := Cel.frozen ((kr.alloc (.cells #[.bool za, .string zb] 24)).alloc (.cells #[.bool zc, .string zd] 24)) 1
 go_wp2
 have kr' := ((kr.alloc (.cells #[.bool za, .string zb] 24)).alloc (.cells #[.bool zc, .string zd] 24))
 exact post_z (p := 4) (by kernel_rfl) rfl rfl ((kr'.set 0 _).set 1 _) ⟨rfl, (Below.setCell (ba (ba bb _) _) (by simp; omega) _).setCell (by simp; omega) _⟩
theorem cut_one (n0 : Bool) (s0 : ByteArray) (w : World) :
  Calls Tryz.prog 105 #[.agg #[.bool n0, .string s0], .agg #[.bool false, .string ⟨#[1]⟩]] w (Re w (.agg #[.bool n0, .string s0])) := by
 go_enter Tryz.func105, Tryz.ntmps105
 go_wp2
 obtain ⟨w0, hw, k0, k1, k2, b⟩ := mk3 w [.bool n0, .string s0] [.bool false, .string ⟨#[1]⟩] [.bool n0, .string s0] 24 24 24
 rw [← hw]
 exact post_z (p := 4) (by kernel_rfl) rfl rfl k2 ⟨rfl, b⟩
theorem cut_ok (n0 : Bool) (s0 s1 : ByteArray) (w : World) (o0 : OkZ n0 s0) (o1 : OkS s1) (z0 : s0.size ≤ 16000) (z1 : s1.size ≤ 16000) (hp : 0 < natOf s1) :
  Calls Tryz.prog 105 #[.agg #[.bool n0, .string s0], .agg #[.bool false, .string s1]] w (Re w (zI (zOf n0 s0 / (natOf s1 : Int)))) := by
 by_cases h : s1 = ⟨#[1]⟩
 ·subst h
  rw [natOf_one, show (((1 : Nat) : Int)) = 1 from rfl, Int.ediv_one, ← zV_ok o0]
  exact cut_one n0 s0 w
 ·exact cut_plain n0 s0 s1 w o0 o1 z0 z1 hp h
theorem fld1 (n : Bool) (s : ByteArray) (w : World) : (Instr.field 24 (.agg #[.bool n, .string s]) 1).run Tryz.prog w = .ok (.string s) w := by kernel_rfl
theorem rchk_long (n : Bool) (s d : ByteArray) (w : World)
  (HL : Hid (∀ (B : Nat) (w : World) (_ : Cel w B [.string s, .string d] 22), Calls Tryz.prog 102 #[.slice (some ⟨B, 0, none⟩) 2 2] w (Re w (.bool true)))) :
  Calls Tryz.prog 129 #[.agg #[.bool n, .string s, .string d]] w (Re w (.int .i64 5)) := by
 go_enter Tryz.func129, Tryz.ntmps129
 go_wp2_with fail
 obtain ⟨w0, hw, k0, k1, bb⟩ := mk2 w [.bool n, .string s, .string d] [.string s, .string d] 26 22
 rw [← hw]
 clear hw
 go_fit (HL.out _ w0 k1)
 rintro e w1 ⟨rfl, b1⟩
 replace k0 := k0.below b1
 replace bb := Below.after bb b1
 clear b1 k1
 go_wp2
 go_ret
 exact ⟨rfl, bb⟩
theorem rchk_num (n : Bool) (s d : ByteArray) (w : World) (c : Int) (hc : ¬ c = 0)
  (HL : Hid (∀ (B : Nat) (w : World) (_ : Cel w B [.string s, .string d] 22), Calls Tryz.prog 102 #[.slice (some ⟨B, 0, none⟩) 2 2] w (Re w (.bool false))))
  (HC : Hid (∀ w1, Calls Tryz.prog 103 #[.agg #[.bool n, .string s]] w1 (Re w1 (.int .i64 c)))) :
  Calls Tryz.prog 129 #[.agg #[.bool n, .string s, .string d]] w (Re w (.int .i64 c)) := by
 go_enter Tryz.func129, Tryz.ntmps129
 go_wp2_with fail
 obtain ⟨w0, hw, k0, k1, bb⟩ := mk2 w [.bool n, .string s, .string d] [.string s, .string d] 26 22
 rw [← hw]
 clear hw
 go_fit (HL.out _ w0 k1)
 rintro e w1 ⟨rfl, b1⟩
 replace k0 := k0.below b1
 replace bb := Below.after bb b1
 clear b1 k1
 obtain ⟨c0, c1, c2⟩ := xk3 k0
 go_wp2_with fail
 go_fit (HC.out _)
 rintro e w2 ⟨rfl, b1⟩
 replace k0 := k0.below b1
 replace bb := Below.after bb b1
 clear b1 c0 c1 c2
 go_wp2
 go_ret
 exact ⟨rfl, bb⟩
theorem rchk_ok (n zn : Bool) (s d zs : ByteArray) (w : World) (hd : 0 < d.size) (hd0 : ¬ lm (byts d) 0 = 0)
  (HL : Hid (∀ (B : Nat) (w : World) (_ : Cel w B [.string s, .string d] 22), Calls Tryz.prog 102 #[.slice (some ⟨B, 0, none⟩) 2 2] w (Re w (.bool false))))
  (HC : Hid (∀ w1, Calls Tryz.prog 103 #[.agg #[.bool n, .string s]] w1 (Re w1 (.int .i64 0))))
  (HV : Hid (∀ w1, Below w.heap.size w w1 → Calls Tryz.prog 104 #[.agg #[.bool n, .string s], .agg #[.bool false, .string d]] w1 (Re w1 (.agg #[.bool zn, .string zs]))))
  (hz : (zs.toList == [1]) = true) :
  Calls Tryz.prog 129 #[.agg #[.bool n, .string s, .string d]] w (Re w (.int .i64 0)) := by
 have g1 : ¬ ((d[0]).toNat : Int) = 0 := by rw [byts_at d 0 hd]; omega
 have g2 : ¬ d[0] = 0 := fun h => g1 (by rw [h]; rfl)
 have g4 := toList_ne hd
 have g5 : d.toList.isEmpty = false := by simpa using g4
 have g6 : (0 : Int) < d.size := by omega
 clear hd0
 have g7 : (((d[0]).toNat : Int) == 0) = false := by simpa using g1
 have gf := fld1 zn zs
 go_enter Tryz.func129, Tryz.ntmps129
 go_wp2_with fail
 obtain ⟨w0, hw, k0, k1, bb⟩ := mk2 w [.bool n, .string s, .string d] [.string s, .string d] 26 22
 rw [← hw]
 clear hw
 go_fit (HL.out _ w0 k1)
 rintro e w1 ⟨rfl, b1⟩
 replace k0 := k0.below b1
 replace bb := Below.after bb b1
 clear b1 k1
 obtain ⟨c0, c1, c2⟩ := xk3 k0
 go_wp2_with fail
 go_fit (HC.out _)
 rintro e w2 ⟨rfl, b1⟩
 replace k0 := k0.below b1
 replace bb := Below.after bb b1
 clear b1 c0 c1 c2
 go_wp2
 refine wp_region_held_drew (S := (fun w' => xc3 w' w.heap.size (.bool n) (.string s) (.string d))) (by kernel_rfl) ?_ (fun hHeld => ?_)
 ·exact (xk3 k0)
 refine tq 0 rfl ?_
 refine tq 1 rfl ?_
 refine tq 2 rfl ?_
 refine tq 3 rfl ?_
 refine tq 4 rfl ?_
 refine tq 5 rfl ?_
 refine tq 6 rfl ?_
 refine tq 7 rfl ?_
 refine tq 8 rfl ?_
 refine tq 9 rfl ?_
 refine tq 10 rfl ?_
 refine tq 11 rfl ?_
 refine tq 12 rfl ?_
 refine wpAnyH_ready (rs := [13]) (by kernel_rfl) (by simp) ?_
 refine AllReadyH.cons (o := _) rfl (fun K hK => ?_) AllReadyH.nil
 go_simp
 go_fit (den_any _ _ _ _)
 rintro e wn ⟨rfl, bn⟩
 replace k0 := k0.below (un bn)
 replace bb := Below.after bb (un bn)
 clear bn
 try go_wp2_with fail
 refine hK.out _ _ ?_ (fun hHeld => ?_)
 ·exact (xk3 k0)
 clear hK K
 try simp only [ly]
 refine wpAnyH_ready (rs := [14]) (by kernel_rfl) (by simp) ?_
 refine AllReadyH.cons (o := _) rfl (fun K hK => ?_) AllReadyH.nil
 go_simp
 go_fit (HV.out _ ?_)
 ·first | exact bb | exact bb.drew
 rintro e wn ⟨rfl, bn⟩
 replace k0 := k0.below (un bn)
 replace bb := Below.after bb (un bn)
 clear bn
 try go_wp2_with fail
 refine hK.out _ _ ?_ (fun hHeld => ?_)
 ·exact (xk3 k0)
 clear hK K
 try simp only [ly]
 refine tq 15 rfl ?_
 refine tq 16 rfl ?_
 refine tq 17 rfl ?_
 refine wpAnyH_done (by kernel_rfl) ?_ _
 go_wp2
 go_ret
 exact ⟨rfl, bb⟩
theorem rchk_gcd (n zn : Bool) (s d zs : ByteArray) (w : World) (hd : 0 < d.size) (hd0 : ¬ lm (byts d) 0 = 0)
  (HL : Hid (∀ (B : Nat) (w : World) (_ : Cel w B [.string s, .string d] 22), Calls Tryz.prog 102 #[.slice (some ⟨B, 0, none⟩) 2 2] w (Re w (.bool false))))
  (HC : Hid (∀ w1, Calls Tryz.prog 103 #[.agg #[.bool n, .string s]] w1 (Re w1 (.int .i64 0))))
  (HV : Hid (∀ w1, Below w.heap.size w w1 → Calls Tryz.prog 104 #[.agg #[.bool n, .string s], .agg #[.bool false, .string d]] w1 (Re w1 (.agg #[.bool zn, .string zs]))))
  (hz : (zs.toList == [1]) = false) :
  Calls Tryz.prog 129 #[.agg #[.bool n, .string s, .string d]] w (Re w (.int .i64 1)) := by
 have g1 : ¬ ((d[0]).toNat : Int) = 0 := by rw [byts_at d 0 hd]; omega
 have g2 : ¬ d[0] = 0 := fun h => g1 (by rw [h]; rfl)
 have g4 := toList_ne hd
 have g5 : d.toList.isEmpty = false := by simpa using g4
 have g6 : (0 : Int) < d.size := by omega
 clear hd0
 have g7 : (((d[0]).toNat : Int) == 0) = false := by simpa using g1
 have gf := fld1 zn zs
 go_enter Tryz.func129, Tryz.ntmps129
 go_wp2_with fail
 obtain ⟨w0, hw, k0, k1, bb⟩ := mk2 w [.bool n, .string s, .string d] [.string s, .string d] 26 22
 rw [← hw]
 clear hw
 go_fit (HL.out _ w0 k1)
 rintro e w1 ⟨rfl, b1⟩
 replace k0 := k0.below b1
 replace bb := Below.after bb b1
 clear b1 k1
 obtain ⟨c0, c1, c2⟩ := xk3 k0
 go_wp2_with fail
 go_fit (HC.out _)
 rintro e w2 ⟨rfl, b1⟩
 replace k0 := k0.below b1
 replace bb := Below.after bb b1
 clear b1 c0 c1 c2
 go_wp2
 refine wp_region_held_drew (S := (fun w' => xc3 w' w.heap.size (.bool n) (.string s) (.string d))) (by kernel_rfl) ?_ (fun hHeld => ?_)
 ·exact (xk3 k0)
 refine tq 0 rfl ?_
 refine tq 1 rfl ?_
 refine tq 2 rfl ?_
 refine tq 3 rfl ?_
 refine tq 4 rfl ?_
 refine tq 5 rfl ?_
 refine tq 6 rfl ?_
 refine tq 7 rfl ?_
 refine tq 8 rfl ?_
 refine tq 9 rfl ?_
 refine tq 10 rfl ?_
 refine tq 11 rfl ?_
 refine tq 12 rfl ?_
 refine wpAnyH_ready (rs := [13]) (by kernel_rfl) (by simp) ?_
 refine AllReadyH.cons (o := _) rfl (fun K hK => ?_) AllReadyH.nil
 go_simp
 go_fit (den_any _ _ _ _)
 rintro e wn ⟨rfl, bn⟩
 replace k0 := k0.below (un bn)
 replace bb := Below.after bb (un bn)
 clear bn
 try go_wp2_with fail
 refine hK.out _ _ ?_ (fun hHeld => ?_)
 ·exact (xk3 k0)
 clear hK K
 try simp only [ly]
 refine wpAnyH_ready (rs := [14]) (by kernel_rfl) (by simp) ?_
 refine AllReadyH.cons (o := _) rfl (fun K hK => ?_) AllReadyH.nil
 go_simp
 go_fit (HV.out _ ?_)
 ·first | exact bb | exact bb.drew
 rintro e wn ⟨rfl, bn⟩
 replace k0 := k0.below (un bn)
 replace bb := Below.after bb (un bn)
 clear bn
 try go_wp2_with fail
 refine hK.out _ _ ?_ (fun hHeld => ?_)
 ·exact (xk3 k0)
 clear hK K
 try simp only [ly]
 refine tq 15 rfl ?_
 refine tq 16 rfl ?_
 refine tq 17 rfl ?_
 refine wpAnyH_done (by kernel_rfl) ?_ _
 go_wp2
 go_ret
 exact ⟨rfl, bb⟩
theorem rchk_empty (n : Bool) (s : ByteArray) (w : World)
  (HL : Hid (∀ (B : Nat) (w : World) (_ : Cel w B [.string s, .string ByteArray.empty] 22), Calls Tryz.prog 102 #[.slice (some ⟨B, 0, none⟩) 2 2] w (Re w (.bool false))))
  (HC : Hid (∀ w1, Calls Tryz.prog 103 #[.agg #[.bool n, .string s]] w1 (Re w1 (.int .i64 0)))) :
  Calls Tryz.prog 129 #[.agg #[.bool n, .string s, .string ByteArray.empty]] w (Re w (.int .i64 1)) := by
 go_enter Tryz.func129, Tryz.ntmps129
 go_wp2_with fail
 obtain ⟨w0, hw, k0, k1, bb⟩ := mk2 w [.bool n, .string s, .string ByteArray.empty] [.string s, .string ByteArray.empty] 26 22
 rw [← hw]
 clear hw
 go_fit (HL.out _ w0 k1)
 rintro e w1 ⟨rfl, b1⟩
 replace k0 := k0.below b1
 replace bb := Below.after bb b1
 clear b1 k1
 obtain ⟨c0, c1, c2⟩ := xk3 k0
 go_wp2_with fail
 go_fit (HC.out _)
 rintro e w2 ⟨rfl, b1⟩
 replace k0 := k0.below b1
 replace bb := Below.after bb b1
 clear b1 c0 c1 c2
 go_wp2
 refine wp_region_held_drew (S := (fun w' => xc3 w' w.heap.size (.bool n) (.string s) (.string ByteArray.empty))) (by kernel_rfl) ?_ (fun hHeld => ?_)
 ·exact (xk3 k0)
 refine tq 0 rfl ?_
 refine tq 1 rfl ?_
 refine tq 2 rfl ?_
 refine tq 3 rfl ?_
 refine tu 4 rfl ?_
 refine tu 5 rfl ?_
 refine tu 6 rfl ?_
 refine tu 7 rfl ?_
 refine tq 8 rfl ?_
 refine tq 9 rfl ?_
 refine tu 10 rfl ?_
 refine tu 11 rfl ?_
 refine tu 12 rfl ?_
 refine tu 13 rfl ?_
 refine tu 14 rfl ?_
 refine tu 15 rfl ?_
 refine tu 16 rfl ?_
 refine tq 17 rfl ?_
 refine wpAnyH_done (by kernel_rfl) ?_ _
 go_wp2
 go_ret
 exact ⟨rfl, bb.drew⟩
theorem rchk_zero (n : Bool) (s d : ByteArray) (w : World) (hd : 0 < d.size) (hd0 : lm (byts d) 0 = 0)
  (HL : Hid (∀ (B : Nat) (w : World) (_ : Cel w B [.string s, .string d] 22), Calls Tryz.prog 102 #[.slice (some ⟨B, 0, none⟩) 2 2] w (Re w (.bool false))))
  (HC : Hid (∀ w1, Calls Tryz.prog 103 #[.agg #[.bool n, .string s]] w1 (Re w1 (.int .i64 0)))) :
  Calls Tryz.prog 129 #[.agg #[.bool n, .string s, .string d]] w (Re w (.int .i64 1)) := by
 have g1 : ((d[0]).toNat : Int) = 0 := by rw [byts_at d 0 hd, hd0]; rfl
 have g3 : (d[0]).toNat = 0 := by omega
 have g2 : d[0] = 0 := UInt8.toNat.inj g3
 have g4 := toList_ne hd
 have g5 : d.toList.isEmpty = false := by simpa using g4
 have g6 : (0 : Int) < d.size := by omega
 clear hd0
 have g7 : (((d[0]).toNat : Int) == 0) = true := by simpa using g1
 go_enter Tryz.func129, Tryz.ntmps129
 go_wp2_with fail
 obtain ⟨w0, hw, k0, k1, bb⟩ := mk2 w [.bool n, .string s, .string d] [.string s, .string d] 26 22
 rw [← hw]
 clear hw
 go_fit (HL.out _ w0 k1)
 rintro e w1 ⟨rfl, b1⟩
 replace k0 := k0.below b1
 replace bb := Below.after bb b1
 clear b1 k1
 obtain ⟨c0, c1, c2⟩ := xk3 k0
 go_wp2_with fail
 go_fit (HC.out _)
 rintro e w2 ⟨rfl, b1⟩
 replace k0 := k0.below b1
 replace bb := Below.after bb b1
 clear b1 c0 c1 c2
 go_wp2
 refine wp_region_held_drew (S := (fun w' => xc3 w' w.heap.size (.bool n) (.string s) (.string d))) (by kernel_rfl) ?_ (fun hHeld => ?_)
 ·exact (xk3 k0)
 refine tq 0 rfl ?_
 refine tq 1 rfl ?_
 refine tq 2 rfl ?_
 refine tq 3 rfl ?_
 refine tq 4 rfl ?_
 refine tq 5 rfl ?_
 refine tq 6 rfl ?_
 refine tq 7 rfl ?_
 refine tq 8 rfl ?_
 refine tq 9 rfl ?_
 refine tu 10 rfl ?_
 refine tu 11 rfl ?_
 refine tu 12 rfl ?_
 refine tu 13 rfl ?_
 refine tu 14 rfl ?_
 refine tu 15 rfl ?_
 refine tu 16 rfl ?_
 refine tq 17 rfl ?_
 refine wpAnyH_done (by kernel_rfl) ?_ _
 go_wp2
 go_ret
 exact ⟨rfl, bb.drew⟩
theorem rchk_any (n : Bool) (s d : ByteArray) (w : World) (hT : Tab w) :
  Calls Tryz.prog 129 #[.agg #[.bool n, .string s, .string d]] w (Re w (.int .i64 (chkq n s d : Nat))) := by
 obtain ⟨t, ht, hL⟩ := tooLong_any s d
 by_cases hl : 8000 < s.size ∨ 8000 < d.size
 ·obtain rfl := ht.2 hl
  rw [show chkq n s d = 5 by unfold chkq; rw [if_pos hl]]
  exact rchk_long n s d w (shut hL)
 ·obtain rfl : t = false := by
   cases t with
   | false => rfl
   | true => exact absurd (ht.1 rfl) hl
  have hs : s.size ≤ 8000 := by omega
  have hdl : d.size ≤ 8000 := by omega
  by_cases hc : chk n s = 0
  ·have HC : Hid (∀ w1, Calls Tryz.prog 103 #[.agg #[.bool n, .string s]] w1 (Re w1 (.int .i64 0))) := by
    intro w1
    have := check_any n s w1
    rw [hc] at this
    exact this
   have o := (chk_ok (by omega)).1 hc
   by_cases hd : 0 < d.size
   ·by_cases h0 : lm (byts d) 0 = 0
    ·rw [show chkq n s d = 1 by unfold chkq; rw [if_neg hl, if_pos (Or.inr (Or.inr (Or.inl h0)))]]
     exact rchk_zero n s d w hd h0 (shut hL) HC
    ·have od : OkS d := fun _ => h0
     have HV : Hid (∀ w1, Below w.heap.size w w1 → Calls Tryz.prog 104 #[.agg #[.bool n, .string s], .agg #[.bool false, .string d]] w1 (Re w1 (zI ((Nat.gcd (natOf s) (natOf d) : Nat) : Int)))) :=
      fun w1 b => divisor_ok n false s d w1 o ⟨od, fun h => by cases h⟩ (by omega) (by omega) (hT.below b)
     have e : zI ((Nat.gcd (natOf s) (natOf d) : Nat) : Int) = .agg #[.bool false, .string (strOf (Nat.gcd (natOf s) (natOf d)))] := by
      show zV _ _ = _
      rw [Int.natAbs_natCast, show decide ((((Nat.gcd (natOf s) (natOf d) : Nat)) : Int) < 0) = false by simp]
      rfl
     rw [e] at HV
     by_cases hg : Nat.gcd (natOf s) (natOf d) = 1
     ·rw [chkq_ok ⟨o, od, natOf_pos od hd, hg⟩ hs hdl]
      exact rchk_ok n _ s d _ w hd h0 (shut hL) HC HV (eq1 (by rw [hg, strOf_one]))
     ·rw [show chkq n s d = 1 by unfold chkq; rw [if_neg hl, if_pos (Or.inr (Or.inr (Or.inr hg)))]]
      exact rchk_gcd n _ s d _ w hd h0 (shut hL) HC HV (ne1 fun h => hg (by
       have := natOf_strOf (Nat.gcd (natOf s) (natOf d))
       rw [h, natOf_one] at this
       exact this.symm))
   ·have g3 : d = ByteArray.empty := ByteArray.size_eq_zero_iff.1 (by omega)
    subst g3
    rw [show chkq n s ByteArray.empty = 1 by unfold chkq; rw [if_neg hl, if_pos (Or.inr (Or.inl (show ByteArray.empty.size = 0 from rfl)))]]
    exact rchk_empty n s w (shut hL) HC
  ·have h1 : chk n s = 1 := by
    unfold chk at hc ⊢
    rw [if_neg (by omega)] at hc ⊢
    split at hc
    ·rw [if_pos (by assumption)]
    ·exact absurd rfl hc
   have HC : Hid (∀ w1, Calls Tryz.prog 103 #[.agg #[.bool n, .string s]] w1 (Re w1 (.int .i64 1))) := by
    intro w1
    have := check_any n s w1
    rw [h1] at this
    exact this
   rw [show chkq n s d = 1 by unfold chkq; rw [if_neg hl, if_pos (Or.inl hc)]]
   exact rchk_num n s d w 1 (by omega) (shut hL) HC
def twoq (n0 : Bool) (s0 d0 : ByteArray) (n1 : Bool) (s1 d1 : ByteArray) : Nat := if chkq n0 s0 d0 = 0 then chkq n1 s1 d1 else chkq n0 s0 d0
theorem twoq_zero {n0 n1 : Bool} {s0 d0 s1 d1 : ByteArray} : twoq n0 s0 d0 n1 s1 d1 = 0 ↔ chkq n0 s0 d0 = 0 ∧ chkq n1 s1 d1 = 0 := by
 unfold twoq
 by_cases h : chkq n0 s0 d0 = 0
 ·rw [if_pos h]; exact ⟨fun e => ⟨h, e⟩, fun e => e.2⟩
 ·rw [if_neg h]; exact ⟨fun e => absurd e h, fun e => absurd e.1 h⟩
theorem check2_ok (B : Nat) (n0 n1 : Bool) (s0 d0 s1 d1 : ByteArray) (w : World) (hB : Cel w B [.bool n0, .string s0, .string d0, .bool n1, .string s1, .string d1] 26)
  (H0 : Hid (∀ w1, Below w.heap.size w w1 → Calls Tryz.prog 129 #[.agg #[.bool n0, .string s0, .string d0]] w1 (Re w1 (.int .i64 0))))
  (H1 : Hid (∀ w1, Below w.heap.size w w1 → Calls Tryz.prog 129 #[.agg #[.bool n1, .string s1, .string d1]] w1 (Re w1 (.int .i64 0)))) :
  Calls Tryz.prog 133 #[.slice (some ⟨B, 0, none⟩) 2 2] w (Re w (.int .i64 0)) := by
 go_enter Tryz.func133, Tryz.ntmps133
 go_wp2
 go_loopw [8] (fun i wr => Below w.heap.size w wr ∧ (i = .int .i64 0 ∨ i = .int .i64 1 ∨ i = .int .i64 2)) (fun i _ => 2 - (intOf i).toNat)
 case atStart => exact ⟨Below.refl _ _, Or.inl rfl⟩
 case round =>
  obtain ⟨hbel, hi⟩ := hrel
  have kB := hB.below hbel
  have c0 := kB.cell 0
  have c1 := kB.cell 1
  have c2 := kB.cell 2
  have c3 := kB.cell 3
  have c4 := kB.cell 4
  have c5 := kB.cell 5
  simp only [List.getElem?_cons_zero, List.getElem?_cons_succ] at c0 c1 c2 c3 c4 c5
  clear kB
  rcases hi with rfl | rfl | rfl
  ·go_wp2_with fail
   go_fit (H0.out _ (ba hbel _))
   rintro e w1 ⟨rfl, b1⟩
   obtain ⟨-, b1⟩ := al1 b1
   replace hbel := Below.after hbel b1
   clear b1 c0 c1 c2 c3 c4 c5
   go_wp2
   exact ⟨⟨hbel, Or.inr (Or.inl (by go_num))⟩, by simp [intOf]⟩
  ·go_wp2_with fail
   go_fit (H1.out _ (ba hbel _))
   rintro e w1 ⟨rfl, b1⟩
   obtain ⟨-, b1⟩ := al1 b1
   replace hbel := Below.after hbel b1
   clear b1 c0 c1 c2 c3 c4 c5
   go_wp2
   exact ⟨⟨hbel, Or.inr (Or.inr (by go_num))⟩, by simp [intOf]⟩
  ·go_wp2
   go_ret
   exact ⟨rfl, hbel⟩
theorem check2_bad1 (B : Nat) (n0 n1 : Bool) (s0 d0 s1 d1 : ByteArray) (w : World) (c : Int) (hc : ¬ c = 0) (hB : Cel w B [.bool n0, .string s0, .string d0, .bool n1, .string s1, .string d1] 26)
  (H0 : Hid (∀ w1, Below w.heap.size w w1 → Calls Tryz.prog 129 #[.agg #[.bool n0, .string s0, .string d0]] w1 (Re w1 (.int .i64 c)))) :
  Calls Tryz.prog 133 #[.slice (some ⟨B, 0, none⟩) 2 2] w (Re w (.int .i64 c)) := by
 go_enter Tryz.func133, Tryz.ntmps133
 go_wp2
 go_loopw [8] (fun i wr => Below w.heap.size w wr ∧ (i = .int .i64 0)) (fun i _ => 2 - (intOf i).toNat)
 case atStart => exact ⟨Below.refl _ _, rfl⟩
 case round =>
  obtain ⟨hbel, hi⟩ := hrel
  have kB := hB.below hbel
  have c0 := kB.cell 0
  have c1 := kB.cell 1
  have c2 := kB.cell 2
  have c3 := kB.cell 3
  have c4 := kB.cell 4
  have c5 := kB.cell 5
  simp only [List.getElem?_cons_zero, List.getElem?_cons_succ] at c0 c1 c2 c3 c4 c5
  clear kB
  subst hi
  ·go_wp2_with fail
   go_fit (H0.out _ (ba hbel _))
   rintro e w1 ⟨rfl, b1⟩
   obtain ⟨-, b1⟩ := al1 b1
   replace hbel := Below.after hbel b1
   clear b1 c0 c1 c2 c3 c4 c5
   go_wp2
   go_ret
   exact ⟨rfl, hbel⟩
theorem check2_bad2 (B : Nat) (n0 n1 : Bool) (s0 d0 s1 d1 : ByteArray) (w : World) (c : Int) (hc : ¬ c = 0) (hB : Cel w B [.bool n0, .string s0, .string d0, .bool n1, .string s1, .string d1] 26)
  (H0 : Hid (∀ w1, Below w.heap.size w w1 → Calls Tryz.prog 129 #[.agg #[.bool n0, .string s0, .string d0]] w1 (Re w1 (.int .i64 0))))
  (H1 : Hid (∀ w1, Below w.heap.size w w1 → Calls Tryz.prog 129 #[.agg #[.bool n1, .string s1, .string d1]] w1 (Re w1 (.int .i64 c)))) :
  Calls Tryz.prog 133 #[.slice (some ⟨B, 0, none⟩) 2 2] w (Re w (.int .i64 c)) := by
 go_enter Tryz.func133, Tryz.ntmps133
 go_wp2
 go_loopw [8] (fun i wr => Below w.heap.size w wr ∧ (i = .int .i64 0 ∨ i = .int .i64 1)) (fun i _ => 2 - (intOf i).toNat)
 case atStart => exact ⟨Below.refl _ _, Or.inl rfl⟩
 case round =>
  obtain ⟨hbel, hi⟩ := hrel
  have kB := hB.below hbel
  have c0 := kB.cell 0
  have c1 := kB.cell 1
  have c2 := kB.cell 2
  have c3 := kB.cell 3
  have c4 := kB.cell 4
  have c5 := kB.cell 5
  simp only [List.getElem?_cons_zero, List.getElem?_cons_succ] at c0 c1 c2 c3 c4 c5
  clear kB
  rcases hi with rfl | rfl
  ·go_wp2_with fail
   go_fit (H0.out _ (ba hbel _))
   rintro e w1 ⟨rfl, b1⟩
   obtain ⟨-, b1⟩ := al1 b1
   replace hbel := Below.after hbel b1
   clear b1 c0 c1 c2 c3 c4 c5
   go_wp2
   exact ⟨⟨hbel, Or.inr (by go_num)⟩, by simp [intOf]⟩
  ·go_wp2_with fail
   go_fit (H1.out _ (ba hbel _))
   rintro e w1 ⟨rfl, b1⟩
   obtain ⟨-, b1⟩ := al1 b1
   replace hbel := Below.after hbel b1
   clear b1 c0 c1 c2 c3 c4 c5
   go_wp2
   go_ret
   exact ⟨rfl, hbel⟩
theorem check2_any (B : Nat) (n0 n1 : Bool) (s0 d0 s1 d1 : ByteArray) (w : World) (hT : Tab w) (hB : Cel w B [.bool n0, .string s0, .string d0, .bool n1, .string s1, .string d1] 26) :
  Calls Tryz.prog 133 #[.slice (some ⟨B, 0, none⟩) 2 2] w (Re w (.int .i64 (twoq n0 s0 d0 n1 s1 d1 : Nat))) := by
 have h0 : Hid (∀ w1, Below w.heap.size w w1 → Calls Tryz.prog 129 #[.agg #[.bool n0, .string s0, .string d0]] w1 (Re w1 (.int .i64 (chkq n0 s0 d0 : Nat)))) := fun w1 b => rchk_any n0 s0 d0 w1 (hT.below b)
 have h1 : Hid (∀ w1, Below w.heap.size w w1 → Calls Tryz.prog 129 #[.agg #[.bool n1, .string s1, .string d1]] w1 (Re w1 (.int .i64 (chkq n1 s1 d1 : Nat)))) := fun w1 b => rchk_any n1 s1 d1 w1 (hT.below b)
 by_cases e0 : chkq n0 s0 d0 = 0
 ·rw [e0] at h0
  rw [show twoq n0 s0 d0 n1 s1 d1 = chkq n1 s1 d1 by unfold twoq; rw [if_pos e0]]
  by_cases e1 : chkq n1 s1 d1 = 0
  ·rw [e1] at h1 ⊢
   exact check2_ok B n0 n1 s0 d0 s1 d1 w hB h0 h1
  ·exact check2_bad2 B n0 n1 s0 d0 s1 d1 w _ (by omega) hB h0 h1
 ·rw [show twoq n0 s0 d0 n1 s1 d1 = chkq n0 s0 d0 by unfold twoq; rw [if_neg e0]]
  exact check2_bad1 B n0 n1 s0 d0 s1 d1 w _ (by omega) hB h0
def nfZ (z : Int) : Bool := decide (z < 0)
def sfZ (z : Int) : ByteArray := strOf z.natAbs
theorem zI_nz (z : Int) : zI z = .agg #[.bool (nfZ z), .string (sfZ z)] := rfl
theorem okS_sfZ (z : Int) : OkS (sfZ z) := okS_strOf _
theorem okZ_nz (z : Int) : OkZ (nfZ z) (sfZ z) := okZ_zI z
theorem zOf_nz (z : Int) : zOf (nfZ z) (sfZ z) = z := zOf_zI z
theorem natOf_sfZ (z : Int) : natOf (sfZ z) = z.natAbs := natOf_strOf _
theorem okZ_false {s : ByteArray} (h : OkS s) : OkZ false s := ⟨h, fun e => by cases e⟩
theorem zOf_f (s : ByteArray) : zOf false s = ((natOf s : Nat) : Int) := rfl
theorem lmul_nat (s0 s1 : ByteArray) (w : World) (o0 : OkS s0) (o1 : OkS s1) (z0 : s0.size ≤ 16000) (z1 : s1.size ≤ 16000) :
  Calls Tryz.prog 154 #[.string s0, .string s1] w (Re w (.string (strOf (natOf s0 * natOf s1)))) := by
 have key : ∀ (x y : ByteArray), OkS x → OkS y → x.size ≤ 16000 → y.size ≤ 16000 → Hid (∀ w1, Calls Tryz.prog 184 #[.agg #[.bool false, .string x], .agg #[.bool false, .string y]] w1 (Re w1 (.tuple #[.agg #[.bool (nfZ ((natOf x : Int) * (natOf y : Int))), .string (strOf (natOf x * natOf y))], .int .i64 0]))) := fun x y ox oy zx zy w1 => by
  have := zmul_ok false false x y w1 (okZ_false ox) (okZ_false oy) zx zy
  rw [zOf_f, zOf_f, zI_nz] at this
  have e : sfZ ((natOf x : Int) * (natOf y : Int)) = strOf (natOf x * natOf y) := by unfold sfZ; rw [Int.natAbs_mul]; rfl
  rw [e] at this
  exact this
 by_cases hl : s0.size < s1.size
 ·by_cases h1 : s0 = ⟨#[1]⟩
  ·subst h1
   have e : strOf (natOf ⟨#[1]⟩ * natOf s1) = s1 := by rw [natOf_one, Nat.one_mul, strOf_natOf o1]
   rw [e]
   exact lmul_swap1 s1 w (by have : (⟨#[1]⟩ : ByteArray).size = 1 := rfl; omega)
  ·have k := key s1 s0 o1 o0 z1 z0
   rw [Nat.mul_comm]
   exact lmul_swap s0 s1 _ _ w (by omega) (ne1 h1) (by omega) k
 ·by_cases h1 : s1 = ⟨#[1]⟩
  ·subst h1
   have e : strOf (natOf s0 * natOf ⟨#[1]⟩) = s0 := by rw [natOf_one, Nat.mul_one, strOf_natOf o0]
   rw [e]
   exact lmul_one s0 w (by have : (⟨#[1]⟩ : ByteArray).size = 1 := rfl; omega)
  ·exact lmul_walk s0 s1 _ _ w (by omega) (ne1 h1) (by omega) (key s0 s1 o0 o1 z0 z1)
theorem ldivide_nat (s0 s1 : ByteArray) (w : World) (o0 : OkS s0) (o1 : OkS s1) (z0 : s0.size ≤ 16000) (z1 : s1.size ≤ 16000) (h : 0 < natOf s1) :
  Calls Tryz.prog 153 #[.string s0, .string s1] w (Re w (.tuple #[.string (strOf (natOf s0 / natOf s1)), .string (strOf (natOf s0 % natOf s1))])) := by
 refine ldivide_walk s0 s1 _ _ (nfZ ((natOf s0 : Int) / (natOf s1 : Int))) (nfZ ((natOf s0 : Int) % (natOf s1 : Int))) w (by omega) (fun w1 => ?_)
 have := zdiv_ok false false s0 s1 w1 (okZ_false o0) (okZ_false o1) (by omega) (by omega) h
 rw [zOf_f, zOf_f, zI_nz, zI_nz] at this
 exact this
theorem bd_sf {z : Int} {K : Nat} (h : Bd z K) : (sfZ z).size ≤ K := h.size
def Cells (w : World) (g : Nat) (t : TypeId) (n : Nat) (f : Nat → Value) : Prop := ∃ cs : Array Value, w.heap[g]? = some (.cells cs t (0, 0)) ∧ cs.size = n ∧ ∀ i, i < n → cs[i]? = some (f i)
theorem Cells.cell {w : World} {g n : Nat} {t : TypeId} {f : Nat → Value} (h : Cells w g t n f) {i : Nat} (hi : i < n) : w.cell? ⟨g, i, none⟩ = some (f i) := by
 obtain ⟨cs, h1, h2, h3⟩ := h
 simp [World.cell?, h1, h3 i hi]
theorem Cells.frozen {w : World} {g n : Nat} {t : TypeId} {f : Nat → Value} (h : Cells w g t n f) (i : Nat) : w.frozen? ⟨g, i, none⟩ = false := by
 obtain ⟨cs, h1, h2, h3⟩ := h
 simp [World.frozen?, h1]
theorem Cells.lt {w : World} {g n : Nat} {t : TypeId} {f : Nat → Value} (h : Cells w g t n f) : g < w.heap.size := by
 obtain ⟨cs, h1, -⟩ := h
 by_cases hg : g < w.heap.size
 ·exact hg
 ·rw [Array.getElem?_eq_none (by omega)] at h1; cases h1
theorem Cells.below {w w' : World} {g n : Nat} {t : TypeId} {f : Nat → Value} (h : Cells w g t n f) (hb : Below w.heap.size w w') : Cells w' g t n f := by
 have hl := h.lt
 obtain ⟨cs, h1, h2, h3⟩ := h
 exact ⟨cs, by rw [hb.block g hl]; exact h1, h2, h3⟩
theorem Cells.set {w : World} {g n : Nat} {t : TypeId} {f : Nat → Value} (h : Cells w g t n f) (j : Nat) (v : Value) : Cells (w.setCell ⟨g, j, none⟩ v) g t n (fun i => if i = j then v else f i) := by
 obtain ⟨cs, h1, h2, h3⟩ := h
 refine ⟨cs.setIfInBounds j v, by simp [World.setCell, Array.getElem?_modify, h1], by simp [h2], fun i hi => ?_⟩
 show _ = some (if i = j then v else f i)
 by_cases e : i = j
 ·subst e
  rw [if_pos rfl]
  simp [h2, hi]
 ·rw [if_neg e, Array.getElem?_setIfInBounds_ne (fun q => e q.symm)]
  exact h3 i hi
theorem Cells.congr {w : World} {g n : Nat} {t : TypeId} {f f' : Nat → Value} (h : Cells w g t n f) (he : ∀ i, i < n → f i = f' i) : Cells w g t n f' := by
 obtain ⟨cs, h1, h2, h3⟩ := h
 exact ⟨cs, h1, h2, fun i hi => by rw [← he i hi]; exact h3 i hi⟩
def fz (z : Nat → Int) (i : Nat) : Value := if i % 2 = 0 then .bool (nfZ (z (i / 2))) else .string (sfZ (z (i / 2)))
theorem nprod_take_succ {L : List ByteArray} {k : Nat} (h : k < L.length) : Dt.nprod ((L.take (k + 1)).map natOf) = Dt.nprod ((L.take k).map natOf) * natOf (nt L k) := by
 rw [List.take_add_one, List.getElem?_eq_getElem h, List.map_append, Dt.nprod_append]
 congr 1
 unfold nt
 rw [List.getD_eq_getElem?_getD, List.getElem?_eq_getElem h]
 simp [Dt.nprod]
theorem nprod_take_le {L : List ByteArray} (hp : ∀ x ∈ L, 0 < natOf x) (k : Nat) : Dt.nprod ((L.take k).map natOf) ≤ Dt.nprod (L.map natOf) := by
 conv => rhs; rw [← List.take_append_drop k L, List.map_append, Dt.nprod_append]
 refine Nat.le_mul_of_pos_right _ (Dt.nprod_pos fun x hx => ?_)
 rw [List.mem_map] at hx
 obtain ⟨y, hy, rfl⟩ := hx
 exact hp y (List.mem_of_mem_drop hy)
theorem nfZ_div {cur : Int} {g : Nat} (hg : 0 < g) (hd : g ∣ cur.natAbs) : nfZ (cur / (g : Int)) = nfZ cur ∧ sfZ (cur / (g : Int)) = strOf (cur.natAbs / g) := by
 have hd' : (g : Int) ∣ cur := Int.ofNat_dvd_left.2 hd
 refine ⟨?_, ?_⟩
 ·unfold nfZ
  by_cases c : cur < 0
  ·rw [decide_eq_true c, decide_eq_true (Int.ediv_neg_of_neg_of_pos c (by omega))]
  ·rw [decide_eq_false c, decide_eq_false (by have := Int.ediv_nonneg (a := cur) (b := g) (by omega) (by omega); omega)]
 ·unfold sfZ
  rw [Int.natAbs_ediv_of_dvd hd']
  simp
theorem over_any (N : Int) (v : Value) (L : List ByteArray) (w : World) (hT : Tab w) (hv : RdS w v L) (hL : L.length ≤ 1000) (ho : ∀ x ∈ L, OkS x ∧ 0 < natOf x ∧ x.size ≤ 8000) {K : Nat} (hK : K ≤ 8000) (hN : Bd N K) (hP : Dt.nprod (L.map natOf) < 256 ^ K) :
  Calls Tryz.prog 115 #[.agg #[.bool (nfZ N), .string (sfZ N)], v] w (Re w (qI (mkRat N (Dt.nprod (L.map natOf))))) := by
 obtain ⟨a, cap, rfl, -, -⟩ := id hv
 replace hv := shut hv
 replace ho := shut ho
 replace hT := shut hT
 replace hN := shut hN
 replace hP := shut hP
 generalize hM : L.length = m at *
 go_enter Tryz.func115, Tryz.ntmps115
 go_wp2_with fail
 obtain ⟨w1, hw, ka, kr, b1⟩ := mk2 w [.bool (nfZ N), .string (sfZ N)] [.bool false, .string { data := #[] }, .string { data := #[] }] 24 26
 rw [← hw]
 clear hw
 go_loopw [5, 14] (fun dv i wr => ∃ (k : Nat) (cur : Int) (den e : Nat), k ≤ m ∧ i = .int .i64 k ∧ dv = .string (strOf den) ∧ N = cur * e ∧ Dt.nprod ((L.take k).map natOf) = den * e ∧ 0 < e ∧ 0 < den ∧ Nat.gcd cur.natAbs den = 1 ∧ Cel wr w.heap.size [.bool (nfZ cur), .string (sfZ cur)] 24 ∧ Cel wr (w.heap.size + 1) [.bool false, .string { data := #[] }, .string { data := #[] }] 26 ∧ Below w.heap.size w wr) (fun _ i _ => m - (intOf i).toNat)
 case atStart => exact ⟨0, N, 1, 1, by omega, rfl, by rw [strOf_one], by simp, rfl, by omega, by omega, by simp, ka, kr, b1⟩
 case round =>
  clear ka kr b1
  obtain ⟨k, cur, den, ee, hk, rfl, rfl, i1, i2, i3, i4, i5, ka, kr, bb⟩ := hrel
  by_cases hkn : k < m
  ·have hkL : k < L.length := by omega
   obtain ⟨a', cap', e', -, hc⟩ := hv.out.below bb
   simp only [Value.slice.injEq] at e'
   obtain ⟨rfl, -, rfl⟩ := e'
   obtain ⟨b, off, rfl, h0⟩ := hc k (by omega)
   clear hc
   obtain ⟨od, pd, zd⟩ := ho.out _ (nt_mem hkL)
   have hs := nprod_take_succ hkL
   have hpos : ∀ x ∈ L, 0 < natOf x := fun x hx => (ho.out x hx).2.1
   have lcur : cur.natAbs ≤ N.natAbs := by rw [i1, Int.natAbs_mul]; simpa using Nat.le_mul_of_pos_right cur.natAbs i3
   have bcur : Bd cur K := hN.out.le lcur
   have zcur : (sfZ cur).size ≤ K := bcur.size
   have lden : den < 256 ^ K := by
    have h1 := nprod_take_le hpos k
    rw [i2] at h1
    have h2 := Nat.le_mul_of_pos_right den i3
    exact Nat.lt_of_le_of_lt (Nat.le_trans h2 h1) hP.out
   have zden : (strOf den).size ≤ K := strOf_lt lden
   clear lden lcur
   by_cases e1 : nt L k = ⟨#[1]⟩
   ·have F : Hid (Dt.nprod ((L.take (k + 1)).map natOf) = den * ee) := by show _ = _; rw [hs, e1, natOf_one, Nat.mul_one, i2]
    have e2 := eq1' e1
    replace i1 := shut i1
    replace i2 := shut i2
    replace i3 := shut i3
    replace i4 := shut i4
    replace i5 := shut i5
    clear e1 hs zcur zden
    go_wp2
    exact ⟨⟨k + 1, cur, den, ee, by omega, by go_num, rfl, i1.out, F.out, i3.out, i4.out, i5.out, ka, kr, bb⟩, by simp [intOf]; omega⟩
   ·obtain ⟨g, hg⟩ : ∃ g, g = Nat.gcd cur.natAbs (natOf (nt L k)) := ⟨_, rfl⟩
    obtain ⟨f1, f2, f3, f4, f5⟩ := Dt.over_step i1 i2 i3 pd i4 i5 hg
    have g0 : 0 < g := by rw [hg]; exact Nat.gcd_pos_of_pos_right _ pd
    have gn : g ∣ cur.natAbs := by rw [hg]; exact Nat.gcd_dvd_left ..
    have gd : g ∣ natOf (nt L k) := by rw [hg]; exact Nat.gcd_dvd_right ..
    obtain ⟨n1, n2⟩ := nfZ_div g0 gn
    have HD := shut (fun w1 => ldivide_nat (sfZ cur) (nt L k) w1 (okS_sfZ cur) od (by omega) (by omega) pd)
    rw [natOf_sfZ] at HD
    obtain ⟨R, hR⟩ : ∃ R, R = cur.natAbs % natOf (nt L k) := ⟨_, rfl⟩
    rw [← hR] at HD
    have lR : R < natOf (nt L k) := by rw [hR]; exact Nat.mod_lt _ pd
    have zR : (strOf R).size ≤ 8000 := Nat.le_trans (strOf_lt (Nat.lt_trans lR (natOf_lt _))) zd
    have HG : Hid (∀ w1, Below w.heap.size w w1 → Calls Tryz.prog 136 #[.agg #[.bool false, .string (strOf R)], .agg #[.bool false, .string (nt L k)]] w1 (Re w1 (.tuple #[.agg #[.bool false, .string (strOf g)], .int .i64 0]))) := fun w1 b => by
     have := zgcd_ok false false (strOf R) (nt L k) w1 (okZ_false (okS_strOf R)) (okZ_false od) (by omega) (by omega) (hT.out.below b)
     have eg : Nat.gcd R (natOf (nt L k)) = g := by rw [hg, hR, Nat.gcd_comm cur.natAbs, Nat.gcd_rec (natOf (nt L k)) cur.natAbs]
     rw [natOf_strOf, eg, zI_nz] at this
     exact this
    have lg : g ≤ natOf (nt L k) := Nat.le_of_dvd pd gd
    have zg : (strOf g).size ≤ 8000 := Nat.le_trans (strOf_lt (Nat.lt_of_le_of_lt lg (natOf_lt _))) zd
    have H3 := shut (fun w1 => ldivide_nat (sfZ cur) (strOf g) w1 (okS_sfZ cur) (okS_strOf g) (by omega) (by omega) (by rw [natOf_strOf]; exact g0))
    have H4 := shut (fun w1 => ldivide_nat (nt L k) (strOf g) w1 od (okS_strOf g) (by omega) (by omega) (by rw [natOf_strOf]; exact g0))
    rw [natOf_sfZ, natOf_strOf] at H3
    rw [natOf_strOf] at H4
    have zq : (strOf (natOf (nt L k) / g)).size ≤ 8000 := Nat.le_trans (strOf_lt (Nat.lt_of_le_of_lt (Nat.div_le_self _ _) (natOf_lt _))) zd
    have H5 := shut (fun w1 => lmul_nat (strOf den) (strOf (natOf (nt L k) / g)) w1 (okS_strOf den) (okS_strOf _) (by omega) (by omega))
    rw [natOf_strOf, natOf_strOf] at H5
    rw [← n2] at H3
    have F : Hid (Dt.nprod ((L.take (k + 1)).map natOf) = den * (natOf (nt L k) / g) * (ee * g)) := by show _ = _; rw [hs, f2]
    have e2 := ne1' e1
    have oX : Hid (nt L k = strOf (natOf (nt L k))) := (strOf_natOf od).symm
    have H6 := shut (fun w1 => lmul_nat (strOf den) (nt L k) w1 (okS_strOf den) od (by omega) (by omega))
    rw [natOf_strOf] at H6
    replace f1 := shut f1
    replace f3 := shut f3
    replace f4 := shut f4
    replace f5 := shut f5
    replace n1 := shut n1
    replace i3 := shut i3
    clear i1 i2 i4 i5 hs zcur zden f2 hR lR zR lg zg zq gn gd n2 bcur hpos e1 hg g0 pd od zd hkL oX
    obtain ⟨c0, c1⟩ := xk2 ka
    go_wp2_with fail
    go_fit (HD.out _)
    rintro e w2 ⟨rfl, b1⟩
    replace ka := ka.below b1
    replace kr := kr.below b1
    replace bb := Below.after bb b1
    clear b1 c0 c1 h0
    go_wp2_with fail
    go_fit (HG.out _ bb)
    rintro e w3 ⟨rfl, b1⟩
    replace ka := ka.below b1
    replace kr := kr.below b1
    replace bb := Below.after bb b1
    clear b1 HD HG
    by_cases hg1 : g = 1
    ·subst hg1
     have e3 : ((strOf 1).toList == [1]) = true := eq1' strOf_one
     have F1 : Hid (N = cur * ee ∧ 0 < den * natOf (nt L k) ∧ Nat.gcd cur.natAbs (den * natOf (nt L k)) = 1 ∧ Dt.nprod ((L.take (k + 1)).map natOf) = den * natOf (nt L k) * ee) := by
      have a1 := f1.out
      have a2 := f4.out
      have a3 := f5.out
      have a4 := F.out
      simp only [Nat.mul_one, Nat.div_one, Int.natCast_one, Int.ediv_one] at a1 a2 a3 a4
      exact ⟨by simpa using a1, a2, by simpa using a3, a4⟩
     clear f1 f3 f4 f5 n1 H3 H4 H5 F
     go_wp2_with fail
     go_fit (H6.out _)
     rintro e w4 ⟨rfl, b1⟩
     obtain ⟨-, b1⟩ := al1 b1
     replace ka := ka.below b1
     replace kr := kr.below b1
     replace bb := Below.after bb b1
     clear b1 H6
     go_wp2
     exact ⟨⟨k + 1, cur, den * natOf (nt L k), ee, by omega, by go_num, rfl, F1.out.1, F1.out.2.2.2, i3.out, F1.out.2.1, F1.out.2.2.1, ka, kr, bb⟩, by simp [intOf]; omega⟩
    ·have e3 : ((strOf g).toList == [1]) = false := ne1' (fun e => hg1 (by rw [← natOf_strOf g, e, natOf_one]))
     have hne : ¬ w3.heap.size = w.heap.size := by have := ka.lt; omega
     have hne' : ¬ w.heap.size = w3.heap.size := by have := ka.lt; omega
     obtain ⟨c0, c1⟩ := xk2 (ka.alloc (.cells #[.bool false, .string (strOf g)] 24))
     go_wp2_with fail
     go_fit (H3.out _)
     rintro e w4 ⟨rfl, b1⟩
     obtain ⟨kc, b1⟩ := al1 b1
     replace ka := ka.below b1
     replace kr := kr.below b1
     replace bb := Below.after bb b1
     clear b1 H3 c0 c1
     have c1 := cel2_1' ka
     have f1' := Cel.frozen ka 1
     have c2 := cel2_1' kc
     go_wp2_with fail
     obtain ⟨w5, hw⟩ : ∃ x, x = w4.setCell ⟨w.heap.size, 1, none⟩ (.string (sfZ (cur / (g : Int)))) := ⟨_, rfl⟩
     rw [← hw]
     replace ka := ka.set 1 (.string (sfZ (cur / (g : Int))))
     replace kr := Cel.other (g' := w.heap.size) kr (by omega) 1 (.string (sfZ (cur / (g : Int))))
     replace bb := bset (g := w.heap.size) bb (Nat.le_refl _) 1 (.string (sfZ (cur / (g : Int))))
     rw [← hw] at ka kr bb
     clear hw c1 f1' c2 kc
     go_fit (H4.out _)
     rintro e w6 ⟨rfl, b1⟩
     replace ka := ka.below b1
     replace kr := kr.below b1
     replace bb := Below.after bb b1
     clear b1 H4
     go_wp2_with fail
     go_fit (H5.out _)
     rintro e w7 ⟨rfl, b1⟩
     replace ka := ka.below b1
     replace kr := kr.below b1
     replace bb := Below.after bb b1
     clear b1 H5
     have ka' : Hid (Cel w7 w.heap.size [.bool (nfZ (cur / (g : Int))), .string (sfZ (cur / (g : Int)))] 24) := by
      show Cel _ _ _ _
      rw [n1.out]; exact ka
     clear ka
     go_wp2
     exact ⟨⟨k + 1, cur / (g : Int), den * (natOf (nt L k) / g), ee * g, by omega, by go_num, rfl, f1.out, F.out, f3.out, f4.out, f5.out, ka'.out, kr, bb⟩, by simp [intOf]; omega⟩
  ·obtain rfl : k = m := by omega
   have F : Hid (qI (mkRat N (Dt.nprod (L.map natOf))) = .agg #[.bool (nfZ cur), .string (sfZ cur), .string (strOf den)]) := by
    show _ = _
    rw [List.take_of_length_le (by omega)] at i2
    obtain ⟨q1, q2⟩ := Dt.over_end i1 i2 i3 i4 i5
    exact qI_of ⟨q1, q2⟩ (zI_nz cur) rfl
   clear i1 i2 i3 i4 i5
   obtain ⟨c0, c1⟩ := xk2 ka
   obtain ⟨d0, d1, d2⟩ := xk3 kr
   have f0 := Cel.frozen kr 0
   have f1 := Cel.frozen kr 1
   have f2 := Cel.frozen kr 2
   go_wp2
   refine post_q (p := 4) (by kernel_rfl) rfl rfl (((kr.set 0 _).set 1 _).set 2 _) ⟨by rw [F.out], bset (bset (bset bb (by omega) 0 _) (by omega) 1 _) (by omega) 2 _⟩
end Go.Proofs.YtiiigiggcbbgjaaGreatDoor
