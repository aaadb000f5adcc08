/-
  Package rat: reckon; Add, Sub, Mul, Div.
  Package long: Over.
-/
import Derived.Test.YtgihiaaodkkkbaaGreatDoorG31
import Derived.Test.YtgihiaaodkkkbaaGreatDoorG32
namespace Go.Proofs.YtgihiaaodkkkbaaGreatDoor
open Go.RowKit

end Go.Proofs.YtgihiaaodkkkbaaGreatDoor
namespace Go.Proofs.YtgihiaaodkkkbaaGreatDoor
open Go.RowKit

theorem nprod_take_succ {L : List ByteArray} {k : Nat} (h : k < L.length) : Dt.nprod ((L.take (k + 1)).map natOf) = Dt.nprod ((L.take k).map natOf) * natOf (nt L k) := by
 rw [List.take_add_one, List.getElem?_eq_getElem h, List.map_append, Dt.nprod_append]
 congr 1
 unfold nt
 rw [List.getD_eq_getElem?_getD, List.getElem?_eq_getElem h]
 simp [Dt.nprod]
theorem nprod_take_le {L : List ByteArray} (hp : ∀ x ∈ L, 0 < natOf x) (k : Nat) : Dt.nprod ((L.take k).map natOf) ≤ Dt.nprod (L.map natOf) := by
 conv => rhs; rw [← List.take_append_drop k L, List.map_append, Dt.nprod_append]
 refine Nat.le_mul_of_pos_right _ (Dt.nprod_pos fun x hx => ?_)
 rw [List.mem_map] at hx
 obtain ⟨y, hy, rfl⟩ := hx
 exact hp y (List.mem_of_mem_drop hy)
theorem nfZ_div {cur : Int} {g : Nat} (hg : 0 < g) (hd : g ∣ cur.natAbs) : nfZ (cur / (g : Int)) = nfZ cur ∧ sfZ (cur / (g : Int)) = strOf (cur.natAbs / g) := by
 have hd' : (g : Int) ∣ cur := Int.ofNat_dvd_left.2 hd
 refine ⟨?_, ?_⟩
 ·unfold nfZ
  by_cases c : cur < 0
  ·rw [decide_eq_true c, decide_eq_true (Int.ediv_neg_of_neg_of_pos c (by omega))]
  ·rw [decide_eq_false c, decide_eq_false (by have := Int.ediv_nonneg (a := cur) (b := g) (by omega) (by omega); omega)]
 ·unfold sfZ
  rw [Int.natAbs_ediv_of_dvd hd']
  simp

set_option maxRecDepth 100000 in
set_option maxHeartbeats 8000000 in
theorem over_any (N : Int) (v : Value) (L : List ByteArray) (w : World) (hT : Tab w) (hv : RdS w v L) (hL : L.length ≤ 1000) (ho : ∀ x ∈ L, OkS x ∧ 0 < natOf x ∧ x.size ≤ 8000) {K : Nat} (hK : K ≤ 8000) (hN : Bd N K) (hP : Dt.nprod (L.map natOf) < 256 ^ K) :
  Calls Tryz.prog 76 #[.agg #[.bool (nfZ N), .string (sfZ N)], v] w fun e w' => e = .returned (qI (mkRat N (Dt.nprod (L.map natOf)))) ∧ Below w.heap.size w w' := by
 obtain ⟨a, cap, rfl, -, -⟩ := id hv
 replace hv := shut hv
 replace ho := shut ho
 replace hT := shut hT
 replace hN := shut hN
 replace hP := shut hP
 generalize hM : L.length = m at *
 go_enter Tryz.func76, Tryz.ntmps76
 go_wp2_with fail
 obtain ⟨w1, hw, ka, kr, b1⟩ := mk2 w [.bool (nfZ N), .string (sfZ N)] [.bool false, .string { data := #[] }, .string { data := #[] }] 30 32
 rw [← hw]
 clear hw
 go_loopw [5, 14] (fun dv i wr => ∃ (k : Nat) (cur : Int) (den e : Nat), k ≤ m ∧ i = .int .i64 k ∧ dv = .string (strOf den) ∧ N = cur * e ∧ Dt.nprod ((L.take k).map natOf) = den * e ∧ 0 < e ∧ 0 < den ∧ Nat.gcd cur.natAbs den = 1 ∧ Cel wr w.heap.size [.bool (nfZ cur), .string (sfZ cur)] 30 ∧ Cel wr (w.heap.size + 1) [.bool false, .string { data := #[] }, .string { data := #[] }] 32 ∧ Below w.heap.size w wr) (fun _ i _ => m - (intOf i).toNat)
 case atStart => exact ⟨0, N, 1, 1, by omega, rfl, by rw [strOf_one], by simp, rfl, by omega, by omega, by simp, ka, kr, b1⟩
 case round =>
  clear ka kr b1
  obtain ⟨k, cur, den, ee, hk, rfl, rfl, i1, i2, i3, i4, i5, ka, kr, bb⟩ := hrel
  by_cases hkn : k < m
  ·have hkL : k < L.length := by omega
   obtain ⟨a', cap', e', -, hc⟩ := hv.out.below bb
   simp only [Value.slice.injEq] at e'
   obtain ⟨rfl, -, rfl⟩ := e'
   obtain ⟨b, off, rfl, h0⟩ := hc k (by omega)
   clear hc
   obtain ⟨od, pd, zd⟩ := ho.out _ (nt_mem hkL)
   have hs := nprod_take_succ hkL
   have hpos : ∀ x ∈ L, 0 < natOf x := fun x hx => (ho.out x hx).2.1
   have lcur : cur.natAbs ≤ N.natAbs := by rw [i1, Int.natAbs_mul]; simpa using Nat.le_mul_of_pos_right cur.natAbs i3
   have bcur : Bd cur K := hN.out.le lcur
   have zcur : (sfZ cur).size ≤ K := bcur.size
   have lden : den < 256 ^ K := by
    have h1 := nprod_take_le hpos k
    rw [i2] at h1
    have h2 := Nat.le_mul_of_pos_right den i3
    exact Nat.lt_of_le_of_lt (Nat.le_trans h2 h1) hP.out
   have zden : (strOf den).size ≤ K := strOf_lt lden
   clear lden lcur
   by_cases e1 : nt L k = ⟨#[1]⟩
   ·have F : Hid (Dt.nprod ((L.take (k + 1)).map natOf) = den * ee) := by show _ = _; rw [hs, e1, natOf_one, Nat.mul_one, i2]
    have e2 := eq1' e1
    replace i1 := shut i1
    replace i2 := shut i2
    replace i3 := shut i3
    replace i4 := shut i4
    replace i5 := shut i5
    clear e1 hs zcur zden
    go_wp2
    exact ⟨⟨k + 1, cur, den, ee, by omega, by go_num, rfl, i1.out, F.out, i3.out, i4.out, i5.out, ka, kr, bb⟩, by simp [intOf]; omega⟩
   ·obtain ⟨g, hg⟩ : ∃ g, g = Nat.gcd cur.natAbs (natOf (nt L k)) := ⟨_, rfl⟩
    obtain ⟨f1, f2, f3, f4, f5⟩ := Dt.over_step i1 i2 i3 pd i4 i5 hg
    have g0 : 0 < g := by rw [hg]; exact Nat.gcd_pos_of_pos_right _ pd
    have gn : g ∣ cur.natAbs := by rw [hg]; exact Nat.gcd_dvd_left ..
    have gd : g ∣ natOf (nt L k) := by rw [hg]; exact Nat.gcd_dvd_right ..
    obtain ⟨n1, n2⟩ := nfZ_div g0 gn
    have HD := shut (fun w1 => ldivide_nat (sfZ cur) (nt L k) w1 (okS_sfZ cur) od (by omega) (by omega) pd)
    rw [natOf_sfZ] at HD
    obtain ⟨R, hR⟩ : ∃ R, R = cur.natAbs % natOf (nt L k) := ⟨_, rfl⟩
    rw [← hR] at HD
    have lR : R < natOf (nt L k) := by rw [hR]; exact Nat.mod_lt _ pd
    have zR : (strOf R).size ≤ 8000 := Nat.le_trans (strOf_lt (Nat.lt_trans lR (natOf_lt _))) zd
    have HG : Hid (∀ w1, Below w.heap.size w w1 → Calls Tryz.prog 108 #[.agg #[.bool false, .string (strOf R)], .agg #[.bool false, .string (nt L k)]] w1 fun e w' => e = .returned (.tuple #[.agg #[.bool false, .string (strOf g)], .int .i64 0]) ∧ Below w1.heap.size w1 w') := fun w1 b => by
     have := zgcd_ok false false (strOf R) (nt L k) w1 (okZ_false (okS_strOf R)) (okZ_false od) (by omega) (by omega) (hT.out.below b)
     have eg : Nat.gcd R (natOf (nt L k)) = g := by rw [hg, hR, Nat.gcd_comm cur.natAbs, Nat.gcd_rec (natOf (nt L k)) cur.natAbs]
     rw [natOf_strOf, eg, zI_nz] at this
     exact this
    have lg : g ≤ natOf (nt L k) := Nat.le_of_dvd pd gd
    have zg : (strOf g).size ≤ 8000 := Nat.le_trans (strOf_lt (Nat.lt_of_le_of_lt lg (natOf_lt _))) zd
    have H3 := shut (fun w1 => ldivide_nat (sfZ cur) (strOf g) w1 (okS_sfZ cur) (okS_strOf g) (by omega) (by omega) (by rw [natOf_strOf]; exact g0))
    have H4 := shut (fun w1 => ldivide_nat (nt L k) (strOf g) w1 od (okS_strOf g) (by omega) (by omega) (by rw [natOf_strOf]; exact g0))
    rw [natOf_sfZ, natOf_strOf] at H3
    rw [natOf_strOf] at H4
    have zq : (strOf (natOf (nt L k) / g)).size ≤ 8000 := Nat.le_trans (strOf_lt (Nat.lt_of_le_of_lt (Nat.div_le_self _ _) (natOf_lt _))) zd
    have H5 := shut (fun w1 => lmul_nat (strOf den) (strOf (natOf (nt L k) / g)) w1 (okS_strOf den) (okS_strOf _) (by omega) (by omega))
    rw [natOf_strOf, natOf_strOf] at H5
    rw [← n2] at H3
    have F : Hid (Dt.nprod ((L.take (k + 1)).map natOf) = den * (natOf (nt L k) / g) * (ee * g)) := by show _ = _; rw [hs, f2]
    have e2 := ne1' e1
    have oX : Hid (nt L k = strOf (natOf (nt L k))) := (strOf_natOf od).symm
    have H6 := shut (fun w1 => lmul_nat (strOf den) (nt L k) w1 (okS_strOf den) od (by omega) (by omega))
    rw [natOf_strOf] at H6
    replace f1 := shut f1
    replace f3 := shut f3
    replace f4 := shut f4
    replace f5 := shut f5
    replace n1 := shut n1
    replace i3 := shut i3
    clear i1 i2 i4 i5 hs zcur zden f2 hR lR zR lg zg zq gn gd n2 bcur hpos e1 hg g0 pd od zd hkL oX
    have c0 := cel2_0' ka
    have c1 := cel2_1' ka
    go_wp2_with fail
    go_fit (HD.out _)
    rintro e w2 ⟨rfl, b1⟩
    replace ka := ka.below b1
    replace kr := kr.below b1
    replace bb := Below.after bb b1
    clear b1 c0 c1 h0
    go_wp2_with fail
    go_fit (HG.out _ bb)
    rintro e w3 ⟨rfl, b1⟩
    replace ka := ka.below b1
    replace kr := kr.below b1
    replace bb := Below.after bb b1
    clear b1 HD HG
    by_cases hg1 : g = 1
    ·subst hg1
     have e3 : ((strOf 1).toList == [1]) = true := eq1' strOf_one
     have F1 : Hid (N = cur * ee ∧ 0 < den * natOf (nt L k) ∧ Nat.gcd cur.natAbs (den * natOf (nt L k)) = 1 ∧ Dt.nprod ((L.take (k + 1)).map natOf) = den * natOf (nt L k) * ee) := by
      have a1 := f1.out
      have a2 := f4.out
      have a3 := f5.out
      have a4 := F.out
      simp only [Nat.mul_one, Nat.div_one, Int.natCast_one, Int.ediv_one] at a1 a2 a3 a4
      exact ⟨by simpa using a1, a2, by simpa using a3, a4⟩
     clear f1 f3 f4 f5 n1 H3 H4 H5 F
     go_wp2_with fail
     go_fit (H6.out _)
     rintro e w4 ⟨rfl, b1⟩
     obtain ⟨-, b1⟩ := al1 b1
     replace ka := ka.below b1
     replace kr := kr.below b1
     replace bb := Below.after bb b1
     clear b1 H6
     go_wp2
     exact ⟨⟨k + 1, cur, den * natOf (nt L k), ee, by omega, by go_num, rfl, F1.out.1, F1.out.2.2.2, i3.out, F1.out.2.1, F1.out.2.2.1, ka, kr, bb⟩, by simp [intOf]; omega⟩
    ·have e3 : ((strOf g).toList == [1]) = false := ne1' (fun e => hg1 (by rw [← natOf_strOf g, e, natOf_one]))
     have hne : ¬ w3.heap.size = w.heap.size := by have := ka.lt; omega
     have hne' : ¬ w.heap.size = w3.heap.size := by have := ka.lt; omega
     have c0 := cel2_0' (ka.alloc (.cells #[.bool false, .string (strOf g)] 30))
     have c1 := cel2_1' (ka.alloc (.cells #[.bool false, .string (strOf g)] 30))
     go_wp2_with fail
     go_fit (H3.out _)
     rintro e w4 ⟨rfl, b1⟩
     obtain ⟨kc, b1⟩ := al1 b1
     replace ka := ka.below b1
     replace kr := kr.below b1
     replace bb := Below.after bb b1
     clear b1 H3 c0 c1
     have c1 := cel2_1' ka
     have f1' := Cel.frozen ka 1
     have c2 := cel2_1' kc
     go_wp2_with fail
     obtain ⟨w5, hw⟩ : ∃ x, x = w4.setCell ⟨w.heap.size, 1, none⟩ (.string (sfZ (cur / (g : Int)))) := ⟨_, rfl⟩
     rw [← hw]
     replace ka := ka.set 1 (.string (sfZ (cur / (g : Int))))
     replace kr := Cel.other (g' := w.heap.size) kr (by omega) 1 (.string (sfZ (cur / (g : Int))))
     replace bb := bset (g := w.heap.size) bb (Nat.le_refl _) 1 (.string (sfZ (cur / (g : Int))))
     rw [← hw] at ka kr bb
     clear hw c1 f1' c2 kc
     go_fit (H4.out _)
     rintro e w6 ⟨rfl, b1⟩
     replace ka := ka.below b1
     replace kr := kr.below b1
     replace bb := Below.after bb b1
     clear b1 H4
     go_wp2_with fail
     go_fit (H5.out _)
     rintro e w7 ⟨rfl, b1⟩
     replace ka := ka.below b1
     replace kr := kr.below b1
     replace bb := Below.after bb b1
     clear b1 H5
     have ka' : Hid (Cel w7 w.heap.size [.bool (nfZ (cur / (g : Int))), .string (sfZ (cur / (g : Int)))] 30) := by
      show Cel _ _ _ _
      rw [n1.out]; exact ka
     clear ka
     go_wp2
     exact ⟨⟨k + 1, cur / (g : Int), den * (natOf (nt L k) / g), ee * g, by omega, by go_num, rfl, f1.out, F.out, f3.out, f4.out, f5.out, ka'.out, kr, bb⟩, by simp [intOf]; omega⟩
  ·obtain rfl : k = m := by omega
   have F : Hid (qI (mkRat N (Dt.nprod (L.map natOf))) = .agg #[.bool (nfZ cur), .string (sfZ cur), .string (strOf den)]) := by
    show _ = _
    rw [List.take_of_length_le (by omega)] at i2
    obtain ⟨q1, q2⟩ := Dt.over_end i1 i2 i3 i4 i5
    exact qI_of ⟨q1, q2⟩ (zI_nz cur) rfl
   clear i1 i2 i3 i4 i5
   have c0 := cel2_0' ka
   have c1 := cel2_1' ka
   have d0 := cel3_0 kr
   have d1 := cel3_1 kr
   have d2 := cel3_2 kr
   have f0 := Cel.frozen kr 0
   have f1 := Cel.frozen kr 1
   have f2 := Cel.frozen kr 2
   go_wp2
   refine post_q (p := 4) (by kernel_rfl) rfl rfl (((kr.set 0 _).set 1 _).set 2 _) ⟨by rw [F.out], bset (bset (bset bb (by omega) 0 _) (by omega) 1 _) (by omega) 2 _⟩
end Go.Proofs.YtgihiaaodkkkbaaGreatDoor
