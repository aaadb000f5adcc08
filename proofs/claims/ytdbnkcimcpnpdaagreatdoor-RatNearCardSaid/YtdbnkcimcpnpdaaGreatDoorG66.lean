/-
  gussetlaw03.RatNear, of any number.
-/
import Derived.Test.YtdbnkcimcpnpdaaGreatDoorG52
import Derived.Test.YtdbnkcimcpnpdaaGreatDoorG64
import Derived.Test.YtdbnkcimcpnpdaaGreatDoorG65
namespace Go.Proofs.YtdbnkcimcpnpdaaGreatDoor
open Go.RowKit Go.Shelf

theorem bd_nat' {m k : Nat} (h : m < 256 ^ k) : Bd ((m : Nat) : Int) k := by unfold Bd; rw [Int.natAbs_natCast]; exact h
theorem near_any (n : Bool) (s d : ByteArray) (p : Nat) (w : World) (hT : Tab w) (hP : TabP w) (hc : chkq n s d = 0) (hp : p ≤ 15) (zs : s.size ≤ 16) (zd : d.size ≤ 24) :
  Calls Tryz.prog 8 #[.agg #[.bool n, .string s, .string d], .int .i64 (p : Int)] w fun e w' => e = .returned (.bool true) ∧ Below w.heap.size w w' := by
 have HL : Hid (∀ w1, Below w.heap.size w w1 → Calls Tryz.prog 10 #[] w1 fun e w' => e = .returned (.bool true) ∧ Below w1.heap.size w1 w') := fun w1 b => live3_any w1 (hT.below b) (hP.bel b)
 have o := (chkq_zero hc).1
 have K0 := fun w1 => refc_any n s d w1 (by omega) (by omega)
 rw [hc] at K0
 obtain ⟨nf, sf, df, hf, hok, hsz, hq, hback⟩ := named3
 obtain ⟨M, hM⟩ : ∃ M, M = rnat (natOf s * 10 ^ p) (natOf d) := ⟨_, rfl⟩
 have hrn : rnd (zOf n s * ((10 ^ p : Nat) : Int)) (natOf d) = sgn n M := by rw [rnd_zOf n s p (natOf d) o.2.2.1, hM]
 have hMs : M < 256 ^ 24 := by
  have h1 : natOf s < 256 ^ 16 := Nat.lt_of_lt_of_le (natOf_lt s) (Nat.pow_le_pow_right (by omega) zs)
  have h2 : 10 ^ p ≤ 10 ^ 15 := Nat.pow_le_pow_right (by omega) hp
  have h3 : natOf s * 10 ^ p ≤ 256 ^ 16 * 10 ^ 15 := Nat.mul_le_mul (Nat.le_of_lt h1) h2
  have h4 : M ≤ natOf s * 10 ^ p + 1 := by
   rw [hM]
   unfold rnat
   have := Nat.div_le_self (natOf s * 10 ^ p) (natOf d)
   split <;> omega
  have h5 : 256 ^ 16 * 10 ^ 15 + 1 < 256 ^ 24 := by decide
  omega
 have zM : (strOf M).size ≤ 24 := strOf_lt hMs
 have hWs : 10 ^ p < 256 ^ 8 := Nat.lt_of_le_of_lt (Nat.pow_le_pow_right (by omega) hp) (show 10 ^ 15 < 256 ^ 8 by decide)
 have hWp : 0 < 10 ^ p := Nat.pow_pos (by omega)
 have hW2 : 10 ^ p * 2 < 256 ^ 9 := by
  rw [Nat.pow_succ 256 8]
  generalize 256 ^ 8 = b at hWs
  omega
 have hD0 := fun (w1 : World) (b : Below w.heap.size w w1) => qdec_ok n s d p w1 (hT.below b) (hP.bel b) hc (by omega) (K := 60) (by omega) (by omega) (by omega)
 rw [hrn] at hD0
 obtain ⟨b, T, hb, hR, hTn, hTs⟩ := txt_sign n M p
 obtain ⟨R, eR⟩ : ∃ R, R = dtxt (sgn n M) p := ⟨_, rfl⟩
 have hall := dgs_all n M p
 rw [← eR] at hR hD0 hall
 have hM0 : 0 < (strOf M).size ↔ 0 < M := by
  have := okS_nil (okS_strOf M)
  rw [natOf_strOf] at this
  omega
 have hRs : 0 < R.size := by
  rw [hR]
  split
  ·rw [app_size]; omega
  ·exact hTs
 have hRle : R.size ≤ 1000 := by
  have h1 := point_le M p (by omega) zM
  rw [eR, dtxt_sgn]
  split
  ·rw [app_size]
   have : (ByteArray.mk #[45]).size = 1 := rfl
   omega
  ·omega
 have hsg : ∀ i : Nat, R.data.toList[i]? = some (45 : UInt8) → i = 0 := fun i h => (head_only b T R hR hTn i h).1
 have hb0 : R[0]'hRs = 45 ↔ b = true := by
  constructor
  ·intro h
   exact (head_only b T R hR hTn 0 (by rw [get_at R 0 hRs, h])).2
  ·intro h
   rw [h, if_pos rfl] at hR
   have e : R.data.toList = 45 :: T.data.toList := by rw [hR]; simp
   have h2 := get_at R 0 hRs
   rw [e] at h2
   simpa using h2.symm
 -- what is read again
 obtain ⟨X, eX⟩ : ∃ X, X = ptxt b (strOf M) := ⟨_, rfl⟩
 have okb : OkZ b (strOf M) := ⟨okS_strOf M, fun h => by
  rw [hb] at h
  simp at h
  exact h.2⟩
 have hzb : zOf b (strOf M) = sgn n M := by
  have e0 : zOf b (strOf M) = sgn b M := by unfold zOf sgn; rw [natOf_strOf]
  rw [e0]
  cases n with
  | false => rw [hb]; rfl
  | true =>
   by_cases h : 0 < M
   ·rw [hb, decide_eq_true (hM0.2 h)]; rfl
   ·have : M = 0 := by omega
    subst this
    cases b <;> rfl
 have HX : (dgs R R.size = ByteArray.empty ∧ X = ⟨#[48]⟩) ∨ ((dgs R R.size).toList.isEmpty = false ∧ R[0]'hRs = 45 ∧ X = ⟨#[45]⟩ ++ dgs R R.size) ∨ ((dgs R R.size).toList.isEmpty = false ∧ ¬ R[0]'hRs = 45 ∧ X = dgs R R.size) := by
  rw [hall, eX]
  unfold ptxt
  rw [natOf_strOf]
  by_cases h : M = 0
  ·subst h
   exact Or.inl ⟨rfl, if_pos rfl⟩
  ·have hd := dt_head (M + 1) M (by omega) (by omega)
   have hne : dt M ≠ [] := by intro e; rw [e] at hd; exact absurd hd.1 (by simp)
   rw [if_neg hne]
   cases hbb : b with
   | true => exact Or.inr (Or.inl ⟨strB_ne hne, hb0.2 hbb, by rw [if_pos rfl, strB_cons]; rfl⟩)
   | false => exact Or.inr (Or.inr ⟨strB_ne hne, (fun h => by rw [hb0.1 h] at hbb; cases hbb), if_neg (by simp)⟩)
 have HN := fun w1 => rparse_ptxt b (strOf M) w1 okb zM
 rw [← eX] at HN
 have one : ∀ (m : Nat) w1, m < 9223372036854775808 → Calls Tryz.prog 31 #[.int .i64 ((m : Nat) : Int)] w1 fun e w' => e = .returned (.agg #[.bool false, .string (strOf m)]) ∧ Below w1.heap.size w1 w' := fun m w1 hm => by
  have := rof_any ((m : Nat) : Int) (by omega) (by omega) w1
  rwa [nat_zI] at this
 have tim : ∀ (x y : Nat) w1, x < 256 ^ 24 → y < 256 ^ 24 → Calls Tryz.prog 32 #[.agg #[.bool false, .string (strOf x)], .agg #[.bool false, .string (strOf y)]] w1 fun e w' => e = .returned (.agg #[.bool false, .string (strOf (x * y))]) ∧ Below w1.heap.size w1 w' := fun x y w1 hx hy => by
  have := rtimes_any false false (strOf x) (strOf y) w1 (Nat.le_trans (strOf_lt hx) (by omega)) (Nat.le_trans (strOf_lt hy) (by omega))
  rwa [nat_zOf, nat_zOf, ← Int.natCast_mul, nat_zI] at this
 have low : ∀ (nx : Bool) (x y : Nat) w1, OkZ nx (strOf x) → x < 256 ^ 24 → y < 256 ^ 24 → 0 < y → Calls Tryz.prog 33 #[.agg #[.bool nx, .string (strOf x)], .agg #[.bool false, .string (strOf y)]] w1 fun e w' => e = .returned (qI (Rat.divInt (zOf nx (strOf x)) ((y : Nat) : Int))) ∧ Below w1.heap.size w1 w' := fun nx x y w1 ox hx hy hy0 => by
  have := low_any nx false (strOf x) (strOf y) w1 ox (okz_nat y) (Nat.le_trans (strOf_lt hx) (by omega)) (Nat.le_trans (strOf_lt hy) (by omega)) (by rw [natOf_strOf]; exact hy0)
  rwa [nat_zOf] at this
 obtain ⟨told, htold⟩ : ∃ t, t = Rat.divInt (sgn n M) ((10 ^ p : Nat) : Int) := ⟨_, rfl⟩
 obtain ⟨half, hhalf⟩ : ∃ h, h = Rat.divInt 1 (((10 ^ p : Nat) : Int) * 2) := ⟨_, rfl⟩
 have bt : Bq told 24 := by
  rw [htold, Rat.divInt_ofNat]
  refine bq_mk hWp ?_ ((bd_nat' hWs).mono (by omega))
  unfold Bd
  have : (sgn n M).natAbs = M := by cases n <;> simp [sgn]
  rw [this]
  exact hMs
 have bh : Bq half 24 := by
  have e : (((10 ^ p : Nat) : Int) * 2) = ((10 ^ p * 2 : Nat) : Int) := by rw [Int.natCast_mul]; rfl
  rw [hhalf, e, Rat.divInt_ofNat]
  exact bq_mk (by omega) (bd_one 24 (by omega)) ((bd_nat' hW2).mono (by omega))
 have ba := o.bq (k := 24) (by omega) zd
 have bf : Bq (told - qOf n s d) 49 := Bq.mono (bq_sub bt ba) (by omega)
 have st := hsz told 24 bt
 have sh := hsz half 24 bh
 have sF := hsz (told - qOf n s d) 49 bf
 have HLo : ∀ w1, Calls Tryz.prog 33 #[.agg #[.bool b, .string (strOf M)], .agg #[.bool false, .string (strOf (10 ^ p))]] w1 fun e w' => e = .returned (.agg #[.bool (nf told), .string (sf told), .string (df told)]) ∧ Below w1.heap.size w1 w' := fun w1 => by
  have := low b M (10 ^ p) w1 okb hMs (Nat.lt_of_lt_of_le hWs (Nat.pow_le_pow_right (by omega) (by omega))) hWp
  rwa [hzb, ← htold, hf] at this
 have HLe : ∀ w1, Calls Tryz.prog 17 #[.agg #[.bool (nf told), .string (sf told), .string (df told)], .agg #[.bool n, .string s, .string d]] w1 fun e w' => e = .returned (.agg #[.bool (nf (told - qOf n s d)), .string (sf (told - qOf n s d)), .string (df (told - qOf n s d))]) ∧ Below w1.heap.size w1 w' := fun w1 => by
  have := rlessq_any (nf told) n (sf told) (df told) s d w1 (hok told) o (K := 24) (by omega) st.1 st.2 (by omega) zd
  rwa [hq, hf] at this
 have HH : ∀ w1, Calls Tryz.prog 33 #[.agg #[.bool false, .string (strOf (10 ^ 0))], .agg #[.bool false, .string (strOf (10 ^ p * 2))]] w1 fun e w' => e = .returned (.agg #[.bool (nf half), .string (sf half), .string (df half)]) ∧ Below w1.heap.size w1 w' := fun w1 => by
  have := low false 1 (10 ^ p * 2) w1 (okz_nat 1) (by decide) (Nat.lt_of_lt_of_le hW2 (Nat.pow_le_pow_right (by omega) (by omega))) (by omega)
  rw [nat_zOf, show ((1 : Nat) : Int) = 1 from rfl, Int.natCast_mul, show ((2 : Nat) : Int) = 2 from rfl, ← hhalf, hf] at this
  exact this
 have okf : OkQ false (sf (told - qOf n s d)) (df (told - qOf n s d)) := ⟨⟨(hok (told - qOf n s d)).1.1, fun h => by cases h⟩, (hok (told - qOf n s d)).2⟩
 have HO : ∀ w1, Calls Tryz.prog 15 #[.agg #[.bool false, .string (sf (told - qOf n s d)), .string (df (told - qOf n s d))], .agg #[.bool (nf half), .string (sf half), .string (df half)]] w1 fun e w' => e = .returned (.int .i64 (Q.cmp (qOf false (sf (told - qOf n s d)) (df (told - qOf n s d))) half)) ∧ Below w1.heap.size w1 w' := fun w1 => by
  have := rorderq_any false (nf half) (sf (told - qOf n s d)) (df (told - qOf n s d)) (sf half) (df half) w1 okf (hok half) (K := 49) (by omega) sF.1 sF.2 (by omega) (by omega)
  rwa [hq half] at this
 have hle : Q.cmp (qOf false (sf (told - qOf n s d)) (df (told - qOf n s d))) half ≤ 0 := by
  rw [hhalf]
  exact cmp_near n s d p o (told - qOf n s d) _ _ _ (hok _) (hq _) (by rw [hrn, htold])
 exact near_ok n b (nf told) (nf (told - qOf n s d)) (nf half) s d R X (strOf M) (sf told) (df told) (sf (told - qOf n s d)) (df (told - qOf n s d)) (sf half) (df half) (strOf 2) (strOf 10) (strOf (10 ^ p * 2)) (dgs R) (fun i => strOf (10 ^ i)) p _ (by omega) (by omega) hp hRs hRle rfl
  (fun i => by
   show (flt [] (R.data.toList.take i)).toArray.size ≤ i
   have := flt_len [] (R.data.toList.take i)
   simp only [List.size_toArray]
   simp only [List.length_nil, List.length_take] at this
   omega)
  (shut (dgs_cases R hsg)) (shut HX) hle w HL K0 hD0 HN (fun w1 => one 1 w1 (by omega)) (fun w1 => one 10 w1 (by omega)) (fun w1 => one 2 w1 (by omega))
  (fun i w1 hi => by
   have := tim (10 ^ i) 10 w1 (Nat.lt_of_le_of_lt (Nat.pow_le_pow_right (by omega) (by omega : i ≤ 15)) (show 10 ^ 15 < 256 ^ 24 by decide)) (by decide)
   rwa [← Nat.pow_succ] at this)
  (fun w1 => tim (10 ^ p) 2 w1 (Nat.lt_of_lt_of_le hWs (Nat.pow_le_pow_right (by omega) (by omega))) (by decide)) HLo HLe HH HO
theorem near_law (n0 : Bool) (s0 d0 : ByteArray) (P : Int) (w : World) (hT : Tab w) (hP : TabP w) :
  Calls Tryz.prog 8 #[.agg #[.bool n0, .string s0, .string d0], .int .i64 P] w fun e w' => e = .returned (.bool true) ∧ Below w.heap.size w w' := by
 have HL : Hid (∀ w1, Below w.heap.size w w1 → Calls Tryz.prog 10 #[] w1 fun e w' => e = .returned (.bool true) ∧ Below w1.heap.size w1 w') := fun w1 b => live3_any w1 (hT.below b) (hP.bel b)
 by_cases l0 : (16 : Int) < s0.size
 ·exact near_l1 n0 s0 d0 P l0 w HL
 by_cases l1 : (24 : Int) < d0.size
 ·exact near_l2 n0 s0 d0 P l0 l1 w HL
 have K := fun w1 => refc_any n0 s0 d0 w1 (by omega) (by omega)
 by_cases hc : chkq n0 s0 d0 = 0
 ·rw [hc] at K
  by_cases p0 : P < 0
  ·exact near_l4 n0 s0 d0 P l0 l1 p0 w HL K
  by_cases p1 : 15 < P
  ·exact near_l5 n0 s0 d0 P l0 l1 p0 p1 w HL K
  obtain ⟨p, rfl⟩ : ∃ p : Nat, P = (p : Int) := ⟨P.toNat, by omega⟩
  exact near_any n0 s0 d0 p w hT hP hc (by omega) (by omega) (by omega)
 ·exact near_l3 n0 s0 d0 P l0 l1 _ (by omega) w HL K
end Go.Proofs.YtdbnkcimcpnpdaaGreatDoor
