/-
  Package rat: Decimal.
  gussetlaw03: live.
-/
import Derived.Test.YtdbnkcimcpnpdaaGreatDoorG37
import Derived.Test.YtdbnkcimcpnpdaaGreatDoorG41
namespace Go.Proofs.YtdbnkcimcpnpdaaGreatDoor
open Go.RowKit Go.Shelf

/-- The digits of a number, as many noughts ahead as places want. -/
def dfull (M : Nat) (p : Nat) : ByteArray := (⟨(Lib.repeatL [48] (p + 1 - (ptxt false (strOf M)).size)).toArray⟩ : ByteArray) ++ ptxt false (strOf M)
/-- With its point. -/
def dpoint (T : ByteArray) (p : Nat) : ByteArray := if p = 0 then T else (T.extract 0 (T.size - p) ++ ⟨#[46]⟩) ++ T.extract (T.size - p) T.size
/-- With its sign. -/
def dtxt (M : Int) (p : Nat) : ByteArray := if M < 0 then ⟨#[45]⟩ ++ dpoint (dfull M.natAbs p) p else dpoint (dfull M.natAbs p) p
theorem bd_one (k : Nat) (hk : 0 < k) : Bd (1 : Int) k := by
 unfold Bd
 exact Nat.one_lt_pow (by omega) (by omega)
theorem bd_rnd {n : Int} {k : Nat} (d : Nat) (hk : 0 < k) (h : Bd n k) : Bd (rnd n d) (k + 1) := by
 have hq : Bd (n / (d : Int)) k := h.le (Int.natAbs_ediv_le_natAbs n d)
 unfold rnd
 split
 ·exact hq.add (bd_one k hk)
 ·exact hq.mono (by omega)
theorem app_size (a b : ByteArray) : (a ++ b).size = a.size + b.size := by simp
theorem ext_size (T : ByteArray) (i j : Nat) : (T.extract i j).size ≤ T.size := by
 rw [ByteArray.size_extract]
 omega
theorem qdec_ok (n : Bool) (s d : ByteArray) (p : Nat) (w : World) (hT : Tab w) (hP : TabP w) (h : chkq n s d = 0) (hp : p ≤ 100) {K : Nat} (hK : K ≤ 250) (zs : s.size ≤ K) (zd : d.size ≤ K) :
  Calls Tryz.prog 28 #[.agg #[.bool n, .string s, .string d], .int .i64 (p : Nat)] w fun e w' => e = .returned (.tuple #[.string (dtxt (rnd (zOf n s * ((10 ^ p : Nat) : Int)) (natOf d)) p), .int .i64 0]) ∧ Below w.heap.size w w' := by
 obtain ⟨nf, sf, hf, hok, hsz, hz, hnat, hneg, hstr, hnn, hfn⟩ := named0
 obtain ⟨o, -, -⟩ := chkq_zero h
 obtain ⟨X, hX⟩ : ∃ X, X = zOf n s * ((10 ^ p : Nat) : Int) := ⟨_, rfl⟩
 obtain ⟨M, hM⟩ : ∃ M, M = rnd X (natOf d) := ⟨_, rfl⟩
 have b10 : Bd ((10 ^ p : Nat) : Int) (p + 1) := by
  unfold Bd
  rw [Int.natAbs_natCast]
  exact Nat.lt_of_le_of_lt (Nat.pow_le_pow_left (by omega) p) (Nat.pow_lt_pow_right (by omega) (by omega))
 have bX : Bd X (K + (p + 1)) := by rw [hX]; exact (bd_zOf zs).mul b10
 have bM : Bd M (K + (p + 1) + 1) := by rw [hM]; exact bd_rnd _ (by omega) bX
 have HC : Hid (∀ w1, Below w.heap.size w w1 → Calls Tryz.prog 46 #[.agg #[.bool n, .string s, .string d]] w1 fun e w' => e = .returned (.int .i64 0) ∧ Below w1.heap.size w1 w') := by
  intro w1 b
  have := rchk_any n s d w1 (hT.below b)
  rwa [h] at this
 have H1 : Hid (∀ w1, Calls Tryz.prog 61 #[.int .i64 (p : Nat)] w1 fun e w' => e = .returned (.agg #[.bool false, .string (sf ((10 ^ p : Nat) : Int))]) ∧ Below w1.heap.size w1 w') := by
  intro w1
  have := power_ok p hp w1
  rwa [hfn] at this
 have H2 : Hid (∀ w1, Calls Tryz.prog 41 #[.agg #[.bool n, .string s], .agg #[.bool false, .string (sf ((10 ^ p : Nat) : Int))]] w1 fun e w' => e = .returned (.agg #[.bool (nf X), .string (sf X)]) ∧ Below w1.heap.size w1 w') := by
  intro w1
  have := times_ok n false s (sf ((10 ^ p : Nat) : Int)) w1 o.1 ⟨(hok _).1, fun h => by cases h⟩ (by omega) (Nat.le_trans (hsz _ _ b10) (by omega))
  rwa [zOf_false, hnn, ← hX, hf] at this
 have H3 : Hid (∀ w1, Calls Tryz.prog 60 #[.agg #[.bool (nf X), .string (sf X)], .agg #[.bool false, .string d]] w1 fun e w' => e = .returned (.agg #[.bool (nf M), .string (strOf M.natAbs)]) ∧ Below w1.heap.size w1 w') := by
  intro w1
  have := rounded_ok (nf X) (sf X) d w1 (hok X) o.2.1 (K := K + (p + 1)) (by omega) (hsz _ _ bX) (by omega) o.2.2.1
  rw [hz, ← hM, hf] at this
  have e : sf M = strOf M.natAbs := by rw [← strOf_natOf (hok M).1, hnat]
  rwa [e] at this
 have bm : (strOf M.natAbs).size ≤ 400 := Nat.le_trans bM.size (by omega)
 obtain ⟨t, ht⟩ : ∃ t, t = ptxt false (strOf M.natAbs) := ⟨_, rfl⟩
 have H4 : Hid (∀ w1, Below w.heap.size w w1 → Calls Tryz.prog 58 #[.agg #[.bool false, .string (strOf M.natAbs)]] w1 fun e w' => e = .returned (.tuple #[.string t, .int .i64 0]) ∧ Below w1.heap.size w1 w') := by
  intro w1 b
  rw [ht]
  exact pint false _ w1 (hP.bel b) ⟨okS_strOf _, fun h => by cases h⟩ bm
 have st : t.size ≤ 1201 := by rw [ht]; exact ptxt_size false _ bm
 obtain ⟨k, hk⟩ : ∃ k, k = p + 1 - t.size := ⟨_, rfl⟩
 have H5 : Hid (∀ w1, Calls Tryz.prog 62 #[.string ⟨#[48]⟩, .int .i64 ((k : Nat) : Int)] w1 fun e w' => e = .returned (.string ⟨(Lib.repeatL [48] k).toArray⟩) ∧ Below w1.heap.size w1 w') := fun w1 => rep_ok k (by omega) w1
 obtain ⟨T, hTT⟩ : ∃ T, (⟨(Lib.repeatL [48] k).toArray⟩ : ByteArray) ++ t = T := ⟨_, rfl⟩
 have eT : dfull M.natAbs p = T := by unfold dfull; rw [← ht, ← hk]; exact hTT
 have sT : T.size = k + t.size := by rw [← hTT, app_size, rep_size]
 have hkk : max ((p : Int) + 1 - (t.size : Int)) 0 = (k : Int) := by omega
 have eneg : nf M = decide (M < 0) := by
  have := zOf_zI M
  have e1 := hf M
  unfold zI zV at e1
  simp only [Value.agg.injEq] at e1
  have e' : [Value.bool (decide (M < 0)), .string (strOf M.natAbs)] = [.bool (nf M), .string (sf M)] := congrArg Array.toList e1
  simp only [List.cons.injEq, Value.bool.injEq] at e'
  exact e'.1.symm
 rw [← hX, ← hM]
 unfold dtxt
 rw [eT]
 unfold dpoint
 by_cases p0 : p = 0
 ·subst p0
  rw [if_pos rfl]
  by_cases hm : M < 0
  ·rw [if_pos hm]
   rw [eneg, decide_eq_true hm] at H3
   exact dec0_neg n false (nf X) s d _ (sf X) _ t _ T (k : Int) w (by omega) (by rw [rep_size]; omega) (by omega) (by omega) HC H1 H2 H3 H4 H5 (shut hTT)
  ·rw [if_neg hm]
   rw [eneg, decide_eq_false hm] at H3
   exact dec0_pos n false (nf X) s d _ (sf X) _ t _ T (k : Int) w (by omega) (by rw [rep_size]; omega) (by omega) (by omega) HC H1 H2 H3 H4 H5 (shut hTT)
 ·rw [if_neg p0]
  have e1 := ext_size T 0 (T.size - p)
  have e2 := ext_size T (T.size - p) T.size
  by_cases hm : M < 0
  ·rw [if_pos hm]
   rw [eneg, decide_eq_true hm] at H3
   exact dec_neg n false (nf X) s d _ (sf X) _ t _ T _ _ (p : Int) (k : Int) (T.size - p) w (by omega) (by omega) hkk (by rw [rep_size]; omega) (by omega) (by omega) (by omega) (by omega) (by omega) (by omega) HC H1 H2 H3 H4 H5 (shut hTT) (shut rfl) (shut rfl)
  ·rw [if_neg hm]
   rw [eneg, decide_eq_false hm] at H3
   exact dec_pos n false (nf X) s d _ (sf X) _ t _ T _ _ (p : Int) (k : Int) (T.size - p) w (by omega) (by omega) hkk (by rw [rep_size]; omega) (by omega) (by omega) (by omega) (by omega) (by omega) (by omega) HC H1 H2 H3 H4 H5 (shut hTT) (shut rfl) (shut rfl)
end Go.Proofs.YtdbnkcimcpnpdaaGreatDoor
namespace Go.Proofs.YtdbnkcimcpnpdaaGreatDoor
open Go.RowKit Go.Shelf

theorem txt_live1 : dtxt (rnd (-3 * ((10 ^ 0 : Nat) : Int)) 2) 0 = ⟨#[45, 50]⟩ := by decide +kernel
theorem txt_live2 : ptxt true (strOf 3) ++ ⟨#[47]⟩ ++ ptxt false (strOf 2) = ⟨#[45, 51, 47, 50]⟩ := by decide +kernel
theorem divInt_live : Rat.divInt 6 (-4) = mkRat (-3) 2 := by decide +kernel
theorem bd_small (z : Int) (h1 : -200 ≤ z) (h2 : z ≤ 200) : Bd z 1 := by
 unfold Bd
 simp
 omega
theorem live3_any (w : World) (hT : Tab w) (hP : TabP w) : Calls Tryz.prog 10 #[] w fun e w' => e = .returned (.bool true) ∧ Below w.heap.size w w' := by
 obtain ⟨nf, sf, hf, hok, hsz, hz, hnat, hneg, hstr, hnn, hfn⟩ := named0
 have sz : ∀ z : Int, -200 ≤ z → z ≤ 200 → (sf z).size ≤ 1 := fun z a b => hsz z 1 (bd_small z a b)
 have n2 : nf 2 = false := hneg 2
 have n3 : nf (-3) = true := by
  have e1 := hf (-3)
  unfold zI zV at e1
  simp only [Value.agg.injEq] at e1
  have e' : [Value.bool (decide ((-3 : Int) < 0)), .string (strOf (-3 : Int).natAbs)] = [.bool (nf (-3)), .string (sf (-3))] := congrArg Array.toList e1
  simp only [List.cons.injEq, Value.bool.injEq] at e'
  rw [← e'.1]
  rfl
 have s3 : sf (-3) = strOf 3 := by rw [← strOf_natOf (hok (-3)).1, hnat]; rfl
 have s2 : sf 2 = strOf 2 := hstr 2
 have g32 : Nat.gcd (natOf (sf (-3))) (natOf (sf 2)) = 1 := by rw [hnat, hnat]; decide
 have oa : OkQ (nf (-3)) (sf (-3)) (sf 2) := ⟨hok _, (hok 2).1, by rw [hnat]; decide, g32⟩
 have ea : qI (mkRat (-3) 2) = .agg #[.bool (nf (-3)), .string (sf (-3)), .string (sf 2)] := qI_of (Q.mk_low (by omega) (by decide)) (hf _) s2
 have ca : chkq (nf (-3)) (sf (-3)) (sf 2) = 0 := chkq_ok oa (Nat.le_trans (sz _ (by omega) (by omega)) (by omega)) (Nat.le_trans (sz _ (by omega) (by omega)) (by omega))
 have o0 : OkQ false ⟨#[]⟩ ⟨#[1]⟩ := ⟨⟨fun h => absurd h (by decide), fun h => by cases h⟩, by rw [← strOf_one]; exact okS_strOf 1, by rw [natOf_one]; omega, by rw [natOf_one]; exact Nat.gcd_one_right _⟩
 have c0 : chkq false ⟨#[]⟩ ⟨#[1]⟩ = 0 := chkq_ok o0 (by decide) (by decide)
 refine live_walk (nf 6) (nf (-4)) (nf (-3)) false (sf 6) (sf (-4)) (sf (-3)) (sf 2) ⟨#[]⟩ ⟨#[1]⟩ w ?_ ?_ ?_ ?_ ?_ ?_ ?_ ?_
 ·intro w1
  have := rof_any 6 (by omega) (by omega) w1
  rwa [hf] at this
 ·intro w1
  have := rof_any (-4) (by omega) (by omega) w1
  rwa [hf] at this
 ·intro w1 b
  have := make_ok (nf 6) (nf (-4)) (sf 6) (sf (-4)) w1 (hT.below b) (hok _) (hok _) (K := 1) (by omega) (sz _ (by omega) (by omega)) (sz _ (by omega) (by omega)) (by rw [hnat]; decide)
  rwa [hz, hz, divInt_live, ea] at this
 ·intro w1 b
  have := qdec_ok (nf (-3)) (sf (-3)) (sf 2) 0 w1 (hT.below b) (hP.bel b) ca (by omega) (K := 1) (by omega) (sz _ (by omega) (by omega)) (sz _ (by omega) (by omega))
  rw [hz, hnat 2] at this
  rw [show (2 : Int).natAbs = 2 from rfl, txt_live1] at this
  exact this
 ·intro w1 b
  have := qprint_ok (nf (-3)) (sf (-3)) (sf 2) w1 (hT.below b) (hP.bel b) ca (Nat.le_trans (sz _ (by omega) (by omega)) (by omega)) (Nat.le_trans (sz _ (by omega) (by omega)) (by omega))
  unfold qtxt at this
  rw [if_neg (by rw [hnat]; decide)] at this
  rw [← txt_live2]
  rw [n3] at this ⊢
  rw [s3, s2] at this ⊢
  exact this
 ·intro w1
  have := qof_any 0 (by omega) (by omega) w1
  rwa [qI_int 0 (show zI 0 = .agg #[.bool false, .string ⟨#[]⟩] from rfl)] at this
 ·intro w1 b
  exact qdiv_zero (nf (-3)) false (sf (-3)) (sf 2) ⟨#[]⟩ ⟨#[1]⟩ w1 (hT.below b) (twoq_zero.2 ⟨ca, c0⟩) rfl
 ·intro w1
  refine frac_walk (-3) 2 (nf (-3)) (nf 2) (nf (-3)) (sf (-3)) (sf 2) (sf (-3)) (sf 2) w1 ?_ ?_ ?_
  ·intro w2
   have := rof_any (-3) (by omega) (by omega) w2
   rwa [hf] at this
  ·intro w2
   have := rof_any 2 (by omega) (by omega) w2
   rwa [hf] at this
  ·intro w2
   rw [n2]
   refine low_one (nf (-3)) false (sf (-3)) (sf 2) ⟨#[1]⟩ w2 (by decide +kernel) ?_
   intro w3
   have := rcommon_any (nf (-3)) false (sf (-3)) (sf 2) w3 (Nat.le_trans (sz _ (by omega) (by omega)) (by omega)) (Nat.le_trans (sz _ (by omega) (by omega)) (by omega))
   rwa [g32, show (((1 : Nat) : Int)) = 1 from rfl, zI_one] at this
end Go.Proofs.YtdbnkcimcpnpdaaGreatDoor
