/-
  gussetlaw03.RatField.
-/
import Derived.Test.YtlihcbeacjimkaaGreatDoorG34
import Derived.Test.YtlihcbeacjimkaaGreatDoorLf1
namespace Go.Proofs.YtlihcbeacjimkaaGreatDoor
open Go.RowKit Go.Shelf

theorem chkq_qZ : chkq false ⟨#[]⟩ ⟨#[]⟩ ≠ 0 := by decide +kernel
theorem qsize {nf : Rat → Bool} {sf df : Rat → ByteArray} (hok : ∀ q, OkQ (nf q) (sf q) (df q)) (hsz : ∀ q k, Bq q k → (sf q).size ≤ k ∧ (df q).size ≤ k) {q : Rat} {k : Nat} (hk : k ≤ 8000) (h : Bq q k) : chkq (nf q) (sf q) (df q) = 0 :=
  chkq_ok (hok q) (Nat.le_trans (hsz q k h).1 hk) (Nat.le_trans (hsz q k h).2 hk)
theorem field_law (n0 n1 n2 : Bool) (s0 d0 s1 d1 s2 d2 : ByteArray) (w : World) (hT : Tab w) (hP : TabP w) :
    Calls Tryz.prog 7 #[.agg #[.bool n0, .string s0, .string d0], .agg #[.bool n1, .string s1, .string d1], .agg #[.bool n2, .string s2, .string d2]] w fun e w' => e = .returned (.bool true) ∧ Below w.heap.size w w' := by
  have HL : Hid (∀ w1, Below w.heap.size w w1 → Calls Tryz.prog 10 #[] w1 fun e w' => e = .returned (.bool true) ∧ Below w1.heap.size w1 w') := fun w1 b => live3_any w1 (hT.below b) (hP.bel b)
  by_cases l0 : s0.size ≤ 120 ∧ d0.size ≤ 120
  · have S0 : Hid (∀ w1, Calls Tryz.prog 9 #[.agg #[.bool n0, .string s0, .string d0]] w1 fun e w' => e = .returned (.bool true) ∧ Below w1.heap.size w1 w') := fun w1 => small3_yes n0 s0 d0 w1 l0.1 l0.2
    by_cases l1 : s1.size ≤ 120 ∧ d1.size ≤ 120
    · have S1 : Hid (∀ w1, Calls Tryz.prog 9 #[.agg #[.bool n1, .string s1, .string d1]] w1 fun e w' => e = .returned (.bool true) ∧ Below w1.heap.size w1 w') := fun w1 => small3_yes n1 s1 d1 w1 l1.1 l1.2
      by_cases l2 : s2.size ≤ 120 ∧ d2.size ≤ 120
      · have S2 : Hid (∀ w1, Calls Tryz.prog 9 #[.agg #[.bool n2, .string s2, .string d2]] w1 fun e w' => e = .returned (.bool true) ∧ Below w1.heap.size w1 w') := fun w1 => small3_yes n2 s2 d2 w1 l2.1 l2.2
        obtain ⟨nf, sf, df, hf, hok, hsz, hq, hback⟩ := named3
        obtain ⟨xN, xS, xD, E4, bx, bx', H4⟩ := ex_mul n0 n2 s0 d0 s2 d2 (K := 120) (by omega) l0.1 l0.2 l2.1 l2.2
        obtain ⟨yN, yS, yD, E5, bY, bY', H5⟩ := ex_mul n1 n2 s1 d1 s2 d2 (K := 120) (by omega) l1.1 l1.2 l2.1 l2.2
        obtain ⟨zN, zS, zD, E6, bz, bz', H6⟩ := ex_add xN yN xS xD yS yD (K := 241) (by omega) bx bx' bY bY'
        by_cases hab : twoq n0 s0 d0 n1 s1 d1 = 0
        · have ca := (twoq_zero.1 hab).1
          have cb := (twoq_zero.1 hab).2
          have hba : twoq n1 s1 d1 n0 s0 d0 = 0 := twoq_zero.2 ⟨cb, ca⟩
          have oa := (chkq_zero ca).1
          have ob := (chkq_zero cb).1
          obtain ⟨A, hA⟩ : ∃ q, q = qOf n0 s0 d0 := ⟨_, rfl⟩
          obtain ⟨B, hB⟩ : ∃ q, q = qOf n1 s1 d1 := ⟨_, rfl⟩
          have qa : Bq A 120 := by rw [hA]; exact oa.bq l0.1 l0.2
          have qb : Bq B 120 := by rw [hB]; exact ob.bq l1.1 l1.2
          have ss := hsz _ _ (bq_add qa qb)
          have cs := qsize hok hsz (by omega) (bq_add qa qb)
          have H1 : Hid (∀ w1, Below w.heap.size w w1 → Calls Tryz.prog 13 #[.agg #[.bool n0, .string s0, .string d0], .agg #[.bool n1, .string s1, .string d1]] w1 fun e w' => e = .returned (.tuple #[.agg #[.bool (nf (A + B)), .string (sf (A + B)), .string (df (A + B))], .int .i64 0]) ∧ Below w1.heap.size w1 w') := by
            intro w1 b
            have := qadd_ok n0 n1 s0 d0 s1 d1 w1 (hT.below b) hab (K := 120) (by omega) l0.1 l0.2 l1.1 l1.2
            rwa [← hA, ← hB, hf] at this
          have H2 : Hid (∀ w1, Below w.heap.size w w1 → Calls Tryz.prog 13 #[.agg #[.bool n1, .string s1, .string d1], .agg #[.bool n0, .string s0, .string d0]] w1 fun e w' => e = .returned (.tuple #[.agg #[.bool (nf (A + B)), .string (sf (A + B)), .string (df (A + B))], .int .i64 0]) ∧ Below w1.heap.size w1 w') := by
            intro w1 b
            have := qadd_ok n1 n0 s1 d1 s0 d0 w1 (hT.below b) hba (K := 120) (by omega) l1.1 l1.2 l0.1 l0.2
            rwa [← hA, ← hB, Rat.add_comm, hf] at this
          by_cases hc : chkq n2 s2 d2 = 0
          · have oc := (chkq_zero hc).1
            obtain ⟨C, hC⟩ : ∃ q, q = qOf n2 s2 d2 := ⟨_, rfl⟩
            have qc : Bq C 120 := by rw [hC]; exact oc.bq l2.1 l2.2
            have hac : twoq n0 s0 d0 n2 s2 d2 = 0 := twoq_zero.2 ⟨ca, hc⟩
            have hbc : twoq n1 s1 d1 n2 s2 d2 = 0 := twoq_zero.2 ⟨cb, hc⟩
            have sx := hsz _ _ (bq_mul qa qc)
            have sy := hsz _ _ (bq_mul qb qc)
            have cx := qsize hok hsz (by omega) (bq_mul qa qc)
            have cy := qsize hok hsz (by omega) (bq_mul qb qc)
            have H3 : Hid (∀ w1, Below w.heap.size w w1 → Calls Tryz.prog 15 #[.agg #[.bool (nf (A + B)), .string (sf (A + B)), .string (df (A + B))], .agg #[.bool n2, .string s2, .string d2]] w1 fun e w' => e = .returned (.tuple #[.agg #[.bool (nf ((A + B) * C)), .string (sf ((A + B) * C)), .string (df ((A + B) * C))], .int .i64 0]) ∧ Below w1.heap.size w1 w') := by
              intro w1 b
              have := qmul_ok _ n2 _ _ s2 d2 w1 (hT.below b) (twoq_zero.2 ⟨cs, hc⟩) (K := 241) (by omega) ss.1 ss.2 (by omega) (by omega)
              rwa [hq, ← hC, hf] at this
            have H4' : Hid (∀ w1, Below w.heap.size w w1 → Calls Tryz.prog 15 #[.agg #[.bool n0, .string s0, .string d0], .agg #[.bool n2, .string s2, .string d2]] w1 fun e w' => e = .returned (.tuple #[.agg #[.bool (nf (A * C)), .string (sf (A * C)), .string (df (A * C))], .int .i64 0]) ∧ Below w1.heap.size w1 w') := by
              intro w1 b
              have := qmul_ok n0 n2 s0 d0 s2 d2 w1 (hT.below b) hac (K := 120) (by omega) l0.1 l0.2 l2.1 l2.2
              rwa [← hA, ← hC, hf] at this
            have H5' : Hid (∀ w1, Below w.heap.size w w1 → Calls Tryz.prog 15 #[.agg #[.bool n1, .string s1, .string d1], .agg #[.bool n2, .string s2, .string d2]] w1 fun e w' => e = .returned (.tuple #[.agg #[.bool (nf (B * C)), .string (sf (B * C)), .string (df (B * C))], .int .i64 0]) ∧ Below w1.heap.size w1 w') := by
              intro w1 b
              have := qmul_ok n1 n2 s1 d1 s2 d2 w1 (hT.below b) hbc (K := 120) (by omega) l1.1 l1.2 l2.1 l2.2
              rwa [← hB, ← hC, hf] at this
            have H6' : Hid (∀ w1, Below w.heap.size w w1 → Calls Tryz.prog 13 #[.agg #[.bool (nf (A * C)), .string (sf (A * C)), .string (df (A * C))], .agg #[.bool (nf (B * C)), .string (sf (B * C)), .string (df (B * C))]] w1 fun e w' => e = .returned (.tuple #[.agg #[.bool (nf ((A + B) * C)), .string (sf ((A + B) * C)), .string (df ((A + B) * C))], .int .i64 0]) ∧ Below w1.heap.size w1 w') := by
              intro w1 b
              have := qadd_ok _ _ _ _ _ _ w1 (hT.below b) (twoq_zero.2 ⟨cx, cy⟩) (K := 241) (by omega) sx.1 sx.2 sy.1 sy.2
              rwa [hq, hq, ← Rat.add_mul, hf] at this
            by_cases hz : natOf s1 = 0
            · exact field_zero n0 n1 n2 _ _ _ _ false s0 d0 s1 d1 s2 d2 _ _ _ _ _ _ _ _ ⟨#[]⟩ ⟨#[]⟩ w HL S0 S1 S2 H1 H2 H3 H4' H5' H6' (fun w1 b => qdiv_zero n0 n1 s0 d0 s1 d1 w1 (hT.below b) hab hz)
            · have bne : B ≠ 0 := by
                intro e
                have := ob.low.1
                rw [← hB, e] at this
                have h2 := natAbs_zOf n1 s1
                rw [← this] at h2
                exact hz h2.symm
              have sq := hsz _ _ (bq_div qa qb bne)
              have cq := qsize hok hsz (by omega) (bq_div qa qb bne)
              refine field_ok n0 n1 n2 _ _ _ _ (nf (A / B)) s0 d0 s1 d1 s2 d2 _ _ _ _ _ _ _ _ (sf (A / B)) (df (A / B)) w HL S0 S1 S2 H1 H2 H3 H4' H5' H6' ?_ ?_
              · intro w1 b
                have := qdiv_ok n0 n1 s0 d0 s1 d1 w1 (hT.below b) hab (K := 120) (by omega) l0.1 l0.2 l1.1 l1.2 (by omega)
                rwa [← hA, ← hB, hf] at this
              · intro w1 b
                have := qmul_ok _ n1 _ _ s1 d1 w1 (hT.below b) (twoq_zero.2 ⟨cq, cb⟩) (K := 241) (by omega) sq.1 sq.2 (by omega) (by omega)
                have e : qI A = .agg #[.bool n0, .string s0, .string d0] := by rw [hA]; exact (qV_ok oa).symm
                rwa [hq, ← hB, Rat.div_mul_cancel bne, e] at this
          · refine field_bad3 n0 n1 n2 _ _ false _ _ _ s0 d0 s1 d1 s2 d2 _ _ _ _ ⟨#[]⟩ ⟨#[]⟩ _ _ _ _ _ _ _ E4 E5 E6 ?_ w HL S0 S1 S2 H1 H2 (fun w1 b => qmul_bad _ n2 _ _ s2 d2 w1 (hT.below b) (fun e => hc (twoq_zero.1 e).2)) (fun w1 b => H4 w1 (hT.below b)) (fun w1 b => H5 w1 (hT.below b)) (fun w1 b => H6 w1 (hT.below b))
            intro e
            exact hc (twoq_zero.1 (show twoq (nf (A + B)) (sf (A + B)) (df (A + B)) n2 s2 d2 = 0 by omega)).2
        · have hba : twoq n1 s1 d1 n0 s0 d0 ≠ 0 := fun e => hab (twoq_zero.2 ⟨(twoq_zero.1 e).2, (twoq_zero.1 e).1⟩)
          exact field_bad1 n0 n1 n2 false false false _ _ _ s0 d0 s1 d1 s2 d2 ⟨#[]⟩ ⟨#[]⟩ ⟨#[]⟩ ⟨#[]⟩ ⟨#[]⟩ ⟨#[]⟩ _ _ _ _ _ _ _ _ _ E4 E5 E6 (by omega) w HL S0 S1 S2 (fun w1 b => qadd_bad n0 n1 s0 d0 s1 d1 w1 (hT.below b) hab) (fun w1 b => qadd_bad n1 n0 s1 d1 s0 d0 w1 (hT.below b) hba) (fun w1 b => qmul_bad false n2 ⟨#[]⟩ ⟨#[]⟩ s2 d2 w1 (hT.below b) (fun e => chkq_qZ (twoq_zero.1 e).1)) (fun w1 b => H4 w1 (hT.below b)) (fun w1 b => H5 w1 (hT.below b)) (fun w1 b => H6 w1 (hT.below b))
      · exact field_l2 n0 n1 n2 s0 d0 s1 d1 s2 d2 w HL S0 S1 (fun w1 => small3_no n2 s2 d2 w1 l2)
    · exact field_l1 n0 n1 n2 s0 d0 s1 d1 s2 d2 w HL S0 (fun w1 => small3_no n1 s1 d1 w1 l1)
  · exact field_l0 n0 n1 n2 s0 d0 s1 d1 s2 d2 w HL (fun w1 => small3_no n0 s0 d0 w1 l0)
end Go.Proofs.YtlihcbeacjimkaaGreatDoor
