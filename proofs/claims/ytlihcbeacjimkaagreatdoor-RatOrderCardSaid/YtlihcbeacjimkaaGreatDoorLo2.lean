/-
  gussetlaw03.RatOrder.
-/
import Derived.Test.YtlihcbeacjimkaaGreatDoorG34
import Derived.Test.YtlihcbeacjimkaaGreatDoorLo1
namespace Go.Proofs.YtlihcbeacjimkaaGreatDoor
open Go.RowKit Go.Shelf

theorem chkq_qsize {nf : Rat → Bool} {sf df : Rat → ByteArray} (hok : ∀ q, OkQ (nf q) (sf q) (df q)) (hsz : ∀ q k, Bq q k → (sf q).size ≤ k ∧ (df q).size ≤ k) {q : Rat} {k : Nat} (hk : k ≤ 8000) (h : Bq q k) : chkq (nf q) (sf q) (df q) = 0 :=
  chkq_ok (hok q) (Nat.le_trans (hsz q k h).1 hk) (Nat.le_trans (hsz q k h).2 hk)
theorem cmp_range (a b : Rat) : Q.cmp a b = -1 ∨ Q.cmp a b = 0 ∨ Q.cmp a b = 1 := by
  unfold Q.cmp
  split
  · exact Or.inl rfl
  · split
    · exact Or.inr (Or.inr rfl)
    · exact Or.inr (Or.inl rfl)
theorem wrap_cmp (a b c d : Rat) : wrap64 (Q.cmp a b * Q.cmp c d) = Q.cmp a b * Q.cmp c d := by
  rcases cmp_range a b with h | h | h <;> rcases cmp_range c d with h' | h' | h' <;> rw [h, h'] <;> unfold wrap64 <;> omega
/-- What Sign tells, whatever it is handed. -/
theorem ex_sign (n : Bool) (s d : ByteArray) : ∃ N E : Int, ∀ w, Tab w → Calls Tryz.prog 17 #[.agg #[.bool n, .string s, .string d]] w fun e w' => e = .returned (.tuple #[.int .i64 N, .int .i64 E]) ∧ Below w.heap.size w w' := by
  by_cases h : chkq n s d = 0
  · exact ⟨_, 0, fun w hT => qsign_ok n s d w hT h⟩
  · exact ⟨0, _, fun w hT => qsign_bad n s d w hT h⟩
theorem order_law (n0 n1 n2 : Bool) (s0 d0 s1 d1 s2 d2 : ByteArray) (w : World) (hT : Tab w) (hP : TabP w) :
    Calls Tryz.prog 8 #[.agg #[.bool n0, .string s0, .string d0], .agg #[.bool n1, .string s1, .string d1], .agg #[.bool n2, .string s2, .string d2]] w fun e w' => e = .returned (.bool true) ∧ Below w.heap.size w w' := by
  have HL : Hid (∀ w1, Below w.heap.size w w1 → Calls Tryz.prog 10 #[] w1 fun e w' => e = .returned (.bool true) ∧ Below w1.heap.size w1 w') := fun w1 b => live3_any w1 (hT.below b) (hP.bel b)
  by_cases l0 : s0.size ≤ 120 ∧ d0.size ≤ 120
  · have S0 : Hid (∀ w1, Calls Tryz.prog 9 #[.agg #[.bool n0, .string s0, .string d0]] w1 fun e w' => e = .returned (.bool true) ∧ Below w1.heap.size w1 w') := fun w1 => small3_yes n0 s0 d0 w1 l0.1 l0.2
    by_cases l1 : s1.size ≤ 120 ∧ d1.size ≤ 120
    · have S1 : Hid (∀ w1, Calls Tryz.prog 9 #[.agg #[.bool n1, .string s1, .string d1]] w1 fun e w' => e = .returned (.bool true) ∧ Below w1.heap.size w1 w') := fun w1 => small3_yes n1 s1 d1 w1 l1.1 l1.2
      by_cases l2 : s2.size ≤ 120 ∧ d2.size ≤ 120
      · have S2 : Hid (∀ w1, Calls Tryz.prog 9 #[.agg #[.bool n2, .string s2, .string d2]] w1 fun e w' => e = .returned (.bool true) ∧ Below w1.heap.size w1 w') := fun w1 => small3_yes n2 s2 d2 w1 l2.1 l2.2
        obtain ⟨nf, sf, df, hf, hok, hsz, hq, hback⟩ := named3
        obtain ⟨pN, pS, pD, E3, -, -, H3⟩ := ex_mul n0 n2 s0 d0 s2 d2 (K := 120) (by omega) l0.1 l0.2 l2.1 l2.2
        obtain ⟨qN, qS, qD, E4, -, -, H4⟩ := ex_mul n1 n2 s1 d1 s2 d2 (K := 120) (by omega) l1.1 l1.2 l2.1 l2.2
        obtain ⟨N, E5, H5⟩ := ex_sign n2 s2 d2
        by_cases hab : twoq n0 s0 d0 n1 s1 d1 = 0
        · have ca := (twoq_zero.1 hab).1
          have cb := (twoq_zero.1 hab).2
          have oa := (chkq_zero ca).1
          have ob := (chkq_zero cb).1
          obtain ⟨A, hA⟩ : ∃ q, q = qOf n0 s0 d0 := ⟨_, rfl⟩
          obtain ⟨B, hB⟩ : ∃ q, q = qOf n1 s1 d1 := ⟨_, rfl⟩
          have qa : Bq A 120 := by rw [hA]; exact oa.bq l0.1 l0.2
          have qb : Bq B 120 := by rw [hB]; exact ob.bq l1.1 l1.2
          have cd := chkq_qsize hok hsz (by omega) (bq_sub qa qb)
          have H1 : Hid (∀ w1, Below w.heap.size w w1 → Calls Tryz.prog 12 #[.agg #[.bool n0, .string s0, .string d0], .agg #[.bool n1, .string s1, .string d1]] w1 fun e w' => e = .returned (.tuple #[.int .i64 (Q.cmp A B), .int .i64 0]) ∧ Below w1.heap.size w1 w') := by
            intro w1 b
            have := qcmp_ok n0 n1 s0 d0 s1 d1 w1 (hT.below b) hab (K := 120) (by omega) l0.1 l0.2 l1.1 l1.2
            rwa [← hA, ← hB] at this
          have H2 : Hid (∀ w1, Below w.heap.size w w1 → Calls Tryz.prog 14 #[.agg #[.bool n0, .string s0, .string d0], .agg #[.bool n1, .string s1, .string d1]] w1 fun e w' => e = .returned (.tuple #[.agg #[.bool (nf (A - B)), .string (sf (A - B)), .string (df (A - B))], .int .i64 0]) ∧ Below w1.heap.size w1 w') := by
            intro w1 b
            have := qsub_ok n0 n1 s0 d0 s1 d1 w1 (hT.below b) hab (K := 120) (by omega) l0.1 l0.2 l1.1 l1.2
            rwa [← hA, ← hB, hf] at this
          by_cases hc : chkq n2 s2 d2 = 0
          · have oc := (chkq_zero hc).1
            obtain ⟨C, hC⟩ : ∃ q, q = qOf n2 s2 d2 := ⟨_, rfl⟩
            have qc : Bq C 120 := by rw [hC]; exact oc.bq l2.1 l2.2
            have hac : twoq n0 s0 d0 n2 s2 d2 = 0 := twoq_zero.2 ⟨ca, hc⟩
            have hbc : twoq n1 s1 d1 n2 s2 d2 = 0 := twoq_zero.2 ⟨cb, hc⟩
            have sx := hsz _ _ (bq_mul qa qc)
            have sy := hsz _ _ (bq_mul qb qc)
            have cx := chkq_qsize hok hsz (by omega) (bq_mul qa qc)
            have cy := chkq_qsize hok hsz (by omega) (bq_mul qb qc)
            refine order_ok3 n0 n1 n2 (nf (A - B)) (nf (A * C)) (nf (B * C)) s0 d0 s1 d1 s2 d2 _ _ (sf (A * C)) (df (A * C)) (sf (B * C)) (df (B * C)) (Q.cmp A B) (Q.cmp C 0) (Q.cmp A B * Q.cmp C 0) (wrap_cmp _ _ _ _) w HL S0 S1 S2 H1 H2 ?_ ?_ ?_ ?_ ?_
            · intro w1 b
              have := qmul_ok n0 n2 s0 d0 s2 d2 w1 (hT.below b) hac (K := 120) (by omega) l0.1 l0.2 l2.1 l2.2
              rwa [← hA, ← hC, hf] at this
            · intro w1 b
              have := qmul_ok n1 n2 s1 d1 s2 d2 w1 (hT.below b) hbc (K := 120) (by omega) l1.1 l1.2 l2.1 l2.2
              rwa [← hB, ← hC, hf] at this
            · intro w1 b
              have := qsign_ok n2 s2 d2 w1 (hT.below b) hc
              rwa [← hC] at this
            · intro w1 b
              have := qsign_ok (nf (A - B)) (sf (A - B)) (df (A - B)) w1 (hT.below b) cd
              rwa [hq, ← Q.sub_pos] at this
            · intro w1 b
              have := qcmp_ok _ _ _ _ _ _ w1 (hT.below b) (twoq_zero.2 ⟨cx, cy⟩) (K := 241) (by omega) sx.1 sx.2 sy.1 sy.2
              rwa [hq, hq, Q.cmp_mul] at this
          · refine order_bad3 n0 n1 n2 _ false _ s0 d0 s1 d1 s2 d2 _ _ ⟨#[]⟩ ⟨#[]⟩ _ _ _ N _ E4 E5 ?_ w HL S0 S1 S2 H1 H2 (fun w1 b => qmul_bad n0 n2 s0 d0 s2 d2 w1 (hT.below b) (fun e => hc (twoq_zero.1 e).2)) (fun w1 b => H4 w1 (hT.below b)) (fun w1 b => H5 w1 (hT.below b))
            intro e
            exact hc (twoq_zero.1 (show twoq n0 s0 d0 n2 s2 d2 = 0 by omega)).2
        · exact order_bad1 n0 n1 n2 false _ _ s0 d0 s1 d1 s2 d2 ⟨#[]⟩ ⟨#[]⟩ _ _ _ _ 0 N _ _ E3 E4 E5 (by omega) w HL S0 S1 S2 (fun w1 b => qcmp_bad n0 n1 s0 d0 s1 d1 w1 (hT.below b) hab) (fun w1 b => qsub_bad n0 n1 s0 d0 s1 d1 w1 (hT.below b) hab) (fun w1 b => H3 w1 (hT.below b)) (fun w1 b => H4 w1 (hT.below b)) (fun w1 b => H5 w1 (hT.below b))
      · exact order_l2 n0 n1 n2 s0 d0 s1 d1 s2 d2 w HL S0 S1 (fun w1 => small3_no n2 s2 d2 w1 l2)
    · exact order_l1 n0 n1 n2 s0 d0 s1 d1 s2 d2 w HL S0 (fun w1 => small3_no n1 s1 d1 w1 l1)
  · exact order_l0 n0 n1 n2 s0 d0 s1 d1 s2 d2 w HL (fun w1 => small3_no n0 s0 d0 w1 l0)
end Go.Proofs.YtlihcbeacjimkaaGreatDoor
