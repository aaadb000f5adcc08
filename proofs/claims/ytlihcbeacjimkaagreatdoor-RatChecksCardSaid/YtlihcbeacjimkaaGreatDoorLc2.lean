/-
  gussetlaw03.RatChecks.
-/
import Derived.Test.YtlihcbeacjimkaaGreatDoorLc0
import Derived.Test.YtlihcbeacjimkaaGreatDoorLc1
namespace Go.Proofs.YtlihcbeacjimkaaGreatDoor
open Go.RowKit Go.Shelf

theorem checks_law (n0 n1 : Bool) (s0 d0 s1 d1 : ByteArray) (w : World) (hT : Tab w) (hP : TabP w) :
    Calls Tryz.prog 3 #[.agg #[.bool n0, .string s0, .string d0], .agg #[.bool n1, .string s1, .string d1]] w fun e w' => e = .returned (.bool true) ∧ Below w.heap.size w w' := by
  have HL : Hid (∀ w1, Below w.heap.size w w1 → Calls Tryz.prog 10 #[] w1 fun e w' => e = .returned (.bool true) ∧ Below w1.heap.size w1 w') := fun w1 b => live3_any w1 (hT.below b) (hP.bel b)
  by_cases l0 : s0.size ≤ 120 ∧ d0.size ≤ 120
  · have S0 : Hid (∀ w1, Calls Tryz.prog 9 #[.agg #[.bool n0, .string s0, .string d0]] w1 fun e w' => e = .returned (.bool true) ∧ Below w1.heap.size w1 w') := fun w1 => small3_yes n0 s0 d0 w1 l0.1 l0.2
    by_cases l1 : s1.size ≤ 120 ∧ d1.size ≤ 120
    · have S1 : Hid (∀ w1, Calls Tryz.prog 9 #[.agg #[.bool n1, .string s1, .string d1]] w1 fun e w' => e = .returned (.bool true) ∧ Below w1.heap.size w1 w') := fun w1 => small3_yes n1 s1 d1 w1 l1.1 l1.2
      obtain ⟨nf, sf, df, hf, hok, hsz, hq, hback⟩ := named3
      have hb := fun w1 => bothq_any n0 n1 s0 d0 s1 d1 w1 (by omega) (by omega) (by omega) (by omega)
      have hc := fun w1 => refc_any n0 s0 d0 w1 (by omega) (by omega)
      have hk := fun w1 (b : Below w.heap.size w w1) => rchk_any n0 s0 d0 w1 (hT.below b)
      by_cases hab : twoq n0 s0 d0 n1 s1 d1 = 0
      · have ca := (twoq_zero.1 hab).1
        rw [hab] at hb
        rw [ca] at hc hk
        have h1 := fun w1 (b : Below w.heap.size w w1) => qcmp_ok n0 n1 s0 d0 s1 d1 w1 (hT.below b) hab (K := 120) (by omega) l0.1 l0.2 l1.1 l1.2
        have h2 := fun w1 (b : Below w.heap.size w w1) => qadd_ok n0 n1 s0 d0 s1 d1 w1 (hT.below b) hab (K := 120) (by omega) l0.1 l0.2 l1.1 l1.2
        have h3 := fun w1 (b : Below w.heap.size w w1) => qsub_ok n0 n1 s0 d0 s1 d1 w1 (hT.below b) hab (K := 120) (by omega) l0.1 l0.2 l1.1 l1.2
        have h4 := fun w1 (b : Below w.heap.size w w1) => qmul_ok n0 n1 s0 d0 s1 d1 w1 (hT.below b) hab (K := 120) (by omega) l0.1 l0.2 l1.1 l1.2
        have h6 := fun w1 (b : Below w.heap.size w w1) => qsign_ok n0 s0 d0 w1 (hT.below b) ca
        have h7 := fun w1 (b : Below w.heap.size w w1) => qprint_ok n0 s0 d0 w1 (hT.below b) (hP.bel b) ca (by omega) (by omega)
        have h8 := fun w1 (b : Below w.heap.size w w1) => qdec_ok n0 s0 d0 3 w1 (hT.below b) (hP.bel b) ca (by omega) (K := 120) (by omega) l0.1 l0.2
        simp only [hf] at h2 h3 h4
        by_cases hz : natOf s1 = 0
        · exact checks_b n0 n1 _ _ _ false s0 d0 s1 d1 _ _ _ _ _ _ ⟨#[]⟩ ⟨#[]⟩ _ _ _ _ w HL S0 S1 hb h1 h2 h3 h4 (fun w1 b => qdiv_zero n0 n1 s0 d0 s1 d1 w1 (hT.below b) hab hz) h6 h7 h8 hc hk
        · have h5 := fun w1 (b : Below w.heap.size w w1) => qdiv_ok n0 n1 s0 d0 s1 d1 w1 (hT.below b) hab (K := 120) (by omega) l0.1 l0.2 l1.1 l1.2 (by omega)
          simp only [hf] at h5
          exact checks_a n0 n1 _ _ _ _ s0 d0 s1 d1 _ _ _ _ _ _ _ _ _ _ _ _ 0 0 w HL S0 S1 hb h1 h2 h3 h4 h5 h6 h7 h8 hc hk
      · have h1 := fun w1 (b : Below w.heap.size w w1) => qcmp_bad n0 n1 s0 d0 s1 d1 w1 (hT.below b) hab
        have h2 := fun w1 (b : Below w.heap.size w w1) => qadd_bad n0 n1 s0 d0 s1 d1 w1 (hT.below b) hab
        have h3 := fun w1 (b : Below w.heap.size w w1) => qsub_bad n0 n1 s0 d0 s1 d1 w1 (hT.below b) hab
        have h4 := fun w1 (b : Below w.heap.size w w1) => qmul_bad n0 n1 s0 d0 s1 d1 w1 (hT.below b) hab
        have h5 := fun w1 (b : Below w.heap.size w w1) => qdiv_bad n0 n1 s0 d0 s1 d1 w1 (hT.below b) hab
        unfold qZ at h2 h3 h4 h5
        by_cases ca : chkq n0 s0 d0 = 0
        · rw [ca] at hc hk
          exact checks_a n0 n1 _ _ _ _ s0 d0 s1 d1 _ _ _ _ _ _ _ _ _ _ _ _ _ 0 w HL S0 S1 hb h1 h2 h3 h4 h5 (fun w1 b => qsign_ok n0 s0 d0 w1 (hT.below b) ca) (fun w1 b => qprint_ok n0 s0 d0 w1 (hT.below b) (hP.bel b) ca (by omega) (by omega)) (fun w1 b => qdec_ok n0 s0 d0 3 w1 (hT.below b) (hP.bel b) ca (by omega) (K := 120) (by omega) l0.1 l0.2) hc hk
        · exact checks_a n0 n1 _ _ _ _ s0 d0 s1 d1 _ _ _ _ _ _ _ _ _ _ _ _ _ _ w HL S0 S1 hb h1 h2 h3 h4 h5 (fun w1 b => qsign_bad n0 s0 d0 w1 (hT.below b) ca) (fun w1 b => qprint_bad n0 s0 d0 w1 (hT.below b) ca) (fun w1 b => qdec_bad n0 s0 d0 3 w1 (hT.below b) ca) hc hk
    · exact checks_l1 n0 n1 s0 d0 s1 d1 w HL S0 (fun w1 => small3_no n1 s1 d1 w1 l1)
  · exact checks_l0 n0 n1 s0 d0 s1 d1 w HL (fun w1 => small3_no n0 s0 d0 w1 l0)
end Go.Proofs.YtlihcbeacjimkaaGreatDoor
