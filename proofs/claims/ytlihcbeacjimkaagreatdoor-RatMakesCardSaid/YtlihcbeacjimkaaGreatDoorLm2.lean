/-
  gussetlaw03.RatMakes.
-/
import Derived.Test.YtlihcbeacjimkaaGreatDoorLm1
namespace Go.Proofs.YtlihcbeacjimkaaGreatDoor
open Go.RowKit Go.Shelf

theorem makes_law (n0 n1 : Bool) (s0 s1 : ByteArray) (x : Int) (x1 : -9223372036854775808 ≤ x) (x2 : x < 9223372036854775808) (w : World) (hT : Tab w) (hP : TabP w) :
    Calls Tryz.prog 4 #[.agg #[.bool n0, .string s0], .agg #[.bool n1, .string s1], .int .i64 x] w fun e w' => e = .returned (.bool true) ∧ Below w.heap.size w w' := by
  have HL : Hid (∀ w1, Below w.heap.size w w1 → Calls Tryz.prog 10 #[] w1 fun e w' => e = .returned (.bool true) ∧ Below w1.heap.size w1 w') := fun w1 b => live3_any w1 (hT.below b) (hP.bel b)
  by_cases l0 : (200 : Int) < s0.size
  · exact makes_l0 n0 n1 s0 s1 x l0 w HL
  by_cases l1 : (200 : Int) < s1.size
  · exact makes_l1 n0 n1 s0 s1 x l0 l1 w HL
  have z0 : s0.size ≤ 200 := by omega
  have z1 : s1.size ≤ 200 := by omega
  have hb := fun w1 => rboth_any n0 n1 s0 s1 w1
  by_cases h : two n0 s0 n1 s1 = 0
  · rw [h] at hb
    by_cases hz : natOf s1 = 0
    · have hm := fun w1 (_ : Below w.heap.size w w1) => make_no n0 n1 s0 s1 w1 (by omega) (by omega) 3 (by rw [if_pos h]) (Or.inr hz)
      have c1 : chk n1 s1 = 0 := by
        unfold two at h
        split at h
        · exact h
        · contradiction
      have o1 := (chk_ok (by omega)).1 c1
      have e1 : s1 = ByteArray.empty := by
        by_cases hs : 0 < s1.size
        · have := natOf_pos o1.1 hs
          omega
        · exact ByteArray.size_eq_zero_iff.1 (by omega)
      subst e1
      exact makes_zero n0 n1 s0 x l0 w HL hm hb
    · obtain ⟨nf, sf, df, hf, hok, hsz, hq, hback⟩ := named3
      have c0 : chk n0 s0 = 0 ∧ chk n1 s1 = 0 := by
        unfold two at h
        split at h
        · exact ⟨by assumption, h⟩
        · contradiction
      have o0 := (chk_ok (by omega)).1 c0.1
      have o1 := (chk_ok (by omega)).1 c0.2
      have hm := fun w1 (b : Below w.heap.size w w1) => make_ok n0 n1 s0 s1 w1 (hT.below b) o0 o1 (K := 200) (by omega) z0 z1 (by omega)
      have hl := fun w1 => low_any n0 n1 s0 s1 w1 o0 o1 (by omega) (by omega) (by omega)
      have h4 := fun w1 => qof_any x x1 x2 w1
      have h5 := fun w1 => rofq_any x x1 x2 w1
      simp only [hf] at hm hl h4 h5
      exact makes_ok n0 n1 _ _ s0 s1 _ _ _ _ x l0 l1 (isE (by omega)) w HL hm hb hl h4 h5
  · have hm := fun w1 (_ : Below w.heap.size w w1) => make_no n0 n1 s0 s1 w1 (by omega) (by omega) (two n0 s0 n1 s1) (by rw [if_neg h]) (Or.inl h)
    exact makes_bad n0 n1 s0 s1 x l0 l1 _ (by omega) w HL hm hb
end Go.Proofs.YtlihcbeacjimkaaGreatDoor
