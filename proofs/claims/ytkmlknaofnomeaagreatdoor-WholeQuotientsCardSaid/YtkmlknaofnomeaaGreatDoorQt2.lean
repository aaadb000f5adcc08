/-
  gussetlaw02.WholeQuotients.
-/
import Derived.Test.YtkmlknaofnomeaaGreatDoorQt1
import Derived.Test.YtkmlknaofnomeaaGreatDoorG26
namespace Go.Proofs.YtkmlknaofnomeaaGreatDoor
open Go.RowKit Go.Shelf

theorem natAbs_sgn (b : Bool) (V : Nat) : (sgn b V).natAbs = V := by cases b <;> simp [sgn]
theorem quot_facts (n0 n1 : Bool) (s0 s1 : ByteArray) (k : Nat) (h0 : s0.size ≤ k) (h1 : s1.size ≤ k) (hY : 0 < natOf s1) :
    Bd (zOf n0 s0 / zOf n1 s1) (k + 1) ∧ Bd (zOf n0 s0 % zOf n1 s1) k ∧ 0 ≤ zOf n0 s0 % zOf n1 s1 ∧ zOf n0 s0 % zOf n1 s1 < (natOf s1 : Int) ∧ zOf n0 s0 / zOf n1 s1 * zOf n1 s1 + zOf n0 s0 % zOf n1 s1 = zOf n0 s0 := by
  have hX : natOf s0 < 256 ^ k := Nat.lt_of_lt_of_le (natOf_lt s0) (Nat.pow_le_pow_right (by omega) h0)
  have hY' : natOf s1 < 256 ^ k := Nat.lt_of_lt_of_le (natOf_lt s1) (Nat.pow_le_pow_right (by omega) h1)
  have hn := natAbs_zOf n1 s1
  have hne : zOf n1 s1 ≠ 0 := by omega
  have r0 := Int.emod_nonneg (zOf n0 s0) hne
  have r1 := Int.emod_lt (zOf n0 s0) hne
  refine ⟨?_, ?_, r0, by omega, ?_⟩
  · unfold Bd
    rw [← sgn_natOf, ← sgn_natOf, (sgn_ediv n0 n1 _ _ hY).1, natAbs_sgn]
    have h4 := Nat.div_le_self (natOf s0) (natOf s1)
    have h5 := succ_lt_pow (b := 256) (by omega) hX
    split <;> omega
  · unfold Bd; omega
  · rw [Int.mul_comm]
    exact Int.mul_ediv_add_emod _ _

set_option maxRecDepth 100000 in
set_option maxHeartbeats 2000000 in
theorem quot_law (n0 n1 : Bool) (s0 s1 : ByteArray) (w : World) (hT : Tab w) :
    Calls Tryz.prog 4 #[.agg #[.bool n0, .string s0], .agg #[.bool n1, .string s1]] w fun e w' => e = .returned (.bool true) ∧ Below w.heap.size w w' := by
  by_cases hsm : s0.size ≤ 400 ∧ s1.size ≤ 400
  · obtain ⟨h0, h1⟩ := hsm
    by_cases h2 : two n0 s0 n1 s1 = 0
    · have o0 := (chk_zero (two_zero.1 h2).1).2
      have o1 := (chk_zero (two_zero.1 h2).2).2
      by_cases hs : 0 < s1.size
      · obtain ⟨nf, sf, hf, hok, hsz, hz, hback, hn0, -⟩ := named
        have hY := natOf_pos o1.1 hs
        obtain ⟨X, hX⟩ : ∃ X, X = zOf n0 s0 := ⟨_, rfl⟩
        obtain ⟨Y, hYY⟩ : ∃ Y, Y = zOf n1 s1 := ⟨_, rfl⟩
        obtain ⟨bQ, bR, r0, r1, hdm⟩ := quot_facts n0 n1 s0 s1 400 h0 h1 hY
        have bY : Bd Y 400 := by rw [hYY]; exact bd_zOf h1
        rw [← hX, ← hYY] at bQ bR r0 r1 hdm
        have hXI : zI X = .agg #[.bool n0, .string s0] := by
          obtain ⟨b1, b2⟩ := hback n0 s0 o0
          rw [hf, hX, b1, b2]
        obtain ⟨Q, hQ⟩ : ∃ Q, Q = X / Y := ⟨_, rfl⟩
        obtain ⟨R, hR⟩ : ∃ R, R = X % Y := ⟨_, rfl⟩
        rw [← hQ] at bQ hdm
        rw [← hR] at bR r0 r1 hdm
        have zQ := hsz _ _ bQ
        have zR := hsz _ _ bR
        obtain ⟨U, hU⟩ : ∃ U, U = Q * Y := ⟨_, rfl⟩
        have bT : Bd U (400 + 1 + 400) := by rw [hU]; exact bQ.mul bY
        rw [← hU] at hdm
        have zT := hsz _ _ bT
        have nR : nf R = false := by
          cases hn : nf R with
          | false => rfl
          | true =>
            have e := hz R
            rw [hn] at e
            have p := natOf_pos (hok R).1 ((hok R).2 hn)
            unfold zOf at e
            simp at e
            omega
        have zFR : zOf false (sf R) = R := by rw [← nR]; exact hz _
        have okR : OkZ false (sf R) := by
          have := hok R
          rwa [nR] at this
        have okB : OkZ false s1 := ⟨o1.1, fun h => by cases h⟩
        have hB : zOf false s1 = (natOf s1 : Int) := rfl
        have e5 : cmpZ R (natOf s1 : Int) = -1 := by unfold cmpZ; rw [if_pos r1]
        refine quot_walk n0 n1 (nf Q) (nf U) s0 s1 (sf Q) (sf R) (sf U) (-1) w hT h0 h1 h2 hs (by omega) ?_ ?_ ?_ ?_ ?_
        · intro w
          have := zdiv_ok n0 n1 s0 s1 w o0 o1 (by omega) (by omega) hY
          rw [← hX, ← hYY, ← hQ, ← hR, hf Q, hf R, nR] at this
          exact this
        · intro w
          have := rquo_any n0 n1 s0 s1 w (by omega) (by omega) hY
          rw [← hX, ← hYY, ← hQ, ← hR, hf Q, hf R, nR] at this
          exact this
        · intro w
          have := rtimes_any (nf Q) n1 (sf Q) s1 w (by omega) (by omega)
          rw [hz, ← hYY, ← hU, hf] at this
          exact this
        · intro w
          have := rsum_any (nf U) false (sf U) (sf R) w (by omega) (by omega)
          rw [hz, zFR, hdm, hXI] at this
          exact this
        · intro w
          have := rorder_any false false (sf R) s1 w okR okB (by omega) (by omega)
          rw [zFR, hB, e5] at this
          exact this
      · have e1 : s1 = { data := #[] } := ByteArray.size_eq_zero_iff.1 (by omega)
        have e2 : n1 = false := by
          cases n1 with
          | false => rfl
          | true => exact absurd (o1.2 rfl) hs
        subst e1 e2
        exact quot_zero n0 s0 w hT h0 o0
    · have HB := shut (rboth_any n0 n1 s0 s1)
      generalize two n0 s0 n1 s1 = c at *
      have h2' : ¬ (c : Int) = 0 := by omega
      go_enter Tryz.func4, Tryz.ntmps4
      go_wp2_with fail
      obtain ⟨w0, hw0, ka, kb, bb⟩ := bx2 w (.bool n0) (.string s0) (.bool n1) (.string s1)
      rw [← hw0]
      clear hw0
      refine (small_yes n0 n1 s0 s1 w0 h0 h1).mono ?_
      rintro e w1 ⟨rfl, b1⟩
      replace ka := ka.below b1
      replace kb := kb.below b1
      replace bb := Below.after bb b1
      have ca0 := cel2_0' ka
      have ca1 := cel2_1' ka
      have cb0 := cel2_0' kb
      have cb1 := cel2_1' kb
      go_wp2_with fail
      refine (HB.out w1).mono ?_
      rintro e w2 ⟨rfl, b2⟩
      replace bb := Below.after bb b2
      have HL := shut (live2_any w2 (hT.below bb))
      go_wp2_with fail
      refine HL.out.mono ?_
      rintro e wl ⟨rfl, bl⟩
      replace bb := Below.after bb bl
      go_wp2
      go_ret
      exact ⟨rfl, bb⟩
  · go_enter Tryz.func4, Tryz.ntmps4
    go_wp2_with fail
    obtain ⟨w0, hw0, ka, kb, bb⟩ := bx2 w (.bool n0) (.string s0) (.bool n1) (.string s1)
    rw [← hw0]
    clear hw0
    refine (small_no n0 n1 s0 s1 w0 hsm).mono ?_
    rintro e w1 ⟨rfl, b1⟩
    replace bb := Below.after bb b1
    have HL := shut (live2_any w1 (hT.below bb))
    clear hsm
    go_wp2_with fail
    refine HL.out.mono ?_
    rintro e wl ⟨rfl, bl⟩
    replace bb := Below.after bb bl
    go_wp2
    go_ret
    exact ⟨rfl, bb⟩
end Go.Proofs.YtkmlknaofnomeaaGreatDoor
