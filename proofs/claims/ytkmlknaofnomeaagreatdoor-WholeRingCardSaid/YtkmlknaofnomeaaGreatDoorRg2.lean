/-
  gussetlaw02.WholeRing.
-/
import Derived.Test.YtkmlknaofnomeaaGreatDoorRg1
import Derived.Test.YtkmlknaofnomeaaGreatDoorG26
namespace Go.Proofs.YtkmlknaofnomeaaGreatDoor
open Go.RowKit Go.Shelf

set_option maxHeartbeats 1000000 in
theorem ring_law (n0 n1 n2 : Bool) (s0 s1 s2 : ByteArray) (w : World) (hT : Tab w) :
    Calls Tryz.prog 7 #[.agg #[.bool n0, .string s0], .agg #[.bool n1, .string s1], .agg #[.bool n2, .string s2]] w fun e w' => e = .returned (.bool true) ∧ Below w.heap.size w w' := by
  by_cases hsm : s0.size ≤ 400 ∧ s1.size ≤ 400
  · by_cases h2 : s2.size ≤ 400
    · obtain ⟨h0, h1⟩ := hsm
      obtain ⟨nf, sf, hf, hok, hsz, hz, hback, -, -⟩ := named
      obtain ⟨X, hX⟩ : ∃ X, X = zOf n0 s0 := ⟨_, rfl⟩
      obtain ⟨Y, hY⟩ : ∃ Y, Y = zOf n1 s1 := ⟨_, rfl⟩
      obtain ⟨Z, hZ⟩ : ∃ Z, Z = zOf n2 s2 := ⟨_, rfl⟩
      have bX : Bd X 400 := by rw [hX]; exact bd_zOf h0
      have bY : Bd Y 400 := by rw [hY]; exact bd_zOf h1
      have bZ : Bd Z 400 := by rw [hZ]; exact bd_zOf h2
      obtain ⟨S, hS⟩ : ∃ S, S = if two n0 s0 n1 s1 = 0 then X + Y else 0 := ⟨_, rfl⟩
      obtain ⟨P, hP⟩ : ∃ P, P = if two (nf S) (sf S) n2 s2 = 0 then S * Z else 0 := ⟨_, rfl⟩
      obtain ⟨Q, hQ⟩ : ∃ Q, Q = if two n0 s0 n2 s2 = 0 then X * Z else 0 := ⟨_, rfl⟩
      obtain ⟨R, hR⟩ : ∃ R, R = if two n1 s1 n2 s2 = 0 then Y * Z else 0 := ⟨_, rfl⟩
      obtain ⟨U, hU⟩ : ∃ U, U = if two (nf Q) (sf Q) (nf R) (sf R) = 0 then Q + R else 0 := ⟨_, rfl⟩
      obtain ⟨D, hD⟩ : ∃ D, D = if two (nf S) (sf S) n1 s1 = 0 then S - Y else 0 := ⟨_, rfl⟩
      have bS : Bd S 401 := by rw [hS]; exact (bX.add bY).ite
      have bQ : Bd Q 800 := by rw [hQ]; exact (bX.mul bZ).ite
      have bR : Bd R 800 := by rw [hR]; exact (bY.mul bZ).ite
      have zS := hsz _ _ bS
      have zQ := hsz _ _ bQ
      have zR := hsz _ _ bR
      refine ring_walk n0 n1 n2 (nf S) (nf P) (nf Q) (nf R) (nf U) (nf D) s0 s1 s2 (sf S) (sf P) (sf Q) (sf R) (sf U) (sf D) (two n0 s0 n1 s1) (two (nf S) (sf S) n2 s2) (two n0 s0 n2 s2) (two n1 s1 n2 s2) (two (nf Q) (sf Q) (nf R) (sf R)) (two (nf S) (sf S) n1 s1) w hT h0 h1 h2 ?_ ?_ ?_ ?_ ?_ ?_ ?_
      · intro w
        have := zadd_any n0 n1 s0 s1 w (by omega) (by omega)
        rwa [← hX, ← hY, ← hS, hf] at this
      · intro w
        have := zmul_any (nf S) n2 (sf S) s2 w (by omega) (by omega)
        rwa [hz, ← hZ, ← hP, hf] at this
      · intro w
        have := zmul_any n0 n2 s0 s2 w (by omega) (by omega)
        rwa [← hX, ← hZ, ← hQ, hf] at this
      · intro w
        have := zmul_any n1 n2 s1 s2 w (by omega) (by omega)
        rwa [← hY, ← hZ, ← hR, hf] at this
      · intro w
        have := zadd_any (nf Q) (nf R) (sf Q) (sf R) w (by omega) (by omega)
        rwa [hz, hz, ← hU, hf] at this
      · intro w
        have := zsub_any (nf S) n1 (sf S) s1 w (by omega) (by omega)
        rwa [hz, ← hY, ← hD, hf] at this
      · intro z1 z2 z3 z4 z5 z6
        rw [if_pos z1] at hS
        rw [if_pos z2] at hP
        rw [if_pos z3] at hQ
        rw [if_pos z4] at hR
        rw [if_pos z5] at hU
        rw [if_pos z6] at hD
        have e1 : P = U := by rw [hP, hU, hS, hQ, hR, Int.add_mul]
        have e2 : D = X := by rw [hD, hS]; omega
        have o0 := (chk_zero (two_zero.1 z1).1).2
        obtain ⟨b1, b2⟩ := hback n0 s0 o0
        rw [e1, e2, hX]
        exact ⟨rfl, rfl, b1, b2⟩
    · obtain ⟨h0, h1⟩ := hsm
      go_enter Tryz.func7, Tryz.ntmps7
      go_wp2_with fail
      obtain ⟨w0, hw0, ka, kb, kc, bb⟩ := bx3 w (.bool n0) (.string s0) (.bool n1) (.string s1) (.bool n2) (.string s2)
      rw [← hw0]
      clear hw0
      refine (small_yes n0 n1 s0 s1 w0 h0 h1).mono ?_
      rintro e w1 ⟨rfl, b1⟩
      have cc1 := cel2_1' (kc.below b1)
      replace bb := Below.after bb b1
      have HL := shut (live2_any w1 (hT.below bb))
      go_wp2_with fail
      refine HL.out.mono ?_
      rintro e wl ⟨rfl, bl⟩
      replace bb := Below.after bb bl
      go_wp2
      go_ret
      exact ⟨rfl, bb⟩
  · go_enter Tryz.func7, Tryz.ntmps7
    go_wp2_with fail
    obtain ⟨w0, hw0, ka, kb, kc, bb⟩ := bx3 w (.bool n0) (.string s0) (.bool n1) (.string s1) (.bool n2) (.string s2)
    rw [← hw0]
    clear hw0
    refine (small_no n0 n1 s0 s1 w0 hsm).mono ?_
    rintro e w1 ⟨rfl, b1⟩
    have cc1 := cel2_1' (kc.below b1)
    replace bb := Below.after bb b1
    have HL := shut (live2_any w1 (hT.below bb))
    clear hsm
    go_wp2_with fail
    refine HL.out.mono ?_
    rintro e wl ⟨rfl, bl⟩
    replace bb := Below.after bb bl
    go_wp2
    go_ret
    exact ⟨rfl, bb⟩
end Go.Proofs.YtkmlknaofnomeaaGreatDoor
