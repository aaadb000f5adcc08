/-
  gussetlaw02.WholeSums.
-/
import Derived.Test.YtkmlknaofnomeaaGreatDoorSm1
import Derived.Test.YtkmlknaofnomeaaGreatDoorG26
namespace Go.Proofs.YtkmlknaofnomeaaGreatDoor
open Go.RowKit Go.Shelf

set_option maxRecDepth 100000 in
set_option maxHeartbeats 2000000 in
theorem sums_law (n0 n1 : Bool) (s0 s1 : ByteArray) (w : World) (hT : Tab w) :
    Calls Tryz.prog 3 #[.agg #[.bool n0, .string s0], .agg #[.bool n1, .string s1]] w fun e w' => e = .returned (.bool true) ∧ Below w.heap.size w w' := by
  by_cases hsm : s0.size ≤ 400 ∧ s1.size ≤ 400
  · obtain ⟨h0, h1⟩ := hsm
    by_cases h2 : two n0 s0 n1 s1 = 0
    · obtain ⟨nf, sf, hf, hok, hsz, hz, hback, -, -⟩ := named
      have o0 := (chk_zero (two_zero.1 h2).1).2
      have o1 := (chk_zero (two_zero.1 h2).2).2
      refine sums_walk n0 n1 (nf (zOf n0 s0 + zOf n1 s1)) (nf (zOf n0 s0 - zOf n1 s1)) (nf (zOf n0 s0 * zOf n1 s1)) s0 s1 (sf (zOf n0 s0 + zOf n1 s1)) (sf (zOf n0 s0 - zOf n1 s1)) (sf (zOf n0 s0 * zOf n1 s1)) (cmpZ (zOf n0 s0) (zOf n1 s1)) w hT h0 h1 h2 ?_ ?_ ?_ ?_ ?_ ?_ ?_ ?_
      · intro w
        exact zcmp_ok n0 n1 s0 s1 w o0 o1 (by omega) (by omega)
      · intro w
        have := zadd_ok n0 n1 s0 s1 w o0 o1 (by omega) (by omega)
        rwa [hf] at this
      · intro w
        have := zsub_ok n0 n1 s0 s1 w o0 o1 (by omega) (by omega)
        rwa [hf] at this
      · intro w
        have := zmul_ok n0 n1 s0 s1 w o0 o1 (by omega) (by omega)
        rwa [hf] at this
      · intro w
        exact rorder_any n0 n1 s0 s1 w o0 o1 (by omega) (by omega)
      · intro w
        have := rsum_any n0 n1 s0 s1 w (by omega) (by omega)
        rwa [hf] at this
      · intro w
        have := rless_any n0 n1 s0 s1 w (by omega) (by omega)
        rwa [hf] at this
      · intro w
        have := rtimes_any n0 n1 s0 s1 w (by omega) (by omega)
        rwa [hf] at this
    · have HB := shut (rboth_any n0 n1 s0 s1)
      generalize two n0 s0 n1 s1 = c at *
      have h2' : ¬ (c : Int) = 0 := by omega
      go_enter Tryz.func3, Tryz.ntmps3
      go_wp2_with fail
      obtain ⟨w0, hw0, ka, kb, bb⟩ := bx2 w (.bool n0) (.string s0) (.bool n1) (.string s1)
      rw [← hw0]
      clear hw0
      refine (small_yes n0 n1 s0 s1 w0 h0 h1).mono ?_
      rintro e w1 ⟨rfl, b1⟩
      replace ka := ka.below b1
      replace kb := kb.below b1
      replace bb := Below.after bb b1
      have ca0 := cel2_0' ka
      have ca1 := cel2_1' ka
      have cb0 := cel2_0' kb
      have cb1 := cel2_1' kb
      go_wp2_with fail
      refine (HB.out w1).mono ?_
      rintro e w2 ⟨rfl, b2⟩
      replace bb := Below.after bb b2
      have HL := shut (live2_any w2 (hT.below bb))
      go_wp2_with fail
      refine HL.out.mono ?_
      rintro e wl ⟨rfl, bl⟩
      replace bb := Below.after bb bl
      go_wp2
      go_ret
      exact ⟨rfl, bb⟩
  · go_enter Tryz.func3, Tryz.ntmps3
    go_wp2_with fail
    obtain ⟨w0, hw0, ka, kb, bb⟩ := bx2 w (.bool n0) (.string s0) (.bool n1) (.string s1)
    rw [← hw0]
    clear hw0
    refine (small_no n0 n1 s0 s1 w0 hsm).mono ?_
    rintro e w1 ⟨rfl, b1⟩
    replace bb := Below.after bb b1
    have HL := shut (live2_any w1 (hT.below bb))
    clear hsm
    go_wp2_with fail
    refine HL.out.mono ?_
    rintro e wl ⟨rfl, bl⟩
    replace bb := Below.after bb bl
    go_wp2
    go_ret
    exact ⟨rfl, bb⟩
end Go.Proofs.YtkmlknaofnomeaaGreatDoor
