/-
  gussetlaw02.WholeChecks.
-/
import Derived.Test.YtimmgjlojplccaaGreatDoorG52
import Derived.Test.YtimmgjlojplccaaGreatDoorG53
import Derived.Test.YtimmgjlojplccaaGreatDoorG51
import Derived.Test.YtimmgjlojplccaaGreatDoorG26
namespace Go.Proofs.YtimmgjlojplccaaGreatDoor
open Go.RowKit Go.Shelf

set_option maxRecDepth 100000 in
set_option maxHeartbeats 4000000 in
theorem checks_bad (n0 n1 : Bool) (s0 s1 : ByteArray) (w : World) (hT : Tab w) (h : ¬ (s0.size ≤ 400 ∧ s1.size ≤ 400)) :
    Calls Tryz.prog 3 #[.agg #[.bool n0, .string s0], .agg #[.bool n1, .string s1]] w fun e w' => e = .returned (.bool true) ∧ Below w.heap.size w w' := by
  have HL := shut (fun wl (bl : Below w.heap.size w wl) => live2_any wl (hT.below bl))
  have HS := shut (fun w => small_no n0 n1 s0 s1 w h)
  clear hT h
  go_enter Tryz.func3, Tryz.ntmps3
  go_wp2_with fail
  obtain ⟨w0, hw0, ka, kb, bb⟩ := bx2 w (.bool n0) (.string s0) (.bool n1) (.string s1)
  rw [← hw0]
  clear hw0
  refine (HS.out w0).mono ?_
  rintro e w1 ⟨rfl, b1⟩
  replace bb := Below.after bb b1
  clear b1
  go_wp2_with fail
  refine (HL.out w1 bb).mono ?_
  rintro e w7 ⟨rfl, b1⟩
  replace bb := Below.after bb b1
  clear b1
  go_wp2
  go_ret
  exact ⟨rfl, bb⟩

theorem checks_law (n0 n1 : Bool) (s0 s1 : ByteArray) (w : World) (hT : Tab w) (hP : TabP w) :
    Calls Tryz.prog 3 #[.agg #[.bool n0, .string s0], .agg #[.bool n1, .string s1]] w fun e w' => e = .returned (.bool true) ∧ Below w.heap.size w w' := by
  by_cases hb : s0.size ≤ 400 ∧ s1.size ≤ 400
  · obtain ⟨z0, z1⟩ := hb
    obtain ⟨nf, sf, hf, -⟩ := named
    obtain ⟨T, hPr⟩ := print_all n0 s0 w hP z0
    obtain ⟨nd, ne, sd, se, J, hJ, hD⟩ := div_all n0 n1 s0 s1 z0 z1
    refine checks_walk n0 n1 s0 s1 T _ ((two n0 s0 n1 s1 : Nat) : Int) J ((chk n0 s0 : Nat) : Int) (nf (if two n0 s0 n1 s1 = 0 then zOf n0 s0 + zOf n1 s1 else 0)) (nf (if two n0 s0 n1 s1 = 0 then zOf n0 s0 - zOf n1 s1 else 0)) (nf (if two n0 s0 n1 s1 = 0 then zOf n0 s0 * zOf n1 s1 else 0)) nd ne (nf (if two n0 s0 n1 s1 = 0 then ((Nat.gcd (natOf s0) (natOf s1) : Nat) : Int) else 0))
      (sf (if two n0 s0 n1 s1 = 0 then zOf n0 s0 + zOf n1 s1 else 0)) (sf (if two n0 s0 n1 s1 = 0 then zOf n0 s0 - zOf n1 s1 else 0)) (sf (if two n0 s0 n1 s1 = 0 then zOf n0 s0 * zOf n1 s1 else 0)) sd se (sf (if two n0 s0 n1 s1 = 0 then ((Nat.gcd (natOf s0) (natOf s1) : Nat) : Int) else 0)) w z0 z1 hJ
      (fun wl bl => live2_any wl (hT.below bl)) (fun w1 _ => rboth_any n0 n1 s0 s1 w1) (fun w1 _ => zcmp_any n0 n1 s0 s1 w1) ?_ ?_ ?_ (fun w1 _ => hD w1) ?_ hPr (fun w1 _ => check_any n0 s0 w1) (fun w1 _ => rcheck_any n0 s0 w1)
    · intro w1 _
      have := zadd_any n0 n1 s0 s1 w1 (by omega) (by omega)
      rwa [hf] at this
    · intro w1 _
      have := zsub_any n0 n1 s0 s1 w1 (by omega) (by omega)
      rwa [hf] at this
    · intro w1 _
      have := zmul_any n0 n1 s0 s1 w1 (by omega) (by omega)
      rwa [hf] at this
    · intro w1 b1
      have := zgcd_any n0 n1 s0 s1 w1 (by omega) (by omega) (hT.below b1)
      rwa [hf] at this
  · exact checks_bad n0 n1 s0 s1 w hT hb
end Go.Proofs.YtimmgjlojplccaaGreatDoor
