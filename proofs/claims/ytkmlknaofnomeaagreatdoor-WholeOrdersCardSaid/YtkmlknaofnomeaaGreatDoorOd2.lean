/-
  gussetlaw02.WholeOrders.
-/
import Derived.Test.YtkmlknaofnomeaaGreatDoorOd1
import Derived.Test.YtkmlknaofnomeaaGreatDoorG26
namespace Go.Proofs.YtkmlknaofnomeaaGreatDoor
open Go.RowKit Go.Shelf

theorem cmpZ_neg (x y : Int) : cmpZ x y = -cmpZ y x := by unfold cmpZ; split <;> split <;> omega
theorem cmpZ_sub (x y : Int) : cmpZ (x - y) 0 = -cmpZ y x := by unfold cmpZ; split <;> split <;> (try split) <;> (try split) <;> omega
theorem cmpZ_add (x y z : Int) : cmpZ (x + z) (y + z) = -cmpZ y x := by unfold cmpZ; split <;> split <;> (try split) <;> (try split) <;> omega
theorem cmpZ_bd (x y : Int) : -1 ≤ cmpZ x y ∧ cmpZ x y ≤ 1 := by unfold cmpZ; split <;> (try split) <;> omega
theorem okZ_zero : OkZ false { data := #[] } := ⟨fun h => absurd h (by decide), fun h => absurd h (by decide)⟩
theorem zOf_zero : zOf false { data := #[] } = 0 := by
  unfold zOf
  rw [natOf_empty (by rfl)]
  rfl

set_option maxHeartbeats 1000000 in
theorem orders_law (n0 n1 n2 : Bool) (s0 s1 s2 : ByteArray) (w : World) (hT : Tab w) :
    Calls Tryz.prog 8 #[.agg #[.bool n0, .string s0], .agg #[.bool n1, .string s1], .agg #[.bool n2, .string s2]] w fun e w' => e = .returned (.bool true) ∧ Below w.heap.size w w' := by
  by_cases hsm : s0.size ≤ 400 ∧ s1.size ≤ 400
  · by_cases h2 : s2.size ≤ 400
    · obtain ⟨h0, h1⟩ := hsm
      obtain ⟨nf, sf, hf, hok, hsz, hz, hback, -, -⟩ := named
      obtain ⟨X, hX⟩ : ∃ X, X = zOf n0 s0 := ⟨_, rfl⟩
      obtain ⟨Y, hY⟩ : ∃ Y, Y = zOf n1 s1 := ⟨_, rfl⟩
      obtain ⟨Z, hZ⟩ : ∃ Z, Z = zOf n2 s2 := ⟨_, rfl⟩
      have bX : Bd X 400 := by rw [hX]; exact bd_zOf h0
      have bY : Bd Y 400 := by rw [hY]; exact bd_zOf h1
      have bZ : Bd Z 400 := by rw [hZ]; exact bd_zOf h2
      obtain ⟨D, hD⟩ : ∃ D, D = if two n0 s0 n1 s1 = 0 then X - Y else 0 := ⟨_, rfl⟩
      obtain ⟨S, hS⟩ : ∃ S, S = if two n0 s0 n2 s2 = 0 then X + Z else 0 := ⟨_, rfl⟩
      obtain ⟨U, hU⟩ : ∃ U, U = if two n1 s1 n2 s2 = 0 then Y + Z else 0 := ⟨_, rfl⟩
      have bD : Bd D 401 := by rw [hD]; exact (bX.sub bY).ite
      have bS : Bd S 401 := by rw [hS]; exact (bX.add bZ).ite
      have bU : Bd U 401 := by rw [hU]; exact (bY.add bZ).ite
      have zD := hsz _ _ bD
      have zS := hsz _ _ bS
      have zU := hsz _ _ bU
      have cD := chk_named (hok D) (by omega)
      have cS := chk_named (hok S) (by omega)
      have cU := chk_named (hok U) (by omega)
      have c0 := chk_named okZ_zero (by decide)
      have j0 : two (nf D) (sf D) false { data := #[] } = 0 := two_zero.2 ⟨cD, c0⟩
      have k0 : two (nf S) (sf S) (nf U) (sf U) = 0 := two_zero.2 ⟨cS, cU⟩
      have hb := cmpZ_bd Y X
      refine orders_walk n0 n1 n2 (nf D) (nf S) (nf U) s0 s1 s2 (sf D) (sf S) (sf U) (if two n0 s0 n1 s1 = 0 then cmpZ X Y else 0) (if two n1 s1 n0 s0 = 0 then cmpZ Y X else 0) (cmpZ D 0) (cmpZ S U) (two n0 s0 n1 s1) (two n1 s1 n0 s0) (two n0 s0 n1 s1) (two n0 s0 n2 s2) (two n1 s1 n2 s2) 0 0 w hT h0 h1 h2 ?_ ?_ ?_ ?_ ?_ ?_ ?_ ?_ ?_ ?_
      · intro w
        have := zcmp_any n0 n1 s0 s1 w
        rwa [← hX, ← hY] at this
      · intro w
        have := zcmp_any n1 n0 s1 s0 w
        rwa [← hX, ← hY] at this
      · intro w
        have := zsub_any n0 n1 s0 s1 w (by omega) (by omega)
        rwa [← hX, ← hY, ← hD, hf] at this
      · intro w
        have := zadd_any n0 n2 s0 s2 w (by omega) (by omega)
        rwa [← hX, ← hZ, ← hS, hf] at this
      · intro w
        have := zadd_any n1 n2 s1 s2 w (by omega) (by omega)
        rwa [← hY, ← hZ, ← hU, hf] at this
      · intro w
        have := zcmp_any (nf D) false (sf D) { data := #[] } w
        rw [if_pos j0, j0, hz, zOf_zero] at this
        exact this
      · intro w
        have := zcmp_any (nf S) (nf U) (sf S) (sf U) w
        rw [if_pos k0, k0, hz, hz] at this
        exact this
      · intro z1 z2 z3 z4 z5
        rw [if_pos z1] at hD
        rw [if_pos z4] at hS
        rw [if_pos z5] at hU
        rw [if_pos z1, if_pos z2, hD, hS, hU]
        exact ⟨cmpZ_neg X Y, cmpZ_sub X Y, rfl, cmpZ_add X Y Z, rfl⟩
      · split <;> omega
      · split <;> omega
    · obtain ⟨h0, h1⟩ := hsm
      go_enter Tryz.func8, Tryz.ntmps8
      go_wp2_with fail
      obtain ⟨w0, hw0, ka, kb, kc, bb⟩ := bx3 w (.bool n0) (.string s0) (.bool n1) (.string s1) (.bool n2) (.string s2)
      rw [← hw0]
      clear hw0
      refine (small_yes n0 n1 s0 s1 w0 h0 h1).mono ?_
      rintro e w1 ⟨rfl, b1⟩
      have cc1 := cel2_1' (kc.below b1)
      replace bb := Below.after bb b1
      have HL := shut (live2_any w1 (hT.below bb))
      go_wp2_with fail
      refine HL.out.mono ?_
      rintro e wl ⟨rfl, bl⟩
      replace bb := Below.after bb bl
      go_wp2
      go_ret
      exact ⟨rfl, bb⟩
  · go_enter Tryz.func8, Tryz.ntmps8
    go_wp2_with fail
    obtain ⟨w0, hw0, ka, kb, kc, bb⟩ := bx3 w (.bool n0) (.string s0) (.bool n1) (.string s1) (.bool n2) (.string s2)
    rw [← hw0]
    clear hw0
    refine (small_no n0 n1 s0 s1 w0 hsm).mono ?_
    rintro e w1 ⟨rfl, b1⟩
    have cc1 := cel2_1' (kc.below b1)
    replace bb := Below.after bb b1
    have HL := shut (live2_any w1 (hT.below bb))
    clear hsm
    go_wp2_with fail
    refine HL.out.mono ?_
    rintro e wl ⟨rfl, bl⟩
    replace bb := Below.after bb bl
    go_wp2
    go_ret
    exact ⟨rfl, bb⟩
end Go.Proofs.YtkmlknaofnomeaaGreatDoor
