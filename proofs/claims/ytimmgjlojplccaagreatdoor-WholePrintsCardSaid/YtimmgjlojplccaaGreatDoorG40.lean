/-
  gussetlaw02.WholePrints.
-/
import Derived.Test.YtimmgjlojplccaaGreatDoorG37
import Derived.Test.YtimmgjlojplccaaGreatDoorG39
import Derived.Test.YtimmgjlojplccaaGreatDoorG31
import Derived.Test.YtimmgjlojplccaaGreatDoorG26
namespace Go.Proofs.YtimmgjlojplccaaGreatDoor
open Go.RowKit Go.Shelf

set_option maxRecDepth 100000 in
set_option maxHeartbeats 4000000 in
theorem prints_walk (n0 : Bool) (s0 T : ByteArray) (w : World) (hT : Tab w) (z0 : s0.size ≤ 100) (hc : chk n0 s0 = 0)
    (H1 : Hid (∀ w1, Below w.heap.size w w1 → Calls Tryz.prog 15 #[.agg #[.bool n0, .string s0]] w1 fun e w' => e = .returned (.tuple #[.string T, .int .i64 0]) ∧ Below w1.heap.size w1 w'))
    (H2 : Hid (∀ w, Calls Tryz.prog 20 #[.agg #[.bool n0, .string s0]] w fun e w' => e = .returned (.string T) ∧ Below w.heap.size w w'))
    (H3 : Hid (s0.size ≤ 24 → ∀ w, Calls Tryz.prog 21 #[.string T] w fun e w' => e = .returned (.tuple #[.agg #[.bool n0, .string s0], .int .i64 0]) ∧ Below w.heap.size w w')) :
    Calls Tryz.prog 5 #[.agg #[.bool n0, .string s0]] w fun e w' => e = .returned (.bool true) ∧ Below w.heap.size w w' := by
  have HL := shut (fun wl (bl : Below w.heap.size w wl) => live2_any wl (hT.below bl))
  have HC := shut hc
  clear hT hc
  go_enter Tryz.func5, Tryz.ntmps5
  go_wp2_with fail
  obtain ⟨w1, hw, ka, bb⟩ := bx1 w (.bool n0) (.string s0)
  rw [← hw]
  clear hw
  refine (rcheck_any n0 s0 w1).mono ?_
  rintro e w2 ⟨rfl, b1⟩
  rw [HC.out]
  replace ka := ka.below b1
  replace bb := Below.after bb b1
  clear b1
  have c0 := cel2_0' ka
  have c1 := cel2_1' ka
  go_wp2_with fail
  refine (H1.out w2 bb).mono ?_
  rintro e w3 ⟨rfl, b1⟩
  replace ka := ka.below b1
  replace bb := Below.after bb b1
  clear b1 c0 c1
  have c0 := cel2_0' ka
  have c1 := cel2_1' ka
  go_wp2_with fail
  refine (H2.out w3).mono ?_
  rintro e w4 ⟨rfl, b1⟩
  replace ka := ka.below b1
  replace bb := Below.after bb b1
  clear b1 c0 c1
  have c0 := cel2_0' ka
  have c1 := cel2_1' ka
  by_cases h24 : s0.size ≤ 24
  · have H4 := shut (H3.out h24)
    clear H3
    go_wp2_with fail
    refine (H4.out w4).mono ?_
    rintro e w5 ⟨rfl, b1⟩
    replace ka := ka.below b1
    replace bb := Below.after bb b1
    clear b1 c0 c1
    obtain ⟨w6, hw, kb, b1⟩ := bx1 w5 (.bool n0) (.string s0)
    replace ka := ka.below b1
    replace bb := Below.after bb b1
    clear b1
    have ca0 := cel2_0' ka
    have ca1 := cel2_1' ka
    have cb0 := cel2_0' kb
    have cb1 := cel2_1' kb
    rw [hw] at ca0 ca1 cb0 cb1
    go_wp2_with fail
    rw [← hw]
    clear hw ca0 ca1 cb0 cb1
    refine (HL.out w6 bb).mono ?_
    rintro e w7 ⟨rfl, b1⟩
    replace bb := Below.after bb b1
    clear b1
    go_wp2
    go_ret
    exact ⟨rfl, bb⟩
  · clear H3
    go_wp2_with fail
    refine (HL.out w4 bb).mono ?_
    rintro e w7 ⟨rfl, b1⟩
    replace bb := Below.after bb b1
    clear b1
    go_wp2
    go_ret
    exact ⟨rfl, bb⟩

set_option maxRecDepth 100000 in
set_option maxHeartbeats 4000000 in
theorem prints_bad (n0 : Bool) (s0 : ByteArray) (w : World) (hT : Tab w) (h : ¬ (s0.size ≤ 100 ∧ chk n0 s0 = 0)) :
    Calls Tryz.prog 5 #[.agg #[.bool n0, .string s0]] w fun e w' => e = .returned (.bool true) ∧ Below w.heap.size w w' := by
  have HL := shut (fun wl (bl : Below w.heap.size w wl) => live2_any wl (hT.below bl))
  clear hT
  by_cases z0 : s0.size ≤ 100
  · have hc : ¬ ((chk n0 s0 : Nat) : Int) = 0 := fun e => h ⟨z0, by omega⟩
    clear h
    go_enter Tryz.func5, Tryz.ntmps5
    go_wp2_with fail
    obtain ⟨w1, hw, ka, bb⟩ := bx1 w (.bool n0) (.string s0)
    rw [← hw]
    clear hw
    refine (rcheck_any n0 s0 w1).mono ?_
    rintro e w2 ⟨rfl, b1⟩
    generalize ((chk n0 s0 : Nat) : Int) = E at *
    have hE : (E != 0) = true := by simpa using hc
    replace bb := Below.after bb b1
    clear b1
    go_wp2_with fail
    refine (HL.out w2 bb).mono ?_
    rintro e w7 ⟨rfl, b1⟩
    replace bb := Below.after bb b1
    clear b1
    go_wp2
    go_ret
    exact ⟨rfl, bb⟩
  · clear h
    go_enter Tryz.func5, Tryz.ntmps5
    go_wp2_with fail
    obtain ⟨w1, hw, ka, bb⟩ := bx1 w (.bool n0) (.string s0)
    rw [← hw]
    clear hw
    refine (HL.out w1 bb).mono ?_
    rintro e w7 ⟨rfl, b1⟩
    replace bb := Below.after bb b1
    clear b1
    go_wp2
    go_ret
    exact ⟨rfl, bb⟩

theorem prints_law (n0 : Bool) (s0 : ByteArray) (w : World) (hT : Tab w) (hP : TabP w) :
    Calls Tryz.prog 5 #[.agg #[.bool n0, .string s0]] w fun e w' => e = .returned (.bool true) ∧ Below w.heap.size w w' := by
  by_cases h : s0.size ≤ 100 ∧ chk n0 s0 = 0
  · obtain ⟨z0, hc⟩ := h
    have ok := (chk_ok (by omega)).1 hc
    exact prints_walk n0 s0 _ w hT z0 hc (fun w1 b1 => print_any n0 s0 w1 (hP.below b1 hP.lt) ok z0 _ rfl) (fun w => rtext_loop n0 s0 w (by omega) _ rfl) (fun z w => parse_text n0 s0 w ok z _ rfl)
  · exact prints_bad n0 s0 w hT h
end Go.Proofs.YtimmgjlojplccaaGreatDoor
