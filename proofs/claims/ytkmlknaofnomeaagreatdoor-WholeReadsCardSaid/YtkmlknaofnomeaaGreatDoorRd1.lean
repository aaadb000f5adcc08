/-
  gussetlaw02.WholeReads, walked.
-/
import Derived.Test.YtkmlknaofnomeaaGreatDoorG26
import Derived.Test.YtkmlknaofnomeaaGreatDoorG21
namespace Go.Proofs.YtkmlknaofnomeaaGreatDoor
open Go.RowKit Go.Shelf

set_option maxRecDepth 100000 in
set_option maxHeartbeats 4000000 in
theorem reads_walk (s ss so : ByteArray) (ns no : Bool) (n E : Int) (w : World) (hT : Tab w)
    (H1 : Hid (∀ w, Calls Tryz.prog 22 #[.string s] w fun e w' => e = .returned (.tuple #[.agg #[.bool ns, .string ss], .int .i64 E]) ∧ Below w.heap.size w w'))
    (H2 : Hid (∀ w, Calls Tryz.prog 23 #[.string s] w fun e w' => e = .returned (.tuple #[.agg #[.bool ns, .string ss], .int .i64 E]) ∧ Below w.heap.size w w'))
    (H3 : Hid (∀ w, Calls Tryz.prog 24 #[.int .i64 n] w fun e w' => e = .returned (.agg #[.bool no, .string so]) ∧ Below w.heap.size w w'))
    (H4 : Hid (∀ w, Calls Tryz.prog 25 #[.int .i64 n] w fun e w' => e = .returned (.agg #[.bool no, .string so]) ∧ Below w.heap.size w w')) :
    Calls Tryz.prog 5 #[.string s, .int .i64 n] w fun e w' => e = .returned (.bool true) ∧ Below w.heap.size w w' := by
  go_enter Tryz.func5, Tryz.ntmps5
  go_wp2_with fail
  refine (H1.out w).mono ?_
  rintro e w1 ⟨rfl, bb⟩
  clear H1
  obtain ⟨w2, hw, ka, b1⟩ := bx1 w1 (.bool ns) (.string ss)
  go_wp2_with fail
  rw [← hw]
  clear hw
  replace bb := Below.after bb b1
  clear b1
  refine (H2.out w2).mono ?_
  rintro e w3 ⟨rfl, b1⟩
  replace ka := ka.below b1
  replace bb := Below.after bb b1
  clear b1 H2
  obtain ⟨w4, hw, kb, b1⟩ := bx1 w3 (.bool ns) (.string ss)
  replace ka := ka.below b1
  replace bb := Below.after bb b1
  clear b1
  have HL := shut (fun wl (bl : Below w.heap.size w wl) => live2_any wl (hT.below bl))
  clear hT
  have ca0 := cel2_0' ka
  have ca1 := cel2_1' ka
  have cb0 := cel2_0' kb
  have cb1 := cel2_1' kb
  rw [hw] at ca0 ca1 cb0 cb1
  go_wp2_with fail
  rw [← hw]
  clear hw ca0 ca1 cb0 cb1
  refine (H3.out w4).mono ?_
  rintro e w5 ⟨rfl, b1⟩
  replace bb := Below.after bb b1
  clear b1
  go_wp2_with fail
  refine (H4.out w5).mono ?_
  rintro e w6 ⟨rfl, b1⟩
  replace bb := Below.after bb b1
  clear b1
  go_wp2_with fail
  refine (HL.out w6 bb).mono ?_
  rintro e w7 ⟨rfl, b1⟩
  replace bb := Below.after bb b1
  clear b1
  go_wp2
  go_ret
  exact ⟨rfl, bb⟩
end Go.Proofs.YtkmlknaofnomeaaGreatDoor
