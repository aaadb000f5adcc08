/-
  gussetlaw02.WholeSums, walked.
-/
import Derived.Test.YtkmlknaofnomeaaGreatDoorG26
import Derived.Test.YtkmlknaofnomeaaGreatDoorG31
namespace Go.Proofs.YtkmlknaofnomeaaGreatDoor
open Go.RowKit Go.Shelf

set_option maxRecDepth 100000 in
set_option maxHeartbeats 8000000 in
theorem sums_walk (n0 n1 ns nd np : Bool) (s0 s1 ss sd sp : ByteArray) (x : Int) (w : World) (hT : Tab w) (h0 : s0.size ≤ 400) (h1 : s1.size ≤ 400) (h2 : two n0 s0 n1 s1 = 0)
    (H1 : Hid (∀ w, Calls Tryz.prog 12 #[.agg #[.bool n0, .string s0], .agg #[.bool n1, .string s1]] w fun e w' => e = .returned (.tuple #[.int .i64 x, .int .i64 0]) ∧ Below w.heap.size w w'))
    (H2 : Hid (∀ w, Calls Tryz.prog 13 #[.agg #[.bool n0, .string s0], .agg #[.bool n1, .string s1]] w fun e w' => e = .returned (.tuple #[.agg #[.bool ns, .string ss], .int .i64 0]) ∧ Below w.heap.size w w'))
    (H3 : Hid (∀ w, Calls Tryz.prog 14 #[.agg #[.bool n0, .string s0], .agg #[.bool n1, .string s1]] w fun e w' => e = .returned (.tuple #[.agg #[.bool nd, .string sd], .int .i64 0]) ∧ Below w.heap.size w w'))
    (H4 : Hid (∀ w, Calls Tryz.prog 15 #[.agg #[.bool n0, .string s0], .agg #[.bool n1, .string s1]] w fun e w' => e = .returned (.tuple #[.agg #[.bool np, .string sp], .int .i64 0]) ∧ Below w.heap.size w w'))
    (R1 : Hid (∀ w, Calls Tryz.prog 16 #[.agg #[.bool n0, .string s0], .agg #[.bool n1, .string s1]] w fun e w' => e = .returned (.int .i64 x) ∧ Below w.heap.size w w'))
    (R2 : Hid (∀ w, Calls Tryz.prog 17 #[.agg #[.bool n0, .string s0], .agg #[.bool n1, .string s1]] w fun e w' => e = .returned (.agg #[.bool ns, .string ss]) ∧ Below w.heap.size w w'))
    (R3 : Hid (∀ w, Calls Tryz.prog 18 #[.agg #[.bool n0, .string s0], .agg #[.bool n1, .string s1]] w fun e w' => e = .returned (.agg #[.bool nd, .string sd]) ∧ Below w.heap.size w w'))
    (R4 : Hid (∀ w, Calls Tryz.prog 19 #[.agg #[.bool n0, .string s0], .agg #[.bool n1, .string s1]] w fun e w' => e = .returned (.agg #[.bool np, .string sp]) ∧ Below w.heap.size w w')) :
    Calls Tryz.prog 3 #[.agg #[.bool n0, .string s0], .agg #[.bool n1, .string s1]] w fun e w' => e = .returned (.bool true) ∧ Below w.heap.size w w' := by
  have HB := shut (rboth_any n0 n1 s0 s1)
  rw [h2] at HB
  clear h2
  go_enter Tryz.func3, Tryz.ntmps3
  go_wp2_with fail
  obtain ⟨w0, hw0, ka, kb, bb⟩ := bx2 w (.bool n0) (.string s0) (.bool n1) (.string s1)
  rw [← hw0]
  clear hw0
  refine (small_yes n0 n1 s0 s1 w0 h0 h1).mono ?_
  rintro e w1 ⟨rfl, b1⟩
  replace ka := ka.below b1
  replace kb := kb.below b1
  replace bb := Below.after bb b1
  clear b1
  have ca0 := cel2_0' ka
  have ca1 := cel2_1' ka
  have cb0 := cel2_0' kb
  have cb1 := cel2_1' kb
  go_wp2_with fail
  clear ca0 ca1 cb0 cb1
  refine (HB.out w1).mono ?_
  rintro e w2 ⟨rfl, b1⟩
  replace ka := ka.below b1
  replace kb := kb.below b1
  replace bb := Below.after bb b1
  clear b1 HB
  have ca0 := cel2_0' ka
  have ca1 := cel2_1' ka
  have cb0 := cel2_0' kb
  have cb1 := cel2_1' kb
  go_wp2_with fail
  clear ca0 ca1 cb0 cb1
  refine (H1.out w2).mono ?_
  rintro e w3 ⟨rfl, b1⟩
  replace ka := ka.below b1
  replace kb := kb.below b1
  replace bb := Below.after bb b1
  clear b1 H1
  have ca0 := cel2_0' ka
  have ca1 := cel2_1' ka
  have cb0 := cel2_0' kb
  have cb1 := cel2_1' kb
  go_wp2_with fail
  clear ca0 ca1 cb0 cb1
  refine (H2.out w3).mono ?_
  rintro e w4 ⟨rfl, b1⟩
  replace ka := ka.below b1
  replace kb := kb.below b1
  replace bb := Below.after bb b1
  clear b1 H2
  obtain ⟨w5, hw, ks, b1⟩ := bx1 w4 (.bool ns) (.string ss)
  have ca0 := cel2_0' (ka.alloc (.cells #[.bool ns, .string ss] 24))
  have ca1 := cel2_1' (ka.alloc (.cells #[.bool ns, .string ss] 24))
  have cb0 := cel2_0' (kb.alloc (.cells #[.bool ns, .string ss] 24))
  have cb1 := cel2_1' (kb.alloc (.cells #[.bool ns, .string ss] 24))
  go_wp2_with fail
  rw [← hw]
  clear hw ca0 ca1 cb0 cb1
  replace ka := ka.below b1
  replace kb := kb.below b1
  replace bb := Below.after bb b1
  clear b1
  refine (H3.out w5).mono ?_
  rintro e w6 ⟨rfl, b1⟩
  replace ka := ka.below b1
  replace kb := kb.below b1
  replace ks := ks.below b1
  replace bb := Below.after bb b1
  clear b1 H3
  obtain ⟨w7, hw, kd, b1⟩ := bx1 w6 (.bool nd) (.string sd)
  have ca0 := cel2_0' (ka.alloc (.cells #[.bool nd, .string sd] 24))
  have ca1 := cel2_1' (ka.alloc (.cells #[.bool nd, .string sd] 24))
  have cb0 := cel2_0' (kb.alloc (.cells #[.bool nd, .string sd] 24))
  have cb1 := cel2_1' (kb.alloc (.cells #[.bool nd, .string sd] 24))
  go_wp2_with fail
  rw [← hw]
  clear hw ca0 ca1 cb0 cb1
  replace ka := ka.below b1
  replace kb := kb.below b1
  replace ks := ks.below b1
  replace bb := Below.after bb b1
  clear b1
  refine (H4.out w7).mono ?_
  rintro e w8 ⟨rfl, b1⟩
  replace ka := ka.below b1
  replace kb := kb.below b1
  replace ks := ks.below b1
  replace kd := kd.below b1
  replace bb := Below.after bb b1
  clear b1 H4
  obtain ⟨w9, hw, kp, b1⟩ := bx1 w8 (.bool np) (.string sp)
  replace ka := ka.below b1
  replace kb := kb.below b1
  replace ks := ks.below b1
  replace kd := kd.below b1
  replace bb := Below.after bb b1
  clear b1
  have HL := shut (fun wl (bl : Below w.heap.size w wl) => live2_any wl (hT.below bl))
  clear hT
  go_wp2
  rw [← hw]
  clear hw
  go_region_held3 (fun w' => w'.cell? ⟨w.heap.size, 0, none⟩ = some (.bool n0) ∧ w'.cell? ⟨w.heap.size, 1, none⟩ = some (.string s0) ∧ w'.cell? ⟨w.heap.size + 1, 0, none⟩ = some (.bool n1) ∧ w'.cell? ⟨w.heap.size + 1, 1, none⟩ = some (.string s1) ∧ w'.cell? ⟨w4.heap.size, 0, none⟩ = some (.bool ns) ∧ w'.cell? ⟨w4.heap.size, 1, none⟩ = some (.string ss) ∧ w'.cell? ⟨w6.heap.size, 0, none⟩ = some (.bool nd) ∧ w'.cell? ⟨w6.heap.size, 1, none⟩ = some (.string sd) ∧ w'.cell? ⟨w8.heap.size, 0, none⟩ = some (.bool np) ∧ w'.cell? ⟨w8.heap.size, 1, none⟩ = some (.string sp)) (exact ⟨cel2_0' ka, cel2_1' ka, cel2_0' kb, cel2_1' kb, cel2_0' ks, cel2_1' ks, cel2_0' kd, cel2_1' kd, cel2_0' kp, cel2_1' kp⟩) (first | (go_at_call 16; refine (R1.out _).mono ?_; rintro e wn ⟨rfl, bn⟩; replace ka := ka.below ⟨bn.os, bn.tape, bn.output, bn.size, bn.block⟩; replace kb := kb.below ⟨bn.os, bn.tape, bn.output, bn.size, bn.block⟩; replace ks := ks.below ⟨bn.os, bn.tape, bn.output, bn.size, bn.block⟩; replace kd := kd.below ⟨bn.os, bn.tape, bn.output, bn.size, bn.block⟩; replace kp := kp.below ⟨bn.os, bn.tape, bn.output, bn.size, bn.block⟩; replace bb := Below.after bb ⟨bn.os, bn.tape, bn.output, bn.size, bn.block⟩) | (go_at_call 17; refine (R2.out _).mono ?_; rintro e wn ⟨rfl, bn⟩; replace ka := ka.below ⟨bn.os, bn.tape, bn.output, bn.size, bn.block⟩; replace kb := kb.below ⟨bn.os, bn.tape, bn.output, bn.size, bn.block⟩; replace ks := ks.below ⟨bn.os, bn.tape, bn.output, bn.size, bn.block⟩; replace kd := kd.below ⟨bn.os, bn.tape, bn.output, bn.size, bn.block⟩; replace kp := kp.below ⟨bn.os, bn.tape, bn.output, bn.size, bn.block⟩; replace bb := Below.after bb ⟨bn.os, bn.tape, bn.output, bn.size, bn.block⟩) | (go_at_call 18; refine (R3.out _).mono ?_; rintro e wn ⟨rfl, bn⟩; replace ka := ka.below ⟨bn.os, bn.tape, bn.output, bn.size, bn.block⟩; replace kb := kb.below ⟨bn.os, bn.tape, bn.output, bn.size, bn.block⟩; replace ks := ks.below ⟨bn.os, bn.tape, bn.output, bn.size, bn.block⟩; replace kd := kd.below ⟨bn.os, bn.tape, bn.output, bn.size, bn.block⟩; replace kp := kp.below ⟨bn.os, bn.tape, bn.output, bn.size, bn.block⟩; replace bb := Below.after bb ⟨bn.os, bn.tape, bn.output, bn.size, bn.block⟩) | (go_at_call 19; refine (R4.out _).mono ?_; rintro e wn ⟨rfl, bn⟩; replace ka := ka.below ⟨bn.os, bn.tape, bn.output, bn.size, bn.block⟩; replace kb := kb.below ⟨bn.os, bn.tape, bn.output, bn.size, bn.block⟩; replace ks := ks.below ⟨bn.os, bn.tape, bn.output, bn.size, bn.block⟩; replace kd := kd.below ⟨bn.os, bn.tape, bn.output, bn.size, bn.block⟩; replace kp := kp.below ⟨bn.os, bn.tape, bn.output, bn.size, bn.block⟩; replace bb := Below.after bb ⟨bn.os, bn.tape, bn.output, bn.size, bn.block⟩) | (go_at_call 11; refine (HL.out _ bb).mono ?_; rintro e wn ⟨rfl, bn⟩; replace ka := ka.below ⟨bn.os, bn.tape, bn.output, bn.size, bn.block⟩; replace kb := kb.below ⟨bn.os, bn.tape, bn.output, bn.size, bn.block⟩; replace ks := ks.below ⟨bn.os, bn.tape, bn.output, bn.size, bn.block⟩; replace kd := kd.below ⟨bn.os, bn.tape, bn.output, bn.size, bn.block⟩; replace kp := kp.below ⟨bn.os, bn.tape, bn.output, bn.size, bn.block⟩; replace bb := Below.after bb ⟨bn.os, bn.tape, bn.output, bn.size, bn.block⟩))
  go_wp2
  go_ret
  exact ⟨rfl, bb⟩
end Go.Proofs.YtkmlknaofnomeaaGreatDoor
