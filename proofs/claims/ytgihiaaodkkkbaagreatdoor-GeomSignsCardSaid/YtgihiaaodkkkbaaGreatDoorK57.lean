/-
  gussetref05: Orient, Disc, Circle, walked.
  gussetref05: Circle, walked.
  gussetref05: Orient, Disc, Circle of rational numbers.
-/
import Derived.Test.YtgihiaaodkkkbaaGreatDoorK55
import Derived.Test.YtgihiaaodkkkbaaGreatDoorK56
namespace Go.Proofs.YtgihiaaodkkkbaaGreatDoor
open Go.RowKit

set_option maxRecDepth 100000 in
set_option maxHeartbeats 8000000 in
theorem rorient_walk (n0 n1 n2 n3 n4 n5 n10 n11 n12 n13 n14 : Bool) (s0 d0 s1 d1 s2 d2 s3 d3 s4 d4 s5 d5 s10 d10 s11 d11 s12 d12 s13 d13 s14 d14 : ByteArray) (G : Int) (w : World)
  (H1 : Hid (∀ w1, Calls Tryz.prog 54 #[.agg #[.bool n2, .string s2, .string d2, .bool n3, .string s3, .string d3], .agg #[.bool n0, .string s0, .string d0, .bool n1, .string s1, .string d1]] w1 fun e w' => e = .returned (.agg #[.bool n10, .string s10, .string d10, .bool n11, .string s11, .string d11]) ∧ Below w1.heap.size w1 w'))
  (H2 : Hid (∀ w1, Calls Tryz.prog 54 #[.agg #[.bool n4, .string s4, .string d4, .bool n5, .string s5, .string d5], .agg #[.bool n0, .string s0, .string d0, .bool n1, .string s1, .string d1]] w1 fun e w' => e = .returned (.agg #[.bool n12, .string s12, .string d12, .bool n13, .string s13, .string d13]) ∧ Below w1.heap.size w1 w'))
  (H3 : Hid (∀ w1, Calls Tryz.prog 53 #[.agg #[.bool n10, .string s10, .string d10, .bool n11, .string s11, .string d11], .agg #[.bool n12, .string s12, .string d12, .bool n13, .string s13, .string d13]] w1 fun e w' => e = .returned (.agg #[.bool n14, .string s14, .string d14]) ∧ Below w1.heap.size w1 w'))
  (H4 : Hid (∀ w1, Calls Tryz.prog 15 #[.agg #[.bool n14, .string s14, .string d14]] w1 fun e w' => e = .returned (.int .i64 (G)) ∧ Below w1.heap.size w1 w')) :
  Calls Tryz.prog 22 #[.agg #[.bool n0, .string s0, .string d0, .bool n1, .string s1, .string d1], .agg #[.bool n2, .string s2, .string d2, .bool n3, .string s3, .string d3], .agg #[.bool n4, .string s4, .string d4, .bool n5, .string s5, .string d5]] w fun e w' => e = .returned (.int .i64 (G)) ∧ Below w.heap.size w w' := by
 go_enter Tryz.func22, Tryz.ntmps22
 go_wp2_with fail
 obtain ⟨w0, hw, ka, kb, kc, bb⟩ := mk3 w [.bool n0, .string s0, .string d0, .bool n1, .string s1, .string d1] [.bool n2, .string s2, .string d2, .bool n3, .string s3, .string d3] [.bool n4, .string s4, .string d4, .bool n5, .string s5, .string d5] 39 39 39
 rw [← hw]
 clear hw
 have mkS : Hid (∀ w', Cel w' (w.heap.size) [.bool n0, .string s0, .string d0, .bool n1, .string s1, .string d1] 39 → Cel w' (w.heap.size + 1) [.bool n2, .string s2, .string d2, .bool n3, .string s3, .string d3] 39 → Cel w' (w.heap.size + 1 + 1) [.bool n4, .string s4, .string d4, .bool n5, .string s5, .string d5] 39 → (w'.cell? ⟨w.heap.size, 0, none⟩ = some (.bool n0) ∧ w'.cell? ⟨w.heap.size, 1, none⟩ = some (.string s0) ∧ w'.cell? ⟨w.heap.size, 2, none⟩ = some (.string d0) ∧ w'.cell? ⟨w.heap.size, 3, none⟩ = some (.bool n1) ∧ w'.cell? ⟨w.heap.size, 4, none⟩ = some (.string s1) ∧ w'.cell? ⟨w.heap.size, 5, none⟩ = some (.string d1) ∧ w'.cell? ⟨w.heap.size + 1, 0, none⟩ = some (.bool n2) ∧ w'.cell? ⟨w.heap.size + 1, 1, none⟩ = some (.string s2) ∧ w'.cell? ⟨w.heap.size + 1, 2, none⟩ = some (.string d2) ∧ w'.cell? ⟨w.heap.size + 1, 3, none⟩ = some (.bool n3) ∧ w'.cell? ⟨w.heap.size + 1, 4, none⟩ = some (.string s3) ∧ w'.cell? ⟨w.heap.size + 1, 5, none⟩ = some (.string d3) ∧ w'.cell? ⟨w.heap.size + 1 + 1, 0, none⟩ = some (.bool n4) ∧ w'.cell? ⟨w.heap.size + 1 + 1, 1, none⟩ = some (.string s4) ∧ w'.cell? ⟨w.heap.size + 1 + 1, 2, none⟩ = some (.string d4) ∧ w'.cell? ⟨w.heap.size + 1 + 1, 3, none⟩ = some (.bool n5) ∧ w'.cell? ⟨w.heap.size + 1 + 1, 4, none⟩ = some (.string s5) ∧ w'.cell? ⟨w.heap.size + 1 + 1, 5, none⟩ = some (.string d5))) := fun w' ha hb hc => ⟨cel6_0 ha, cel6_1 ha, cel6_2 ha, cel6_3 ha, cel6_4 ha, cel6_5 ha, cel6_0 hb, cel6_1 hb, cel6_2 hb, cel6_3 hb, cel6_4 hb, cel6_5 hb, cel6_0 hc, cel6_1 hc, cel6_2 hc, cel6_3 hc, cel6_4 hc, cel6_5 hc⟩
 go_region_held3 (fun w' => w'.cell? ⟨w.heap.size, 0, none⟩ = some (.bool n0) ∧ w'.cell? ⟨w.heap.size, 1, none⟩ = some (.string s0) ∧ w'.cell? ⟨w.heap.size, 2, none⟩ = some (.string d0) ∧ w'.cell? ⟨w.heap.size, 3, none⟩ = some (.bool n1) ∧ w'.cell? ⟨w.heap.size, 4, none⟩ = some (.string s1) ∧ w'.cell? ⟨w.heap.size, 5, none⟩ = some (.string d1) ∧ w'.cell? ⟨w.heap.size + 1, 0, none⟩ = some (.bool n2) ∧ w'.cell? ⟨w.heap.size + 1, 1, none⟩ = some (.string s2) ∧ w'.cell? ⟨w.heap.size + 1, 2, none⟩ = some (.string d2) ∧ w'.cell? ⟨w.heap.size + 1, 3, none⟩ = some (.bool n3) ∧ w'.cell? ⟨w.heap.size + 1, 4, none⟩ = some (.string s3) ∧ w'.cell? ⟨w.heap.size + 1, 5, none⟩ = some (.string d3) ∧ w'.cell? ⟨w.heap.size + 1 + 1, 0, none⟩ = some (.bool n4) ∧ w'.cell? ⟨w.heap.size + 1 + 1, 1, none⟩ = some (.string s4) ∧ w'.cell? ⟨w.heap.size + 1 + 1, 2, none⟩ = some (.string d4) ∧ w'.cell? ⟨w.heap.size + 1 + 1, 3, none⟩ = some (.bool n5) ∧ w'.cell? ⟨w.heap.size + 1 + 1, 4, none⟩ = some (.string s5) ∧ w'.cell? ⟨w.heap.size + 1 + 1, 5, none⟩ = some (.string d5)) (first | with_reducible exact mkS.out _ ka kb kc | exact mkS.out _ ka kb kc) (first | (go_at_call 54; go_fit (H1.out _); rintro e wn ⟨rfl, bn⟩; replace ka := ka.below ⟨bn.os, bn.tape, bn.output, bn.size, bn.block⟩; replace kb := kb.below ⟨bn.os, bn.tape, bn.output, bn.size, bn.block⟩; replace kc := kc.below ⟨bn.os, bn.tape, bn.output, bn.size, bn.block⟩; replace bb := Below.after bb ⟨bn.os, bn.tape, bn.output, bn.size, bn.block⟩) | (go_at_call 54; go_fit (H2.out _); rintro e wn ⟨rfl, bn⟩; replace ka := ka.below ⟨bn.os, bn.tape, bn.output, bn.size, bn.block⟩; replace kb := kb.below ⟨bn.os, bn.tape, bn.output, bn.size, bn.block⟩; replace kc := kc.below ⟨bn.os, bn.tape, bn.output, bn.size, bn.block⟩; replace bb := Below.after bb ⟨bn.os, bn.tape, bn.output, bn.size, bn.block⟩) | (go_at_call 53; go_fit (H3.out _); rintro e wn ⟨rfl, bn⟩; replace ka := ka.below ⟨bn.os, bn.tape, bn.output, bn.size, bn.block⟩; replace kb := kb.below ⟨bn.os, bn.tape, bn.output, bn.size, bn.block⟩; replace kc := kc.below ⟨bn.os, bn.tape, bn.output, bn.size, bn.block⟩; replace bb := Below.after bb ⟨bn.os, bn.tape, bn.output, bn.size, bn.block⟩) | (go_at_call 15; go_fit (H4.out _); rintro e wn ⟨rfl, bn⟩; replace ka := ka.below ⟨bn.os, bn.tape, bn.output, bn.size, bn.block⟩; replace kb := kb.below ⟨bn.os, bn.tape, bn.output, bn.size, bn.block⟩; replace kc := kc.below ⟨bn.os, bn.tape, bn.output, bn.size, bn.block⟩; replace bb := Below.after bb ⟨bn.os, bn.tape, bn.output, bn.size, bn.block⟩))
 go_wp2
 go_ret
 exact ⟨rfl, bb⟩
set_option maxRecDepth 100000 in
set_option maxHeartbeats 8000000 in
theorem rdisc_walk (n0 n1 n2 n3 n4 n5 n10 n11 n12 n13 n14 : Bool) (s0 d0 s1 d1 s2 d2 s3 d3 s4 d4 s5 d5 s10 d10 s11 d11 s12 d12 s13 d13 s14 d14 : ByteArray) (G : Int) (w : World) (hG : IntKind.i64.wrap (-G) = -G)
  (H1 : Hid (∀ w1, Calls Tryz.prog 54 #[.agg #[.bool n0, .string s0, .string d0, .bool n1, .string s1, .string d1], .agg #[.bool n4, .string s4, .string d4, .bool n5, .string s5, .string d5]] w1 fun e w' => e = .returned (.agg #[.bool n10, .string s10, .string d10, .bool n11, .string s11, .string d11]) ∧ Below w1.heap.size w1 w'))
  (H2 : Hid (∀ w1, Calls Tryz.prog 54 #[.agg #[.bool n2, .string s2, .string d2, .bool n3, .string s3, .string d3], .agg #[.bool n4, .string s4, .string d4, .bool n5, .string s5, .string d5]] w1 fun e w' => e = .returned (.agg #[.bool n12, .string s12, .string d12, .bool n13, .string s13, .string d13]) ∧ Below w1.heap.size w1 w'))
  (H3 : Hid (∀ w1, Calls Tryz.prog 55 #[.agg #[.bool n10, .string s10, .string d10, .bool n11, .string s11, .string d11], .agg #[.bool n12, .string s12, .string d12, .bool n13, .string s13, .string d13]] w1 fun e w' => e = .returned (.agg #[.bool n14, .string s14, .string d14]) ∧ Below w1.heap.size w1 w'))
  (H4 : Hid (∀ w1, Calls Tryz.prog 15 #[.agg #[.bool n14, .string s14, .string d14]] w1 fun e w' => e = .returned (.int .i64 (G)) ∧ Below w1.heap.size w1 w')) :
  Calls Tryz.prog 23 #[.agg #[.bool n0, .string s0, .string d0, .bool n1, .string s1, .string d1], .agg #[.bool n2, .string s2, .string d2, .bool n3, .string s3, .string d3], .agg #[.bool n4, .string s4, .string d4, .bool n5, .string s5, .string d5]] w fun e w' => e = .returned (.int .i64 (-G)) ∧ Below w.heap.size w w' := by
 go_enter Tryz.func23, Tryz.ntmps23
 go_wp2_with fail
 obtain ⟨w0, hw, ka, kb, kc, bb⟩ := mk3 w [.bool n0, .string s0, .string d0, .bool n1, .string s1, .string d1] [.bool n2, .string s2, .string d2, .bool n3, .string s3, .string d3] [.bool n4, .string s4, .string d4, .bool n5, .string s5, .string d5] 39 39 39
 rw [← hw]
 clear hw
 have mkS : Hid (∀ w', Cel w' (w.heap.size) [.bool n0, .string s0, .string d0, .bool n1, .string s1, .string d1] 39 → Cel w' (w.heap.size + 1) [.bool n2, .string s2, .string d2, .bool n3, .string s3, .string d3] 39 → Cel w' (w.heap.size + 1 + 1) [.bool n4, .string s4, .string d4, .bool n5, .string s5, .string d5] 39 → (w'.cell? ⟨w.heap.size, 0, none⟩ = some (.bool n0) ∧ w'.cell? ⟨w.heap.size, 1, none⟩ = some (.string s0) ∧ w'.cell? ⟨w.heap.size, 2, none⟩ = some (.string d0) ∧ w'.cell? ⟨w.heap.size, 3, none⟩ = some (.bool n1) ∧ w'.cell? ⟨w.heap.size, 4, none⟩ = some (.string s1) ∧ w'.cell? ⟨w.heap.size, 5, none⟩ = some (.string d1) ∧ w'.cell? ⟨w.heap.size + 1, 0, none⟩ = some (.bool n2) ∧ w'.cell? ⟨w.heap.size + 1, 1, none⟩ = some (.string s2) ∧ w'.cell? ⟨w.heap.size + 1, 2, none⟩ = some (.string d2) ∧ w'.cell? ⟨w.heap.size + 1, 3, none⟩ = some (.bool n3) ∧ w'.cell? ⟨w.heap.size + 1, 4, none⟩ = some (.string s3) ∧ w'.cell? ⟨w.heap.size + 1, 5, none⟩ = some (.string d3) ∧ w'.cell? ⟨w.heap.size + 1 + 1, 0, none⟩ = some (.bool n4) ∧ w'.cell? ⟨w.heap.size + 1 + 1, 1, none⟩ = some (.string s4) ∧ w'.cell? ⟨w.heap.size + 1 + 1, 2, none⟩ = some (.string d4) ∧ w'.cell? ⟨w.heap.size + 1 + 1, 3, none⟩ = some (.bool n5) ∧ w'.cell? ⟨w.heap.size + 1 + 1, 4, none⟩ = some (.string s5) ∧ w'.cell? ⟨w.heap.size + 1 + 1, 5, none⟩ = some (.string d5))) := fun w' ha hb hc => ⟨cel6_0 ha, cel6_1 ha, cel6_2 ha, cel6_3 ha, cel6_4 ha, cel6_5 ha, cel6_0 hb, cel6_1 hb, cel6_2 hb, cel6_3 hb, cel6_4 hb, cel6_5 hb, cel6_0 hc, cel6_1 hc, cel6_2 hc, cel6_3 hc, cel6_4 hc, cel6_5 hc⟩
 go_region_held3 (fun w' => w'.cell? ⟨w.heap.size, 0, none⟩ = some (.bool n0) ∧ w'.cell? ⟨w.heap.size, 1, none⟩ = some (.string s0) ∧ w'.cell? ⟨w.heap.size, 2, none⟩ = some (.string d0) ∧ w'.cell? ⟨w.heap.size, 3, none⟩ = some (.bool n1) ∧ w'.cell? ⟨w.heap.size, 4, none⟩ = some (.string s1) ∧ w'.cell? ⟨w.heap.size, 5, none⟩ = some (.string d1) ∧ w'.cell? ⟨w.heap.size + 1, 0, none⟩ = some (.bool n2) ∧ w'.cell? ⟨w.heap.size + 1, 1, none⟩ = some (.string s2) ∧ w'.cell? ⟨w.heap.size + 1, 2, none⟩ = some (.string d2) ∧ w'.cell? ⟨w.heap.size + 1, 3, none⟩ = some (.bool n3) ∧ w'.cell? ⟨w.heap.size + 1, 4, none⟩ = some (.string s3) ∧ w'.cell? ⟨w.heap.size + 1, 5, none⟩ = some (.string d3) ∧ w'.cell? ⟨w.heap.size + 1 + 1, 0, none⟩ = some (.bool n4) ∧ w'.cell? ⟨w.heap.size + 1 + 1, 1, none⟩ = some (.string s4) ∧ w'.cell? ⟨w.heap.size + 1 + 1, 2, none⟩ = some (.string d4) ∧ w'.cell? ⟨w.heap.size + 1 + 1, 3, none⟩ = some (.bool n5) ∧ w'.cell? ⟨w.heap.size + 1 + 1, 4, none⟩ = some (.string s5) ∧ w'.cell? ⟨w.heap.size + 1 + 1, 5, none⟩ = some (.string d5)) (first | with_reducible exact mkS.out _ ka kb kc | exact mkS.out _ ka kb kc) (first | (go_at_call 54; go_fit (H1.out _); rintro e wn ⟨rfl, bn⟩; replace ka := ka.below ⟨bn.os, bn.tape, bn.output, bn.size, bn.block⟩; replace kb := kb.below ⟨bn.os, bn.tape, bn.output, bn.size, bn.block⟩; replace kc := kc.below ⟨bn.os, bn.tape, bn.output, bn.size, bn.block⟩; replace bb := Below.after bb ⟨bn.os, bn.tape, bn.output, bn.size, bn.block⟩) | (go_at_call 54; go_fit (H2.out _); rintro e wn ⟨rfl, bn⟩; replace ka := ka.below ⟨bn.os, bn.tape, bn.output, bn.size, bn.block⟩; replace kb := kb.below ⟨bn.os, bn.tape, bn.output, bn.size, bn.block⟩; replace kc := kc.below ⟨bn.os, bn.tape, bn.output, bn.size, bn.block⟩; replace bb := Below.after bb ⟨bn.os, bn.tape, bn.output, bn.size, bn.block⟩) | (go_at_call 55; go_fit (H3.out _); rintro e wn ⟨rfl, bn⟩; replace ka := ka.below ⟨bn.os, bn.tape, bn.output, bn.size, bn.block⟩; replace kb := kb.below ⟨bn.os, bn.tape, bn.output, bn.size, bn.block⟩; replace kc := kc.below ⟨bn.os, bn.tape, bn.output, bn.size, bn.block⟩; replace bb := Below.after bb ⟨bn.os, bn.tape, bn.output, bn.size, bn.block⟩) | (go_at_call 15; go_fit (H4.out _); rintro e wn ⟨rfl, bn⟩; replace ka := ka.below ⟨bn.os, bn.tape, bn.output, bn.size, bn.block⟩; replace kb := kb.below ⟨bn.os, bn.tape, bn.output, bn.size, bn.block⟩; replace kc := kc.below ⟨bn.os, bn.tape, bn.output, bn.size, bn.block⟩; replace bb := Below.after bb ⟨bn.os, bn.tape, bn.output, bn.size, bn.block⟩))
 go_wp2
 go_ret
 exact ⟨rfl, bb⟩
end Go.Proofs.YtgihiaaodkkkbaaGreatDoor
namespace Go.Proofs.YtgihiaaodkkkbaaGreatDoor
open Go.RowKit

set_option maxRecDepth 100000 in
set_option maxHeartbeats 16000000 in
theorem rcircle_walk (n0 n1 n2 n3 n4 n5 n6 n7 n10 n11 n12 n13 n14 n15 n16 n17 n18 n19 n20 n21 n22 n23 n24 n25 n26 : Bool) (s0 d0 s1 d1 s2 d2 s3 d3 s4 d4 s5 d5 s6 d6 s7 d7 s10 d10 s11 d11 s12 d12 s13 d13 s14 d14 s15 d15 s16 d16 s17 d17 s18 d18 s19 d19 s20 d20 s21 d21 s22 d22 s23 d23 s24 d24 s25 d25 s26 d26 : ByteArray) (G O : Int) (w : World) (hG : IntKind.i64.wrap (G * O) = G * O)
  (H1 : Hid (∀ w1, Calls Tryz.prog 54 #[.agg #[.bool n0, .string s0, .string d0, .bool n1, .string s1, .string d1], .agg #[.bool n6, .string s6, .string d6, .bool n7, .string s7, .string d7]] w1 fun e w' => e = .returned (.agg #[.bool n10, .string s10, .string d10, .bool n11, .string s11, .string d11]) ∧ Below w1.heap.size w1 w'))
  (H2 : Hid (∀ w1, Calls Tryz.prog 54 #[.agg #[.bool n2, .string s2, .string d2, .bool n3, .string s3, .string d3], .agg #[.bool n6, .string s6, .string d6, .bool n7, .string s7, .string d7]] w1 fun e w' => e = .returned (.agg #[.bool n12, .string s12, .string d12, .bool n13, .string s13, .string d13]) ∧ Below w1.heap.size w1 w'))
  (H3 : Hid (∀ w1, Calls Tryz.prog 54 #[.agg #[.bool n4, .string s4, .string d4, .bool n5, .string s5, .string d5], .agg #[.bool n6, .string s6, .string d6, .bool n7, .string s7, .string d7]] w1 fun e w' => e = .returned (.agg #[.bool n14, .string s14, .string d14, .bool n15, .string s15, .string d15]) ∧ Below w1.heap.size w1 w'))
  (H4 : Hid (∀ w1, Calls Tryz.prog 57 #[.agg #[.bool n10, .string s10, .string d10, .bool n11, .string s11, .string d11]] w1 fun e w' => e = .returned (.agg #[.bool n16, .string s16, .string d16]) ∧ Below w1.heap.size w1 w'))
  (H5 : Hid (∀ w1, Calls Tryz.prog 53 #[.agg #[.bool n12, .string s12, .string d12, .bool n13, .string s13, .string d13], .agg #[.bool n14, .string s14, .string d14, .bool n15, .string s15, .string d15]] w1 fun e w' => e = .returned (.agg #[.bool n17, .string s17, .string d17]) ∧ Below w1.heap.size w1 w'))
  (H6 : Hid (∀ w1, Calls Tryz.prog 56 #[.agg #[.bool n16, .string s16, .string d16], .agg #[.bool n17, .string s17, .string d17]] w1 fun e w' => e = .returned (.agg #[.bool n18, .string s18, .string d18]) ∧ Below w1.heap.size w1 w'))
  (H7 : Hid (∀ w1, Calls Tryz.prog 57 #[.agg #[.bool n12, .string s12, .string d12, .bool n13, .string s13, .string d13]] w1 fun e w' => e = .returned (.agg #[.bool n19, .string s19, .string d19]) ∧ Below w1.heap.size w1 w'))
  (H8 : Hid (∀ w1, Calls Tryz.prog 53 #[.agg #[.bool n14, .string s14, .string d14, .bool n15, .string s15, .string d15], .agg #[.bool n10, .string s10, .string d10, .bool n11, .string s11, .string d11]] w1 fun e w' => e = .returned (.agg #[.bool n20, .string s20, .string d20]) ∧ Below w1.heap.size w1 w'))
  (H9 : Hid (∀ w1, Calls Tryz.prog 56 #[.agg #[.bool n19, .string s19, .string d19], .agg #[.bool n20, .string s20, .string d20]] w1 fun e w' => e = .returned (.agg #[.bool n21, .string s21, .string d21]) ∧ Below w1.heap.size w1 w'))
  (H10 : Hid (∀ w1, Calls Tryz.prog 57 #[.agg #[.bool n14, .string s14, .string d14, .bool n15, .string s15, .string d15]] w1 fun e w' => e = .returned (.agg #[.bool n22, .string s22, .string d22]) ∧ Below w1.heap.size w1 w'))
  (H11 : Hid (∀ w1, Calls Tryz.prog 53 #[.agg #[.bool n10, .string s10, .string d10, .bool n11, .string s11, .string d11], .agg #[.bool n12, .string s12, .string d12, .bool n13, .string s13, .string d13]] w1 fun e w' => e = .returned (.agg #[.bool n23, .string s23, .string d23]) ∧ Below w1.heap.size w1 w'))
  (H12 : Hid (∀ w1, Calls Tryz.prog 56 #[.agg #[.bool n22, .string s22, .string d22], .agg #[.bool n23, .string s23, .string d23]] w1 fun e w' => e = .returned (.agg #[.bool n24, .string s24, .string d24]) ∧ Below w1.heap.size w1 w'))
  (H13 : Hid (∀ w1, Calls Tryz.prog 58 #[.agg #[.bool n18, .string s18, .string d18], .agg #[.bool n21, .string s21, .string d21]] w1 fun e w' => e = .returned (.agg #[.bool n25, .string s25, .string d25]) ∧ Below w1.heap.size w1 w'))
  (H14 : Hid (∀ w1, Calls Tryz.prog 58 #[.agg #[.bool n25, .string s25, .string d25], .agg #[.bool n24, .string s24, .string d24]] w1 fun e w' => e = .returned (.agg #[.bool n26, .string s26, .string d26]) ∧ Below w1.heap.size w1 w'))
  (H15 : Hid (∀ w1, Calls Tryz.prog 15 #[.agg #[.bool n26, .string s26, .string d26]] w1 fun e w' => e = .returned (.int .i64 (G)) ∧ Below w1.heap.size w1 w'))
  (H16 : Hid (∀ w1, Calls Tryz.prog 22 #[.agg #[.bool n0, .string s0, .string d0, .bool n1, .string s1, .string d1], .agg #[.bool n2, .string s2, .string d2, .bool n3, .string s3, .string d3], .agg #[.bool n4, .string s4, .string d4, .bool n5, .string s5, .string d5]] w1 fun e w' => e = .returned (.int .i64 (O)) ∧ Below w1.heap.size w1 w')) :
  Calls Tryz.prog 24 #[.agg #[.bool n0, .string s0, .string d0, .bool n1, .string s1, .string d1], .agg #[.bool n2, .string s2, .string d2, .bool n3, .string s3, .string d3], .agg #[.bool n4, .string s4, .string d4, .bool n5, .string s5, .string d5], .agg #[.bool n6, .string s6, .string d6, .bool n7, .string s7, .string d7]] w fun e w' => e = .returned (.int .i64 (G * O)) ∧ Below w.heap.size w w' := by
 go_enter Tryz.func24, Tryz.ntmps24
 go_wp2_with fail
 go_fit (H1.out _)
 rintro e w1 ⟨rfl, b1⟩
 obtain ⟨ka, kb, kc, kd, b1⟩ := al4 b1
 have sz := b1.size
 have bb := b1
 clear b1
 have ta := ka.lt
 have tb := kb.lt
 have tc := kc.lt
 have td := kd.lt
 have cb_0 := cel6_0 (kb.alloc (.cells #[.bool n10, .string s10, .string d10, .bool n11, .string s11, .string d11] 39))
 have cb_1 := cel6_1 (kb.alloc (.cells #[.bool n10, .string s10, .string d10, .bool n11, .string s11, .string d11] 39))
 have cb_2 := cel6_2 (kb.alloc (.cells #[.bool n10, .string s10, .string d10, .bool n11, .string s11, .string d11] 39))
 have cb_3 := cel6_3 (kb.alloc (.cells #[.bool n10, .string s10, .string d10, .bool n11, .string s11, .string d11] 39))
 have cb_4 := cel6_4 (kb.alloc (.cells #[.bool n10, .string s10, .string d10, .bool n11, .string s11, .string d11] 39))
 have cb_5 := cel6_5 (kb.alloc (.cells #[.bool n10, .string s10, .string d10, .bool n11, .string s11, .string d11] 39))
 have cd_6 := cel6_0 (kd.alloc (.cells #[.bool n10, .string s10, .string d10, .bool n11, .string s11, .string d11] 39))
 have cd_7 := cel6_1 (kd.alloc (.cells #[.bool n10, .string s10, .string d10, .bool n11, .string s11, .string d11] 39))
 have cd_8 := cel6_2 (kd.alloc (.cells #[.bool n10, .string s10, .string d10, .bool n11, .string s11, .string d11] 39))
 have cd_9 := cel6_3 (kd.alloc (.cells #[.bool n10, .string s10, .string d10, .bool n11, .string s11, .string d11] 39))
 have cd_10 := cel6_4 (kd.alloc (.cells #[.bool n10, .string s10, .string d10, .bool n11, .string s11, .string d11] 39))
 have cd_11 := cel6_5 (kd.alloc (.cells #[.bool n10, .string s10, .string d10, .bool n11, .string s11, .string d11] 39))
 go_wp2_with fail
 clear cb_0 cb_1 cb_2 cb_3 cb_4 cb_5 cd_6 cd_7 cd_8 cd_9 cd_10 cd_11
 go_fit (H2.out _)
 rintro e w2 ⟨rfl, b1⟩
 obtain ⟨ku, b1⟩ := al1 b1
 have sz := b1.size
 replace ka := ka.below b1
 replace kb := kb.below b1
 replace kc := kc.below b1
 replace kd := kd.below b1
 replace bb := Below.after bb b1
 clear b1
 have tu := ku.lt
 have cc_0 := cel6_0 (kc.alloc (.cells #[.bool n12, .string s12, .string d12, .bool n13, .string s13, .string d13] 39))
 have cc_1 := cel6_1 (kc.alloc (.cells #[.bool n12, .string s12, .string d12, .bool n13, .string s13, .string d13] 39))
 have cc_2 := cel6_2 (kc.alloc (.cells #[.bool n12, .string s12, .string d12, .bool n13, .string s13, .string d13] 39))
 have cc_3 := cel6_3 (kc.alloc (.cells #[.bool n12, .string s12, .string d12, .bool n13, .string s13, .string d13] 39))
 have cc_4 := cel6_4 (kc.alloc (.cells #[.bool n12, .string s12, .string d12, .bool n13, .string s13, .string d13] 39))
 have cc_5 := cel6_5 (kc.alloc (.cells #[.bool n12, .string s12, .string d12, .bool n13, .string s13, .string d13] 39))
 have cd_6 := cel6_0 (kd.alloc (.cells #[.bool n12, .string s12, .string d12, .bool n13, .string s13, .string d13] 39))
 have cd_7 := cel6_1 (kd.alloc (.cells #[.bool n12, .string s12, .string d12, .bool n13, .string s13, .string d13] 39))
 have cd_8 := cel6_2 (kd.alloc (.cells #[.bool n12, .string s12, .string d12, .bool n13, .string s13, .string d13] 39))
 have cd_9 := cel6_3 (kd.alloc (.cells #[.bool n12, .string s12, .string d12, .bool n13, .string s13, .string d13] 39))
 have cd_10 := cel6_4 (kd.alloc (.cells #[.bool n12, .string s12, .string d12, .bool n13, .string s13, .string d13] 39))
 have cd_11 := cel6_5 (kd.alloc (.cells #[.bool n12, .string s12, .string d12, .bool n13, .string s13, .string d13] 39))
 go_wp2_with fail
 clear cc_0 cc_1 cc_2 cc_3 cc_4 cc_5 cd_6 cd_7 cd_8 cd_9 cd_10 cd_11
 go_fit (H3.out _)
 rintro e w3 ⟨rfl, b1⟩
 obtain ⟨kv, b1⟩ := al1 b1
 have sz := b1.size
 replace ka := ka.below b1
 replace kb := kb.below b1
 replace kc := kc.below b1
 replace kd := kd.below b1
 replace ku := ku.below b1
 replace bb := Below.after bb b1
 clear b1
 have tv := kv.lt
 go_wp2_with fail
 obtain ⟨w4, hw, kt, b1⟩ := mk1 w3 [.bool n14, .string s14, .string d14, .bool n15, .string s15, .string d15] 39
 rw [← hw]
 clear hw
 have sz := b1.size
 have tt := kt.lt
 replace ka := ka.below b1
 replace kb := kb.below b1
 replace kc := kc.below b1
 replace kd := kd.below b1
 replace ku := ku.below b1
 replace kv := kv.below b1
 replace bb := Below.after bb b1
 clear b1
 have mkS : ∀ w', Below w4.heap.size w4 w' → (Below w4.heap.size w4 w' ∧ w'.cell? ⟨w1.heap.size, 0, none⟩ = some (.bool n10) ∧ w'.cell? ⟨w1.heap.size, 1, none⟩ = some (.string s10) ∧ w'.cell? ⟨w1.heap.size, 2, none⟩ = some (.string d10) ∧ w'.cell? ⟨w1.heap.size, 3, none⟩ = some (.bool n11) ∧ w'.cell? ⟨w1.heap.size, 4, none⟩ = some (.string s11) ∧ w'.cell? ⟨w1.heap.size, 5, none⟩ = some (.string d11) ∧ w'.cell? ⟨w2.heap.size, 0, none⟩ = some (.bool n12) ∧ w'.cell? ⟨w2.heap.size, 1, none⟩ = some (.string s12) ∧ w'.cell? ⟨w2.heap.size, 2, none⟩ = some (.string d12) ∧ w'.cell? ⟨w2.heap.size, 3, none⟩ = some (.bool n13) ∧ w'.cell? ⟨w2.heap.size, 4, none⟩ = some (.string s13) ∧ w'.cell? ⟨w2.heap.size, 5, none⟩ = some (.string d13) ∧ w'.cell? ⟨w3.heap.size, 0, none⟩ = some (.bool n14) ∧ w'.cell? ⟨w3.heap.size, 1, none⟩ = some (.string s14) ∧ w'.cell? ⟨w3.heap.size, 2, none⟩ = some (.string d14) ∧ w'.cell? ⟨w3.heap.size, 3, none⟩ = some (.bool n15) ∧ w'.cell? ⟨w3.heap.size, 4, none⟩ = some (.string s15) ∧ w'.cell? ⟨w3.heap.size, 5, none⟩ = some (.string d15)) := fun w' h => ⟨h, cel6_0 (ku.below h), cel6_1 (ku.below h), cel6_2 (ku.below h), cel6_3 (ku.below h), cel6_4 (ku.below h), cel6_5 (ku.below h), cel6_0 (kv.below h), cel6_1 (kv.below h), cel6_2 (kv.below h), cel6_3 (kv.below h), cel6_4 (kv.below h), cel6_5 (kv.below h), cel6_0 (kt.below h), cel6_1 (kt.below h), cel6_2 (kt.below h), cel6_3 (kt.below h), cel6_4 (kt.below h), cel6_5 (kt.below h)⟩
 have bcS : ∀ w', (Below w4.heap.size w4 w' ∧ w'.cell? ⟨w1.heap.size, 0, none⟩ = some (.bool n10) ∧ w'.cell? ⟨w1.heap.size, 1, none⟩ = some (.string s10) ∧ w'.cell? ⟨w1.heap.size, 2, none⟩ = some (.string d10) ∧ w'.cell? ⟨w1.heap.size, 3, none⟩ = some (.bool n11) ∧ w'.cell? ⟨w1.heap.size, 4, none⟩ = some (.string s11) ∧ w'.cell? ⟨w1.heap.size, 5, none⟩ = some (.string d11) ∧ w'.cell? ⟨w2.heap.size, 0, none⟩ = some (.bool n12) ∧ w'.cell? ⟨w2.heap.size, 1, none⟩ = some (.string s12) ∧ w'.cell? ⟨w2.heap.size, 2, none⟩ = some (.string d12) ∧ w'.cell? ⟨w2.heap.size, 3, none⟩ = some (.bool n13) ∧ w'.cell? ⟨w2.heap.size, 4, none⟩ = some (.string s13) ∧ w'.cell? ⟨w2.heap.size, 5, none⟩ = some (.string d13) ∧ w'.cell? ⟨w3.heap.size, 0, none⟩ = some (.bool n14) ∧ w'.cell? ⟨w3.heap.size, 1, none⟩ = some (.string s14) ∧ w'.cell? ⟨w3.heap.size, 2, none⟩ = some (.string d14) ∧ w'.cell? ⟨w3.heap.size, 3, none⟩ = some (.bool n15) ∧ w'.cell? ⟨w3.heap.size, 4, none⟩ = some (.string s15) ∧ w'.cell? ⟨w3.heap.size, 5, none⟩ = some (.string d15)) → Below w4.heap.size w4 w' := fun w' h => h.1
 replace mkS := shut mkS
 replace bcS := shut bcS
 go_cut [12] from 24 to 29 (fun v wx => ∃ gc, v = .pointer (some ⟨gc, 0, none⟩) ∧ w4.heap.size ≤ gc ∧ Cel wx gc [.bool n18, .string s18, .string d18] 32 ∧ Below w4.heap.size w4 wx)
 case first =>
  clear H1 H2 H3 H7 H8 H9 H10 H11 H12 H13 H14 H15 H16
  refine wp_region_held_drew (S := (fun w' => Below w4.heap.size w4 w' ∧ w'.cell? ⟨w1.heap.size, 0, none⟩ = some (.bool n10) ∧ w'.cell? ⟨w1.heap.size, 1, none⟩ = some (.string s10) ∧ w'.cell? ⟨w1.heap.size, 2, none⟩ = some (.string d10) ∧ w'.cell? ⟨w1.heap.size, 3, none⟩ = some (.bool n11) ∧ w'.cell? ⟨w1.heap.size, 4, none⟩ = some (.string s11) ∧ w'.cell? ⟨w1.heap.size, 5, none⟩ = some (.string d11) ∧ w'.cell? ⟨w2.heap.size, 0, none⟩ = some (.bool n12) ∧ w'.cell? ⟨w2.heap.size, 1, none⟩ = some (.string s12) ∧ w'.cell? ⟨w2.heap.size, 2, none⟩ = some (.string d12) ∧ w'.cell? ⟨w2.heap.size, 3, none⟩ = some (.bool n13) ∧ w'.cell? ⟨w2.heap.size, 4, none⟩ = some (.string s13) ∧ w'.cell? ⟨w2.heap.size, 5, none⟩ = some (.string d13) ∧ w'.cell? ⟨w3.heap.size, 0, none⟩ = some (.bool n14) ∧ w'.cell? ⟨w3.heap.size, 1, none⟩ = some (.string s14) ∧ w'.cell? ⟨w3.heap.size, 2, none⟩ = some (.string d14) ∧ w'.cell? ⟨w3.heap.size, 3, none⟩ = some (.bool n15) ∧ w'.cell? ⟨w3.heap.size, 4, none⟩ = some (.string s15) ∧ w'.cell? ⟨w3.heap.size, 5, none⟩ = some (.string d15))) (by kernel_rfl) (mkS.out _ (bdrew _)) (fun _ => ?_)
  refine absO 8 (by kernel_rfl) (fun ops q SP hops hq hSP => ?_)
  obtain ⟨fr, hfr⟩ : ∃ fr : Value → Value → Value → Value → Act, fr = (fun x12 x25 x28 x29 => { tmps := #[.agg #[.bool n0, .string s0, .string d0, .bool n1, .string s1, .string d1], .agg #[.bool n2, .string s2, .string d2, .bool n3, .string s3, .string d3], .agg #[.bool n4, .string s4, .string d4, .bool n5, .string s5, .string d5], .agg #[.bool n6, .string s6, .string d6, .bool n7, .string s7, .string d7], .pointer (some ⟨w.heap.size, 0, none⟩), .pointer (some ⟨w.heap.size + 1, 0, none⟩), .pointer (some ⟨w.heap.size + 1 + 1, 0, none⟩), .pointer (some ⟨w.heap.size + 1 + 1 + 1, 0, none⟩), .int .i64 0, .pointer (some ⟨w1.heap.size, 0, none⟩), .pointer (some ⟨w2.heap.size, 0, none⟩), .pointer (some ⟨w3.heap.size, 0, none⟩), x12, undef, undef, .agg #[.bool n0, .string s0, .string d0, .bool n1, .string s1, .string d1], .agg #[.bool n6, .string s6, .string d6, .bool n7, .string s7, .string d7], .agg #[.bool n10, .string s10, .string d10, .bool n11, .string s11, .string d11], .agg #[.bool n2, .string s2, .string d2, .bool n3, .string s3, .string d3], .agg #[.bool n6, .string s6, .string d6, .bool n7, .string s7, .string d7], .agg #[.bool n12, .string s12, .string d12, .bool n13, .string s13, .string d13], .agg #[.bool n4, .string s4, .string d4, .bool n5, .string s5, .string d5], .agg #[.bool n6, .string s6, .string d6, .bool n7, .string s7, .string d7], .agg #[.bool n14, .string s14, .string d14, .bool n15, .string s15, .string d15], .agg #[.bool n10, .string s10, .string d10, .bool n11, .string s11, .string d11], x25, .agg #[.bool n12, .string s12, .string d12, .bool n13, .string s13, .string d13], .agg #[.bool n14, .string s14, .string d14, .bool n15, .string s15, .string d15], x28, x29, undef, undef, undef, undef, undef, undef, undef, undef, undef, undef, undef, undef, undef, undef, undef, undef, undef, undef, undef, undef, undef, undef, undef], defers := [] }) := ⟨_, rfl⟩
  have L3_0 : Hid (∀ (g0 : Nat) (w' : World) (hS : SP w') (k0 : Cel w' g0 [.bool false, .string { data := #[] }, .string { data := #[] }] 32) (h0 : w4.heap.size ≤ g0), wpAnyH Tryz.prog .any ops q SP 1 (ls 8 [0, 1, 2, 3, 4, 5, 6]) (fr (.pointer (some ⟨g0, 0, none⟩)) (.agg #[.bool n16, .string s16, .string d16]) (.agg #[.bool n17, .string s17, .string d17]) (.agg #[.bool n18, .string s18, .string d18])) w') := by
   subst hops hq hSP hfr
   intro g0 w' hS k0 h0
   have bc := bcS.out _ hS
   dsimp only
   have e0_0 := cel3_0 k0
   have f0_0 := Cel.frozen k0 0
   have e0_1 := cel3_1 k0
   have f0_1 := Cel.frozen k0 1
   have e0_2 := cel3_2 k0
   have f0_2 := Cel.frozen k0 2
   refine rdy [7] (by kernel_rfl) ?_
   refine AllReadyH.cons (o := _) rfl (fun K hK => ?_) AllReadyH.nil
   simp only [List.getElem_toArray, List.getElem_cons_succ, List.getElem_cons_zero]
   go_simp
   try go_wp2_with fail
   clear e0_0 f0_0 e0_1 f0_1 e0_2 f0_2
   refine hK.out _ _ (mkS.out _ (bset (bset (bset bc h0 0 (.bool n18)) h0 1 (.string s18)) h0 2 (.string d18))) (fun hS => ?_)
   clear hK K
   replace k0 := (Cel.set (Cel.set (Cel.set k0 0 (.bool n18)) 1 (.string s18)) 2 (.string d18))
   replace bc := (bset (bset (bset bc h0 0 (.bool n18)) h0 1 (.string s18)) h0 2 (.string d18))
   refine wpAnyH_done (by kernel_rfl) ?_ _
   go_wp2_with fail
   go_meet
   exact ⟨_, rfl, h0, k0, bc⟩
  have L3_ : Hid (∀ (w' : World) (hS : SP w'), wpAnyH Tryz.prog .any ops q SP 2 (ls 8 [0, 1, 2, 3, 4, 5]) (fr undef (.agg #[.bool n16, .string s16, .string d16]) (.agg #[.bool n17, .string s17, .string d17]) (.agg #[.bool n18, .string s18, .string d18])) w') := by
   subst hops hq hSP hfr
   intro w' hS
   have bc := bcS.out _ hS
   dsimp only
   refine rdy [6] (by kernel_rfl) ?_
   refine AllReadyH.cons (o := _) rfl (fun K hK => ?_) AllReadyH.nil
   ·simp only [List.getElem_toArray, List.getElem_cons_succ, List.getElem_cons_zero]
    go_simp
    try go_wp2_with fail
    refine hK.out _ _ (mkS.out _ (ba bc _)) (fun hS => ?_)
    clear hK K
    exact lst (L3_0.out _ _ hS (Cel.new w' _ _) bc.size) (by kernel_rfl)
  have L2_0 : Hid (∀ (g0 : Nat) (w' : World) (hS : SP w') (k0 : Cel w' g0 [.bool false, .string { data := #[] }, .string { data := #[] }] 32) (h0 : w4.heap.size ≤ g0), wpAnyH Tryz.prog .any ops q SP 2 (ls 8 [0, 1, 2, 3, 4, 6]) (fr (.pointer (some ⟨g0, 0, none⟩)) (.agg #[.bool n16, .string s16, .string d16]) (.agg #[.bool n17, .string s17, .string d17]) undef) w') := by
   clear L3_
   subst hops hq hSP hfr
   intro g0 w' hS k0 h0
   have bc := bcS.out _ hS
   dsimp only
   refine rdy [5] (by kernel_rfl) ?_
   refine AllReadyH.cons (o := _) rfl (fun K hK => ?_) AllReadyH.nil
   ·simp only [List.getElem_toArray, List.getElem_cons_succ, List.getElem_cons_zero]
    go_simp
    go_fit (H6.out _)
    rintro e wn ⟨rfl, bn⟩
    have bcn := Below.after bc bn
    try go_wp2_with fail
    refine hK.out _ _ (mkS.out _ bcn) (fun hS => ?_)
    clear hK K
    exact lst (L3_0.out g0 wn hS (k0.below bn) h0) (by kernel_rfl)
  have L2_ : Hid (∀ (w' : World) (hS : SP w'), wpAnyH Tryz.prog .any ops q SP 3 (ls 8 [0, 1, 2, 3, 4]) (fr undef (.agg #[.bool n16, .string s16, .string d16]) (.agg #[.bool n17, .string s17, .string d17]) undef) w') := by
   clear L3_0
   subst hops hq hSP hfr
   intro w' hS
   have bc := bcS.out _ hS
   dsimp only
   refine rdy [5, 6] (by kernel_rfl) ?_
   refine AllReadyH.cons (o := _) rfl (fun K hK => ?_) (AllReadyH.cons (o := _) rfl (fun K hK => ?_) AllReadyH.nil)
   ·simp only [List.getElem_toArray, List.getElem_cons_succ, List.getElem_cons_zero]
    go_simp
    go_fit (H6.out _)
    rintro e wn ⟨rfl, bn⟩
    have bcn := Below.after bc bn
    try go_wp2_with fail
    refine hK.out _ _ (mkS.out _ bcn) (fun hS => ?_)
    clear hK K
    exact lst (L3_.out wn hS) (by kernel_rfl)
   ·simp only [List.getElem_toArray, List.getElem_cons_succ, List.getElem_cons_zero]
    go_simp
    try go_wp2_with fail
    refine hK.out _ _ (mkS.out _ (ba bc _)) (fun hS => ?_)
    clear hK K
    exact lst (L2_0.out _ _ hS (Cel.new w' _ _) bc.size) (by kernel_rfl)
  have L1_0 : Hid (∀ (g0 : Nat) (w' : World) (hS : SP w') (k0 : Cel w' g0 [.bool false, .string { data := #[] }, .string { data := #[] }] 32) (h0 : w4.heap.size ≤ g0), wpAnyH Tryz.prog .any ops q SP 3 (ls 8 [0, 1, 2, 3, 6]) (fr (.pointer (some ⟨g0, 0, none⟩)) (.agg #[.bool n16, .string s16, .string d16]) undef undef) w') := by
   clear L3_0 L3_ L2_
   subst hops hq hSP hfr
   intro g0 w' hS k0 h0
   have bc := bcS.out _ hS
   dsimp only
   refine rdy [4] (by kernel_rfl) ?_
   refine AllReadyH.cons (o := _) rfl (fun K hK => ?_) AllReadyH.nil
   ·simp only [List.getElem_toArray, List.getElem_cons_succ, List.getElem_cons_zero]
    go_simp
    go_fit (H5.out _)
    rintro e wn ⟨rfl, bn⟩
    have bcn := Below.after bc bn
    try go_wp2_with fail
    refine hK.out _ _ (mkS.out _ bcn) (fun hS => ?_)
    clear hK K
    exact lst (L2_0.out g0 wn hS (k0.below bn) h0) (by kernel_rfl)
  have L1_ : Hid (∀ (w' : World) (hS : SP w'), wpAnyH Tryz.prog .any ops q SP 4 (ls 8 [0, 1, 2, 3]) (fr undef (.agg #[.bool n16, .string s16, .string d16]) undef undef) w') := by
   clear L3_0 L3_ L2_0
   subst hops hq hSP hfr
   intro w' hS
   have bc := bcS.out _ hS
   dsimp only
   refine rdy [4, 6] (by kernel_rfl) ?_
   refine AllReadyH.cons (o := _) rfl (fun K hK => ?_) (AllReadyH.cons (o := _) rfl (fun K hK => ?_) AllReadyH.nil)
   ·simp only [List.getElem_toArray, List.getElem_cons_succ, List.getElem_cons_zero]
    go_simp
    go_fit (H5.out _)
    rintro e wn ⟨rfl, bn⟩
    have bcn := Below.after bc bn
    try go_wp2_with fail
    refine hK.out _ _ (mkS.out _ bcn) (fun hS => ?_)
    clear hK K
    exact lst (L2_.out wn hS) (by kernel_rfl)
   ·simp only [List.getElem_toArray, List.getElem_cons_succ, List.getElem_cons_zero]
    go_simp
    try go_wp2_with fail
    refine hK.out _ _ (mkS.out _ (ba bc _)) (fun hS => ?_)
    clear hK K
    exact lst (L1_0.out _ _ hS (Cel.new w' _ _) bc.size) (by kernel_rfl)
  have L0_0 : Hid (∀ (g0 : Nat) (w' : World) (hS : SP w') (k0 : Cel w' g0 [.bool false, .string { data := #[] }, .string { data := #[] }] 32) (h0 : w4.heap.size ≤ g0), wpAnyH Tryz.prog .any ops q SP 4 (ls 8 [0, 2, 3, 6]) (fr (.pointer (some ⟨g0, 0, none⟩)) undef undef undef) w') := by
   clear L3_0 L3_ L2_0 L2_ L1_
   subst hops hq hSP hfr
   intro g0 w' hS k0 h0
   have bc := bcS.out _ hS
   dsimp only
   refine rdy [1] (by kernel_rfl) ?_
   refine AllReadyH.cons (o := _) rfl (fun K hK => ?_) AllReadyH.nil
   ·simp only [List.getElem_toArray, List.getElem_cons_succ, List.getElem_cons_zero]
    go_simp
    go_fit (H4.out _)
    rintro e wn ⟨rfl, bn⟩
    have bcn := Below.after bc bn
    try go_wp2_with fail
    refine hK.out _ _ (mkS.out _ bcn) (fun hS => ?_)
    clear hK K
    exact lst (L1_0.out g0 wn hS (k0.below bn) h0) (by kernel_rfl)
  have L0_ : Hid (∀ (w' : World) (hS : SP w'), wpAnyH Tryz.prog .any ops q SP 5 (ls 8 [0, 2, 3]) (fr undef undef undef undef) w') := by
   clear L3_0 L3_ L2_0 L2_ L1_0
   subst hops hq hSP hfr
   intro w' hS
   have bc := bcS.out _ hS
   dsimp only
   refine rdy [1, 6] (by kernel_rfl) ?_
   refine AllReadyH.cons (o := _) rfl (fun K hK => ?_) (AllReadyH.cons (o := _) rfl (fun K hK => ?_) AllReadyH.nil)
   ·simp only [List.getElem_toArray, List.getElem_cons_succ, List.getElem_cons_zero]
    go_simp
    go_fit (H4.out _)
    rintro e wn ⟨rfl, bn⟩
    have bcn := Below.after bc bn
    try go_wp2_with fail
    refine hK.out _ _ (mkS.out _ bcn) (fun hS => ?_)
    clear hK K
    exact lst (L1_.out wn hS) (by kernel_rfl)
   ·simp only [List.getElem_toArray, List.getElem_cons_succ, List.getElem_cons_zero]
    go_simp
    try go_wp2_with fail
    refine hK.out _ _ (mkS.out _ (ba bc _)) (fun hS => ?_)
    clear hK K
    exact lst (L0_0.out _ _ hS (Cel.new w' _ _) bc.size) (by kernel_rfl)
  clear L3_0 L3_ L2_0 L2_ L1_0 L1_ L0_0
  subst hops hq hSP hfr
  refine wpAnyH_take (i := 0) (oi := _) (v := ?_) rfl (by kernel_rfl) (by kernel_rfl) (by kernel_rfl) (fun _ _ _ h => h) (Or.inl ⟨by rfl, ?_⟩) (by assumption) ?_
  rotate_left
  ·(intro w hSw; (try dsimp only at hSw); go_simp; try with_reducible rfl)
  try simp only [Act.put, List.getElem_toArray, List.getElem_cons_zero, List.setIfInBounds_toArray, List.set_cons_zero, List.set_cons_succ]
  refine wpAnyH_take (i := 2) (oi := _) (v := ?_) rfl (by kernel_rfl) (by kernel_rfl) (by kernel_rfl) (fun _ _ _ h => h) (Or.inl ⟨by rfl, ?_⟩) (by assumption) ?_
  rotate_left
  ·(intro w hSw; (try dsimp only at hSw); go_simp; try with_reducible rfl)
  try simp only [Act.put, List.getElem_toArray, List.getElem_cons_succ, List.getElem_cons_zero, List.setIfInBounds_toArray, List.set_cons_zero, List.set_cons_succ]
  refine wpAnyH_take (i := 3) (oi := _) (v := ?_) rfl (by kernel_rfl) (by kernel_rfl) (by kernel_rfl) (fun _ _ _ h => h) (Or.inl ⟨by rfl, ?_⟩) (by assumption) ?_
  rotate_left
  ·(intro w hSw; (try dsimp only at hSw); go_simp; try with_reducible rfl)
  try simp only [Act.put, List.getElem_toArray, List.getElem_cons_succ, List.getElem_cons_zero, List.setIfInBounds_toArray, List.set_cons_zero, List.set_cons_succ]
  exact lst (L0_.out _ (mkS.out _ (bdrew _))) (by kernel_rfl)
 case rest =>
 obtain ⟨gx, rfl, lx, kx, b1⟩ := hcut
 clear mkS bcS
 have sz := b1.size
 replace ka := ka.below b1
 replace kb := kb.below b1
 replace kc := kc.below b1
 replace kd := kd.below b1
 replace ku := ku.below b1
 replace kv := kv.below b1
 replace kt := kt.below b1
 replace bb := Below.after bb b1
 clear b1
 have tx := kx.lt
 go_wp2_with fail
 have mkS : ∀ w', Below wc.heap.size wc w' → (Below wc.heap.size wc w' ∧ w'.cell? ⟨w1.heap.size, 0, none⟩ = some (.bool n10) ∧ w'.cell? ⟨w1.heap.size, 1, none⟩ = some (.string s10) ∧ w'.cell? ⟨w1.heap.size, 2, none⟩ = some (.string d10) ∧ w'.cell? ⟨w1.heap.size, 3, none⟩ = some (.bool n11) ∧ w'.cell? ⟨w1.heap.size, 4, none⟩ = some (.string s11) ∧ w'.cell? ⟨w1.heap.size, 5, none⟩ = some (.string d11) ∧ w'.cell? ⟨w2.heap.size, 0, none⟩ = some (.bool n12) ∧ w'.cell? ⟨w2.heap.size, 1, none⟩ = some (.string s12) ∧ w'.cell? ⟨w2.heap.size, 2, none⟩ = some (.string d12) ∧ w'.cell? ⟨w2.heap.size, 3, none⟩ = some (.bool n13) ∧ w'.cell? ⟨w2.heap.size, 4, none⟩ = some (.string s13) ∧ w'.cell? ⟨w2.heap.size, 5, none⟩ = some (.string d13) ∧ w'.cell? ⟨w3.heap.size, 0, none⟩ = some (.bool n14) ∧ w'.cell? ⟨w3.heap.size, 1, none⟩ = some (.string s14) ∧ w'.cell? ⟨w3.heap.size, 2, none⟩ = some (.string d14) ∧ w'.cell? ⟨w3.heap.size, 3, none⟩ = some (.bool n15) ∧ w'.cell? ⟨w3.heap.size, 4, none⟩ = some (.string s15) ∧ w'.cell? ⟨w3.heap.size, 5, none⟩ = some (.string d15)) := fun w' h => ⟨h, cel6_0 (ku.below h), cel6_1 (ku.below h), cel6_2 (ku.below h), cel6_3 (ku.below h), cel6_4 (ku.below h), cel6_5 (ku.below h), cel6_0 (kv.below h), cel6_1 (kv.below h), cel6_2 (kv.below h), cel6_3 (kv.below h), cel6_4 (kv.below h), cel6_5 (kv.below h), cel6_0 (kt.below h), cel6_1 (kt.below h), cel6_2 (kt.below h), cel6_3 (kt.below h), cel6_4 (kt.below h), cel6_5 (kt.below h)⟩
 have bcS : ∀ w', (Below wc.heap.size wc w' ∧ w'.cell? ⟨w1.heap.size, 0, none⟩ = some (.bool n10) ∧ w'.cell? ⟨w1.heap.size, 1, none⟩ = some (.string s10) ∧ w'.cell? ⟨w1.heap.size, 2, none⟩ = some (.string d10) ∧ w'.cell? ⟨w1.heap.size, 3, none⟩ = some (.bool n11) ∧ w'.cell? ⟨w1.heap.size, 4, none⟩ = some (.string s11) ∧ w'.cell? ⟨w1.heap.size, 5, none⟩ = some (.string d11) ∧ w'.cell? ⟨w2.heap.size, 0, none⟩ = some (.bool n12) ∧ w'.cell? ⟨w2.heap.size, 1, none⟩ = some (.string s12) ∧ w'.cell? ⟨w2.heap.size, 2, none⟩ = some (.string d12) ∧ w'.cell? ⟨w2.heap.size, 3, none⟩ = some (.bool n13) ∧ w'.cell? ⟨w2.heap.size, 4, none⟩ = some (.string s13) ∧ w'.cell? ⟨w2.heap.size, 5, none⟩ = some (.string d13) ∧ w'.cell? ⟨w3.heap.size, 0, none⟩ = some (.bool n14) ∧ w'.cell? ⟨w3.heap.size, 1, none⟩ = some (.string s14) ∧ w'.cell? ⟨w3.heap.size, 2, none⟩ = some (.string d14) ∧ w'.cell? ⟨w3.heap.size, 3, none⟩ = some (.bool n15) ∧ w'.cell? ⟨w3.heap.size, 4, none⟩ = some (.string s15) ∧ w'.cell? ⟨w3.heap.size, 5, none⟩ = some (.string d15)) → Below wc.heap.size wc w' := fun w' h => h.1
 replace mkS := shut mkS
 replace bcS := shut bcS
 go_cut [13] from 30 to 35 (fun v wx => ∃ gc, v = .pointer (some ⟨gc, 0, none⟩) ∧ wc.heap.size ≤ gc ∧ Cel wx gc [.bool n21, .string s21, .string d21] 32 ∧ Below wc.heap.size wc wx)
 case first =>
  clear H1 H2 H3 H4 H5 H6 H10 H11 H12 H13 H14 H15 H16
  refine wp_region_held_drew (S := (fun w' => Below wc.heap.size wc w' ∧ w'.cell? ⟨w1.heap.size, 0, none⟩ = some (.bool n10) ∧ w'.cell? ⟨w1.heap.size, 1, none⟩ = some (.string s10) ∧ w'.cell? ⟨w1.heap.size, 2, none⟩ = some (.string d10) ∧ w'.cell? ⟨w1.heap.size, 3, none⟩ = some (.bool n11) ∧ w'.cell? ⟨w1.heap.size, 4, none⟩ = some (.string s11) ∧ w'.cell? ⟨w1.heap.size, 5, none⟩ = some (.string d11) ∧ w'.cell? ⟨w2.heap.size, 0, none⟩ = some (.bool n12) ∧ w'.cell? ⟨w2.heap.size, 1, none⟩ = some (.string s12) ∧ w'.cell? ⟨w2.heap.size, 2, none⟩ = some (.string d12) ∧ w'.cell? ⟨w2.heap.size, 3, none⟩ = some (.bool n13) ∧ w'.cell? ⟨w2.heap.size, 4, none⟩ = some (.string s13) ∧ w'.cell? ⟨w2.heap.size, 5, none⟩ = some (.string d13) ∧ w'.cell? ⟨w3.heap.size, 0, none⟩ = some (.bool n14) ∧ w'.cell? ⟨w3.heap.size, 1, none⟩ = some (.string s14) ∧ w'.cell? ⟨w3.heap.size, 2, none⟩ = some (.string d14) ∧ w'.cell? ⟨w3.heap.size, 3, none⟩ = some (.bool n15) ∧ w'.cell? ⟨w3.heap.size, 4, none⟩ = some (.string s15) ∧ w'.cell? ⟨w3.heap.size, 5, none⟩ = some (.string d15))) (by kernel_rfl) (mkS.out _ (bdrew _)) (fun _ => ?_)
  refine absO 8 (by kernel_rfl) (fun ops q SP hops hq hSP => ?_)
  obtain ⟨fr, hfr⟩ : ∃ fr : Value → Value → Value → Value → Act, fr = (fun x13 x31 x34 x35 => { tmps := #[.agg #[.bool n0, .string s0, .string d0, .bool n1, .string s1, .string d1], .agg #[.bool n2, .string s2, .string d2, .bool n3, .string s3, .string d3], .agg #[.bool n4, .string s4, .string d4, .bool n5, .string s5, .string d5], .agg #[.bool n6, .string s6, .string d6, .bool n7, .string s7, .string d7], .pointer (some ⟨w.heap.size, 0, none⟩), .pointer (some ⟨w.heap.size + 1, 0, none⟩), .pointer (some ⟨w.heap.size + 1 + 1, 0, none⟩), .pointer (some ⟨w.heap.size + 1 + 1 + 1, 0, none⟩), .int .i64 0, .pointer (some ⟨w1.heap.size, 0, none⟩), .pointer (some ⟨w2.heap.size, 0, none⟩), .pointer (some ⟨w3.heap.size, 0, none⟩), .pointer (some ⟨gx, 0, none⟩), x13, undef, .agg #[.bool n0, .string s0, .string d0, .bool n1, .string s1, .string d1], .agg #[.bool n6, .string s6, .string d6, .bool n7, .string s7, .string d7], .agg #[.bool n10, .string s10, .string d10, .bool n11, .string s11, .string d11], .agg #[.bool n2, .string s2, .string d2, .bool n3, .string s3, .string d3], .agg #[.bool n6, .string s6, .string d6, .bool n7, .string s7, .string d7], .agg #[.bool n12, .string s12, .string d12, .bool n13, .string s13, .string d13], .agg #[.bool n4, .string s4, .string d4, .bool n5, .string s5, .string d5], .agg #[.bool n6, .string s6, .string d6, .bool n7, .string s7, .string d7], .agg #[.bool n14, .string s14, .string d14, .bool n15, .string s15, .string d15], u24, u25, u26, u27, u28, u29, .agg #[.bool n12, .string s12, .string d12, .bool n13, .string s13, .string d13], x31, .agg #[.bool n14, .string s14, .string d14, .bool n15, .string s15, .string d15], .agg #[.bool n10, .string s10, .string d10, .bool n11, .string s11, .string d11], x34, x35, undef, undef, undef, undef, undef, undef, undef, undef, undef, undef, undef, undef, undef, undef, undef, undef, undef], defers := [] }) := ⟨_, rfl⟩
  have L3_0 : Hid (∀ (g0 : Nat) (w' : World) (hS : SP w') (k0 : Cel w' g0 [.bool false, .string { data := #[] }, .string { data := #[] }] 32) (h0 : wc.heap.size ≤ g0), wpAnyH Tryz.prog .any ops q SP 1 (ls 8 [0, 1, 2, 3, 4, 5, 6]) (fr (.pointer (some ⟨g0, 0, none⟩)) (.agg #[.bool n19, .string s19, .string d19]) (.agg #[.bool n20, .string s20, .string d20]) (.agg #[.bool n21, .string s21, .string d21])) w') := by
   subst hops hq hSP hfr
   intro g0 w' hS k0 h0
   have bc := bcS.out _ hS
   dsimp only
   have e0_0 := cel3_0 k0
   have f0_0 := Cel.frozen k0 0
   have e0_1 := cel3_1 k0
   have f0_1 := Cel.frozen k0 1
   have e0_2 := cel3_2 k0
   have f0_2 := Cel.frozen k0 2
   refine rdy [7] (by kernel_rfl) ?_
   refine AllReadyH.cons (o := _) rfl (fun K hK => ?_) AllReadyH.nil
   simp only [List.getElem_toArray, List.getElem_cons_succ, List.getElem_cons_zero]
   go_simp
   try go_wp2_with fail
   clear e0_0 f0_0 e0_1 f0_1 e0_2 f0_2
   refine hK.out _ _ (mkS.out _ (bset (bset (bset bc h0 0 (.bool n21)) h0 1 (.string s21)) h0 2 (.string d21))) (fun hS => ?_)
   clear hK K
   replace k0 := (Cel.set (Cel.set (Cel.set k0 0 (.bool n21)) 1 (.string s21)) 2 (.string d21))
   replace bc := (bset (bset (bset bc h0 0 (.bool n21)) h0 1 (.string s21)) h0 2 (.string d21))
   refine wpAnyH_done (by kernel_rfl) ?_ _
   go_wp2_with fail
   go_meet
   exact ⟨_, rfl, h0, k0, bc⟩
  have L3_ : Hid (∀ (w' : World) (hS : SP w'), wpAnyH Tryz.prog .any ops q SP 2 (ls 8 [0, 1, 2, 3, 4, 5]) (fr undef (.agg #[.bool n19, .string s19, .string d19]) (.agg #[.bool n20, .string s20, .string d20]) (.agg #[.bool n21, .string s21, .string d21])) w') := by
   subst hops hq hSP hfr
   intro w' hS
   have bc := bcS.out _ hS
   dsimp only
   refine rdy [6] (by kernel_rfl) ?_
   refine AllReadyH.cons (o := _) rfl (fun K hK => ?_) AllReadyH.nil
   ·simp only [List.getElem_toArray, List.getElem_cons_succ, List.getElem_cons_zero]
    go_simp
    try go_wp2_with fail
    refine hK.out _ _ (mkS.out _ (ba bc _)) (fun hS => ?_)
    clear hK K
    exact lst (L3_0.out _ _ hS (Cel.new w' _ _) bc.size) (by kernel_rfl)
  have L2_0 : Hid (∀ (g0 : Nat) (w' : World) (hS : SP w') (k0 : Cel w' g0 [.bool false, .string { data := #[] }, .string { data := #[] }] 32) (h0 : wc.heap.size ≤ g0), wpAnyH Tryz.prog .any ops q SP 2 (ls 8 [0, 1, 2, 3, 4, 6]) (fr (.pointer (some ⟨g0, 0, none⟩)) (.agg #[.bool n19, .string s19, .string d19]) (.agg #[.bool n20, .string s20, .string d20]) undef) w') := by
   clear L3_
   subst hops hq hSP hfr
   intro g0 w' hS k0 h0
   have bc := bcS.out _ hS
   dsimp only
   refine rdy [5] (by kernel_rfl) ?_
   refine AllReadyH.cons (o := _) rfl (fun K hK => ?_) AllReadyH.nil
   ·simp only [List.getElem_toArray, List.getElem_cons_succ, List.getElem_cons_zero]
    go_simp
    go_fit (H9.out _)
    rintro e wn ⟨rfl, bn⟩
    have bcn := Below.after bc bn
    try go_wp2_with fail
    refine hK.out _ _ (mkS.out _ bcn) (fun hS => ?_)
    clear hK K
    exact lst (L3_0.out g0 wn hS (k0.below bn) h0) (by kernel_rfl)
  have L2_ : Hid (∀ (w' : World) (hS : SP w'), wpAnyH Tryz.prog .any ops q SP 3 (ls 8 [0, 1, 2, 3, 4]) (fr undef (.agg #[.bool n19, .string s19, .string d19]) (.agg #[.bool n20, .string s20, .string d20]) undef) w') := by
   clear L3_0
   subst hops hq hSP hfr
   intro w' hS
   have bc := bcS.out _ hS
   dsimp only
   refine rdy [5, 6] (by kernel_rfl) ?_
   refine AllReadyH.cons (o := _) rfl (fun K hK => ?_) (AllReadyH.cons (o := _) rfl (fun K hK => ?_) AllReadyH.nil)
   ·simp only [List.getElem_toArray, List.getElem_cons_succ, List.getElem_cons_zero]
    go_simp
    go_fit (H9.out _)
    rintro e wn ⟨rfl, bn⟩
    have bcn := Below.after bc bn
    try go_wp2_with fail
    refine hK.out _ _ (mkS.out _ bcn) (fun hS => ?_)
    clear hK K
    exact lst (L3_.out wn hS) (by kernel_rfl)
   ·simp only [List.getElem_toArray, List.getElem_cons_succ, List.getElem_cons_zero]
    go_simp
    try go_wp2_with fail
    refine hK.out _ _ (mkS.out _ (ba bc _)) (fun hS => ?_)
    clear hK K
    exact lst (L2_0.out _ _ hS (Cel.new w' _ _) bc.size) (by kernel_rfl)
  have L1_0 : Hid (∀ (g0 : Nat) (w' : World) (hS : SP w') (k0 : Cel w' g0 [.bool false, .string { data := #[] }, .string { data := #[] }] 32) (h0 : wc.heap.size ≤ g0), wpAnyH Tryz.prog .any ops q SP 3 (ls 8 [0, 1, 2, 3, 6]) (fr (.pointer (some ⟨g0, 0, none⟩)) (.agg #[.bool n19, .string s19, .string d19]) undef undef) w') := by
   clear L3_0 L3_ L2_
   subst hops hq hSP hfr
   intro g0 w' hS k0 h0
   have bc := bcS.out _ hS
   dsimp only
   refine rdy [4] (by kernel_rfl) ?_
   refine AllReadyH.cons (o := _) rfl (fun K hK => ?_) AllReadyH.nil
   ·simp only [List.getElem_toArray, List.getElem_cons_succ, List.getElem_cons_zero]
    go_simp
    go_fit (H8.out _)
    rintro e wn ⟨rfl, bn⟩
    have bcn := Below.after bc bn
    try go_wp2_with fail
    refine hK.out _ _ (mkS.out _ bcn) (fun hS => ?_)
    clear hK K
    exact lst (L2_0.out g0 wn hS (k0.below bn) h0) (by kernel_rfl)
  have L1_ : Hid (∀ (w' : World) (hS : SP w'), wpAnyH Tryz.prog .any ops q SP 4 (ls 8 [0, 1, 2, 3]) (fr undef (.agg #[.bool n19, .string s19, .string d19]) undef undef) w') := by
   clear L3_0 L3_ L2_0
   subst hops hq hSP hfr
   intro w' hS
   have bc := bcS.out _ hS
   dsimp only
   refine rdy [4, 6] (by kernel_rfl) ?_
   refine AllReadyH.cons (o := _) rfl (fun K hK => ?_) (AllReadyH.cons (o := _) rfl (fun K hK => ?_) AllReadyH.nil)
   ·simp only [List.getElem_toArray, List.getElem_cons_succ, List.getElem_cons_zero]
    go_simp
    go_fit (H8.out _)
    rintro e wn ⟨rfl, bn⟩
    have bcn := Below.after bc bn
    try go_wp2_with fail
    refine hK.out _ _ (mkS.out _ bcn) (fun hS => ?_)
    clear hK K
    exact lst (L2_.out wn hS) (by kernel_rfl)
   ·simp only [List.getElem_toArray, List.getElem_cons_succ, List.getElem_cons_zero]
    go_simp
    try go_wp2_with fail
    refine hK.out _ _ (mkS.out _ (ba bc _)) (fun hS => ?_)
    clear hK K
    exact lst (L1_0.out _ _ hS (Cel.new w' _ _) bc.size) (by kernel_rfl)
  have L0_0 : Hid (∀ (g0 : Nat) (w' : World) (hS : SP w') (k0 : Cel w' g0 [.bool false, .string { data := #[] }, .string { data := #[] }] 32) (h0 : wc.heap.size ≤ g0), wpAnyH Tryz.prog .any ops q SP 4 (ls 8 [0, 2, 3, 6]) (fr (.pointer (some ⟨g0, 0, none⟩)) undef undef undef) w') := by
   clear L3_0 L3_ L2_0 L2_ L1_
   subst hops hq hSP hfr
   intro g0 w' hS k0 h0
   have bc := bcS.out _ hS
   dsimp only
   refine rdy [1] (by kernel_rfl) ?_
   refine AllReadyH.cons (o := _) rfl (fun K hK => ?_) AllReadyH.nil
   ·simp only [List.getElem_toArray, List.getElem_cons_succ, List.getElem_cons_zero]
    go_simp
    go_fit (H7.out _)
    rintro e wn ⟨rfl, bn⟩
    have bcn := Below.after bc bn
    try go_wp2_with fail
    refine hK.out _ _ (mkS.out _ bcn) (fun hS => ?_)
    clear hK K
    exact lst (L1_0.out g0 wn hS (k0.below bn) h0) (by kernel_rfl)
  have L0_ : Hid (∀ (w' : World) (hS : SP w'), wpAnyH Tryz.prog .any ops q SP 5 (ls 8 [0, 2, 3]) (fr undef undef undef undef) w') := by
   clear L3_0 L3_ L2_0 L2_ L1_0
   subst hops hq hSP hfr
   intro w' hS
   have bc := bcS.out _ hS
   dsimp only
   refine rdy [1, 6] (by kernel_rfl) ?_
   refine AllReadyH.cons (o := _) rfl (fun K hK => ?_) (AllReadyH.cons (o := _) rfl (fun K hK => ?_) AllReadyH.nil)
   ·simp only [List.getElem_toArray, List.getElem_cons_succ, List.getElem_cons_zero]
    go_simp
    go_fit (H7.out _)
    rintro e wn ⟨rfl, bn⟩
    have bcn := Below.after bc bn
    try go_wp2_with fail
    refine hK.out _ _ (mkS.out _ bcn) (fun hS => ?_)
    clear hK K
    exact lst (L1_.out wn hS) (by kernel_rfl)
   ·simp only [List.getElem_toArray, List.getElem_cons_succ, List.getElem_cons_zero]
    go_simp
    try go_wp2_with fail
    refine hK.out _ _ (mkS.out _ (ba bc _)) (fun hS => ?_)
    clear hK K
    exact lst (L0_0.out _ _ hS (Cel.new w' _ _) bc.size) (by kernel_rfl)
  clear L3_0 L3_ L2_0 L2_ L1_0 L1_ L0_0
  subst hops hq hSP hfr
  refine wpAnyH_take (i := 0) (oi := _) (v := ?_) rfl (by kernel_rfl) (by kernel_rfl) (by kernel_rfl) (fun _ _ _ h => h) (Or.inl ⟨by rfl, ?_⟩) (by assumption) ?_
  rotate_left
  ·(intro w hSw; (try dsimp only at hSw); go_simp; try with_reducible rfl)
  try simp only [Act.put, List.getElem_toArray, List.getElem_cons_zero, List.setIfInBounds_toArray, List.set_cons_zero, List.set_cons_succ]
  refine wpAnyH_take (i := 2) (oi := _) (v := ?_) rfl (by kernel_rfl) (by kernel_rfl) (by kernel_rfl) (fun _ _ _ h => h) (Or.inl ⟨by rfl, ?_⟩) (by assumption) ?_
  rotate_left
  ·(intro w hSw; (try dsimp only at hSw); go_simp; try with_reducible rfl)
  try simp only [Act.put, List.getElem_toArray, List.getElem_cons_succ, List.getElem_cons_zero, List.setIfInBounds_toArray, List.set_cons_zero, List.set_cons_succ]
  refine wpAnyH_take (i := 3) (oi := _) (v := ?_) rfl (by kernel_rfl) (by kernel_rfl) (by kernel_rfl) (fun _ _ _ h => h) (Or.inl ⟨by rfl, ?_⟩) (by assumption) ?_
  rotate_left
  ·(intro w hSw; (try dsimp only at hSw); go_simp; try with_reducible rfl)
  try simp only [Act.put, List.getElem_toArray, List.getElem_cons_succ, List.getElem_cons_zero, List.setIfInBounds_toArray, List.set_cons_zero, List.set_cons_succ]
  exact lst (L0_.out _ (mkS.out _ (bdrew _))) (by kernel_rfl)
 case rest =>
 obtain ⟨gy, rfl, ly, ky, b1⟩ := hcut
 clear mkS bcS
 have sz := b1.size
 replace ka := ka.below b1
 replace kb := kb.below b1
 replace kc := kc.below b1
 replace kd := kd.below b1
 replace ku := ku.below b1
 replace kv := kv.below b1
 replace kt := kt.below b1
 replace kx := kx.below b1
 replace bb := Below.after bb b1
 clear b1
 have ty := ky.lt
 go_wp2_with fail
 have mkS : ∀ w', Below wc.heap.size wc w' → (Below wc.heap.size wc w' ∧ w'.cell? ⟨w1.heap.size, 0, none⟩ = some (.bool n10) ∧ w'.cell? ⟨w1.heap.size, 1, none⟩ = some (.string s10) ∧ w'.cell? ⟨w1.heap.size, 2, none⟩ = some (.string d10) ∧ w'.cell? ⟨w1.heap.size, 3, none⟩ = some (.bool n11) ∧ w'.cell? ⟨w1.heap.size, 4, none⟩ = some (.string s11) ∧ w'.cell? ⟨w1.heap.size, 5, none⟩ = some (.string d11) ∧ w'.cell? ⟨w2.heap.size, 0, none⟩ = some (.bool n12) ∧ w'.cell? ⟨w2.heap.size, 1, none⟩ = some (.string s12) ∧ w'.cell? ⟨w2.heap.size, 2, none⟩ = some (.string d12) ∧ w'.cell? ⟨w2.heap.size, 3, none⟩ = some (.bool n13) ∧ w'.cell? ⟨w2.heap.size, 4, none⟩ = some (.string s13) ∧ w'.cell? ⟨w2.heap.size, 5, none⟩ = some (.string d13) ∧ w'.cell? ⟨w3.heap.size, 0, none⟩ = some (.bool n14) ∧ w'.cell? ⟨w3.heap.size, 1, none⟩ = some (.string s14) ∧ w'.cell? ⟨w3.heap.size, 2, none⟩ = some (.string d14) ∧ w'.cell? ⟨w3.heap.size, 3, none⟩ = some (.bool n15) ∧ w'.cell? ⟨w3.heap.size, 4, none⟩ = some (.string s15) ∧ w'.cell? ⟨w3.heap.size, 5, none⟩ = some (.string d15)) := fun w' h => ⟨h, cel6_0 (ku.below h), cel6_1 (ku.below h), cel6_2 (ku.below h), cel6_3 (ku.below h), cel6_4 (ku.below h), cel6_5 (ku.below h), cel6_0 (kv.below h), cel6_1 (kv.below h), cel6_2 (kv.below h), cel6_3 (kv.below h), cel6_4 (kv.below h), cel6_5 (kv.below h), cel6_0 (kt.below h), cel6_1 (kt.below h), cel6_2 (kt.below h), cel6_3 (kt.below h), cel6_4 (kt.below h), cel6_5 (kt.below h)⟩
 have bcS : ∀ w', (Below wc.heap.size wc w' ∧ w'.cell? ⟨w1.heap.size, 0, none⟩ = some (.bool n10) ∧ w'.cell? ⟨w1.heap.size, 1, none⟩ = some (.string s10) ∧ w'.cell? ⟨w1.heap.size, 2, none⟩ = some (.string d10) ∧ w'.cell? ⟨w1.heap.size, 3, none⟩ = some (.bool n11) ∧ w'.cell? ⟨w1.heap.size, 4, none⟩ = some (.string s11) ∧ w'.cell? ⟨w1.heap.size, 5, none⟩ = some (.string d11) ∧ w'.cell? ⟨w2.heap.size, 0, none⟩ = some (.bool n12) ∧ w'.cell? ⟨w2.heap.size, 1, none⟩ = some (.string s12) ∧ w'.cell? ⟨w2.heap.size, 2, none⟩ = some (.string d12) ∧ w'.cell? ⟨w2.heap.size, 3, none⟩ = some (.bool n13) ∧ w'.cell? ⟨w2.heap.size, 4, none⟩ = some (.string s13) ∧ w'.cell? ⟨w2.heap.size, 5, none⟩ = some (.string d13) ∧ w'.cell? ⟨w3.heap.size, 0, none⟩ = some (.bool n14) ∧ w'.cell? ⟨w3.heap.size, 1, none⟩ = some (.string s14) ∧ w'.cell? ⟨w3.heap.size, 2, none⟩ = some (.string d14) ∧ w'.cell? ⟨w3.heap.size, 3, none⟩ = some (.bool n15) ∧ w'.cell? ⟨w3.heap.size, 4, none⟩ = some (.string s15) ∧ w'.cell? ⟨w3.heap.size, 5, none⟩ = some (.string d15)) → Below wc.heap.size wc w' := fun w' h => h.1
 replace mkS := shut mkS
 replace bcS := shut bcS
 go_cut [14] from 36 to 41 (fun v wx => ∃ gc, v = .pointer (some ⟨gc, 0, none⟩) ∧ wc.heap.size ≤ gc ∧ Cel wx gc [.bool n24, .string s24, .string d24] 32 ∧ Below wc.heap.size wc wx)
 case first =>
  clear H1 H2 H3 H4 H5 H6 H7 H8 H9 H13 H14 H15 H16
  refine wp_region_held_drew (S := (fun w' => Below wc.heap.size wc w' ∧ w'.cell? ⟨w1.heap.size, 0, none⟩ = some (.bool n10) ∧ w'.cell? ⟨w1.heap.size, 1, none⟩ = some (.string s10) ∧ w'.cell? ⟨w1.heap.size, 2, none⟩ = some (.string d10) ∧ w'.cell? ⟨w1.heap.size, 3, none⟩ = some (.bool n11) ∧ w'.cell? ⟨w1.heap.size, 4, none⟩ = some (.string s11) ∧ w'.cell? ⟨w1.heap.size, 5, none⟩ = some (.string d11) ∧ w'.cell? ⟨w2.heap.size, 0, none⟩ = some (.bool n12) ∧ w'.cell? ⟨w2.heap.size, 1, none⟩ = some (.string s12) ∧ w'.cell? ⟨w2.heap.size, 2, none⟩ = some (.string d12) ∧ w'.cell? ⟨w2.heap.size, 3, none⟩ = some (.bool n13) ∧ w'.cell? ⟨w2.heap.size, 4, none⟩ = some (.string s13) ∧ w'.cell? ⟨w2.heap.size, 5, none⟩ = some (.string d13) ∧ w'.cell? ⟨w3.heap.size, 0, none⟩ = some (.bool n14) ∧ w'.cell? ⟨w3.heap.size, 1, none⟩ = some (.string s14) ∧ w'.cell? ⟨w3.heap.size, 2, none⟩ = some (.string d14) ∧ w'.cell? ⟨w3.heap.size, 3, none⟩ = some (.bool n15) ∧ w'.cell? ⟨w3.heap.size, 4, none⟩ = some (.string s15) ∧ w'.cell? ⟨w3.heap.size, 5, none⟩ = some (.string d15))) (by kernel_rfl) (mkS.out _ (bdrew _)) (fun _ => ?_)
  refine absO 8 (by kernel_rfl) (fun ops q SP hops hq hSP => ?_)
  obtain ⟨fr, hfr⟩ : ∃ fr : Value → Value → Value → Value → Act, fr = (fun x14 x37 x40 x41 => { tmps := #[.agg #[.bool n0, .string s0, .string d0, .bool n1, .string s1, .string d1], .agg #[.bool n2, .string s2, .string d2, .bool n3, .string s3, .string d3], .agg #[.bool n4, .string s4, .string d4, .bool n5, .string s5, .string d5], .agg #[.bool n6, .string s6, .string d6, .bool n7, .string s7, .string d7], .pointer (some ⟨w.heap.size, 0, none⟩), .pointer (some ⟨w.heap.size + 1, 0, none⟩), .pointer (some ⟨w.heap.size + 1 + 1, 0, none⟩), .pointer (some ⟨w.heap.size + 1 + 1 + 1, 0, none⟩), .int .i64 0, .pointer (some ⟨w1.heap.size, 0, none⟩), .pointer (some ⟨w2.heap.size, 0, none⟩), .pointer (some ⟨w3.heap.size, 0, none⟩), .pointer (some ⟨gx, 0, none⟩), .pointer (some ⟨gy, 0, none⟩), x14, .agg #[.bool n0, .string s0, .string d0, .bool n1, .string s1, .string d1], .agg #[.bool n6, .string s6, .string d6, .bool n7, .string s7, .string d7], .agg #[.bool n10, .string s10, .string d10, .bool n11, .string s11, .string d11], .agg #[.bool n2, .string s2, .string d2, .bool n3, .string s3, .string d3], .agg #[.bool n6, .string s6, .string d6, .bool n7, .string s7, .string d7], .agg #[.bool n12, .string s12, .string d12, .bool n13, .string s13, .string d13], .agg #[.bool n4, .string s4, .string d4, .bool n5, .string s5, .string d5], .agg #[.bool n6, .string s6, .string d6, .bool n7, .string s7, .string d7], .agg #[.bool n14, .string s14, .string d14, .bool n15, .string s15, .string d15], u24, u25, u26, u27, u28, u29, u30, u31, u32, u33, u34, u35, .agg #[.bool n14, .string s14, .string d14, .bool n15, .string s15, .string d15], x37, .agg #[.bool n10, .string s10, .string d10, .bool n11, .string s11, .string d11], .agg #[.bool n12, .string s12, .string d12, .bool n13, .string s13, .string d13], x40, x41, undef, undef, undef, undef, undef, undef, undef, undef, undef, undef, undef], defers := [] }) := ⟨_, rfl⟩
  have L3_0 : Hid (∀ (g0 : Nat) (w' : World) (hS : SP w') (k0 : Cel w' g0 [.bool false, .string { data := #[] }, .string { data := #[] }] 32) (h0 : wc.heap.size ≤ g0), wpAnyH Tryz.prog .any ops q SP 1 (ls 8 [0, 1, 2, 3, 4, 5, 6]) (fr (.pointer (some ⟨g0, 0, none⟩)) (.agg #[.bool n22, .string s22, .string d22]) (.agg #[.bool n23, .string s23, .string d23]) (.agg #[.bool n24, .string s24, .string d24])) w') := by
   subst hops hq hSP hfr
   intro g0 w' hS k0 h0
   have bc := bcS.out _ hS
   dsimp only
   have e0_0 := cel3_0 k0
   have f0_0 := Cel.frozen k0 0
   have e0_1 := cel3_1 k0
   have f0_1 := Cel.frozen k0 1
   have e0_2 := cel3_2 k0
   have f0_2 := Cel.frozen k0 2
   refine rdy [7] (by kernel_rfl) ?_
   refine AllReadyH.cons (o := _) rfl (fun K hK => ?_) AllReadyH.nil
   simp only [List.getElem_toArray, List.getElem_cons_succ, List.getElem_cons_zero]
   go_simp
   try go_wp2_with fail
   clear e0_0 f0_0 e0_1 f0_1 e0_2 f0_2
   refine hK.out _ _ (mkS.out _ (bset (bset (bset bc h0 0 (.bool n24)) h0 1 (.string s24)) h0 2 (.string d24))) (fun hS => ?_)
   clear hK K
   replace k0 := (Cel.set (Cel.set (Cel.set k0 0 (.bool n24)) 1 (.string s24)) 2 (.string d24))
   replace bc := (bset (bset (bset bc h0 0 (.bool n24)) h0 1 (.string s24)) h0 2 (.string d24))
   refine wpAnyH_done (by kernel_rfl) ?_ _
   go_wp2_with fail
   go_meet
   exact ⟨_, rfl, h0, k0, bc⟩
  have L3_ : Hid (∀ (w' : World) (hS : SP w'), wpAnyH Tryz.prog .any ops q SP 2 (ls 8 [0, 1, 2, 3, 4, 5]) (fr undef (.agg #[.bool n22, .string s22, .string d22]) (.agg #[.bool n23, .string s23, .string d23]) (.agg #[.bool n24, .string s24, .string d24])) w') := by
   subst hops hq hSP hfr
   intro w' hS
   have bc := bcS.out _ hS
   dsimp only
   refine rdy [6] (by kernel_rfl) ?_
   refine AllReadyH.cons (o := _) rfl (fun K hK => ?_) AllReadyH.nil
   ·simp only [List.getElem_toArray, List.getElem_cons_succ, List.getElem_cons_zero]
    go_simp
    try go_wp2_with fail
    refine hK.out _ _ (mkS.out _ (ba bc _)) (fun hS => ?_)
    clear hK K
    exact lst (L3_0.out _ _ hS (Cel.new w' _ _) bc.size) (by kernel_rfl)
  have L2_0 : Hid (∀ (g0 : Nat) (w' : World) (hS : SP w') (k0 : Cel w' g0 [.bool false, .string { data := #[] }, .string { data := #[] }] 32) (h0 : wc.heap.size ≤ g0), wpAnyH Tryz.prog .any ops q SP 2 (ls 8 [0, 1, 2, 3, 4, 6]) (fr (.pointer (some ⟨g0, 0, none⟩)) (.agg #[.bool n22, .string s22, .string d22]) (.agg #[.bool n23, .string s23, .string d23]) undef) w') := by
   clear L3_
   subst hops hq hSP hfr
   intro g0 w' hS k0 h0
   have bc := bcS.out _ hS
   dsimp only
   refine rdy [5] (by kernel_rfl) ?_
   refine AllReadyH.cons (o := _) rfl (fun K hK => ?_) AllReadyH.nil
   ·simp only [List.getElem_toArray, List.getElem_cons_succ, List.getElem_cons_zero]
    go_simp
    go_fit (H12.out _)
    rintro e wn ⟨rfl, bn⟩
    have bcn := Below.after bc bn
    try go_wp2_with fail
    refine hK.out _ _ (mkS.out _ bcn) (fun hS => ?_)
    clear hK K
    exact lst (L3_0.out g0 wn hS (k0.below bn) h0) (by kernel_rfl)
  have L2_ : Hid (∀ (w' : World) (hS : SP w'), wpAnyH Tryz.prog .any ops q SP 3 (ls 8 [0, 1, 2, 3, 4]) (fr undef (.agg #[.bool n22, .string s22, .string d22]) (.agg #[.bool n23, .string s23, .string d23]) undef) w') := by
   clear L3_0
   subst hops hq hSP hfr
   intro w' hS
   have bc := bcS.out _ hS
   dsimp only
   refine rdy [5, 6] (by kernel_rfl) ?_
   refine AllReadyH.cons (o := _) rfl (fun K hK => ?_) (AllReadyH.cons (o := _) rfl (fun K hK => ?_) AllReadyH.nil)
   ·simp only [List.getElem_toArray, List.getElem_cons_succ, List.getElem_cons_zero]
    go_simp
    go_fit (H12.out _)
    rintro e wn ⟨rfl, bn⟩
    have bcn := Below.after bc bn
    try go_wp2_with fail
    refine hK.out _ _ (mkS.out _ bcn) (fun hS => ?_)
    clear hK K
    exact lst (L3_.out wn hS) (by kernel_rfl)
   ·simp only [List.getElem_toArray, List.getElem_cons_succ, List.getElem_cons_zero]
    go_simp
    try go_wp2_with fail
    refine hK.out _ _ (mkS.out _ (ba bc _)) (fun hS => ?_)
    clear hK K
    exact lst (L2_0.out _ _ hS (Cel.new w' _ _) bc.size) (by kernel_rfl)
  have L1_0 : Hid (∀ (g0 : Nat) (w' : World) (hS : SP w') (k0 : Cel w' g0 [.bool false, .string { data := #[] }, .string { data := #[] }] 32) (h0 : wc.heap.size ≤ g0), wpAnyH Tryz.prog .any ops q SP 3 (ls 8 [0, 1, 2, 3, 6]) (fr (.pointer (some ⟨g0, 0, none⟩)) (.agg #[.bool n22, .string s22, .string d22]) undef undef) w') := by
   clear L3_0 L3_ L2_
   subst hops hq hSP hfr
   intro g0 w' hS k0 h0
   have bc := bcS.out _ hS
   dsimp only
   refine rdy [4] (by kernel_rfl) ?_
   refine AllReadyH.cons (o := _) rfl (fun K hK => ?_) AllReadyH.nil
   ·simp only [List.getElem_toArray, List.getElem_cons_succ, List.getElem_cons_zero]
    go_simp
    go_fit (H11.out _)
    rintro e wn ⟨rfl, bn⟩
    have bcn := Below.after bc bn
    try go_wp2_with fail
    refine hK.out _ _ (mkS.out _ bcn) (fun hS => ?_)
    clear hK K
    exact lst (L2_0.out g0 wn hS (k0.below bn) h0) (by kernel_rfl)
  have L1_ : Hid (∀ (w' : World) (hS : SP w'), wpAnyH Tryz.prog .any ops q SP 4 (ls 8 [0, 1, 2, 3]) (fr undef (.agg #[.bool n22, .string s22, .string d22]) undef undef) w') := by
   clear L3_0 L3_ L2_0
   subst hops hq hSP hfr
   intro w' hS
   have bc := bcS.out _ hS
   dsimp only
   refine rdy [4, 6] (by kernel_rfl) ?_
   refine AllReadyH.cons (o := _) rfl (fun K hK => ?_) (AllReadyH.cons (o := _) rfl (fun K hK => ?_) AllReadyH.nil)
   ·simp only [List.getElem_toArray, List.getElem_cons_succ, List.getElem_cons_zero]
    go_simp
    go_fit (H11.out _)
    rintro e wn ⟨rfl, bn⟩
    have bcn := Below.after bc bn
    try go_wp2_with fail
    refine hK.out _ _ (mkS.out _ bcn) (fun hS => ?_)
    clear hK K
    exact lst (L2_.out wn hS) (by kernel_rfl)
   ·simp only [List.getElem_toArray, List.getElem_cons_succ, List.getElem_cons_zero]
    go_simp
    try go_wp2_with fail
    refine hK.out _ _ (mkS.out _ (ba bc _)) (fun hS => ?_)
    clear hK K
    exact lst (L1_0.out _ _ hS (Cel.new w' _ _) bc.size) (by kernel_rfl)
  have L0_0 : Hid (∀ (g0 : Nat) (w' : World) (hS : SP w') (k0 : Cel w' g0 [.bool false, .string { data := #[] }, .string { data := #[] }] 32) (h0 : wc.heap.size ≤ g0), wpAnyH Tryz.prog .any ops q SP 4 (ls 8 [0, 2, 3, 6]) (fr (.pointer (some ⟨g0, 0, none⟩)) undef undef undef) w') := by
   clear L3_0 L3_ L2_0 L2_ L1_
   subst hops hq hSP hfr
   intro g0 w' hS k0 h0
   have bc := bcS.out _ hS
   dsimp only
   refine rdy [1] (by kernel_rfl) ?_
   refine AllReadyH.cons (o := _) rfl (fun K hK => ?_) AllReadyH.nil
   ·simp only [List.getElem_toArray, List.getElem_cons_succ, List.getElem_cons_zero]
    go_simp
    go_fit (H10.out _)
    rintro e wn ⟨rfl, bn⟩
    have bcn := Below.after bc bn
    try go_wp2_with fail
    refine hK.out _ _ (mkS.out _ bcn) (fun hS => ?_)
    clear hK K
    exact lst (L1_0.out g0 wn hS (k0.below bn) h0) (by kernel_rfl)
  have L0_ : Hid (∀ (w' : World) (hS : SP w'), wpAnyH Tryz.prog .any ops q SP 5 (ls 8 [0, 2, 3]) (fr undef undef undef undef) w') := by
   clear L3_0 L3_ L2_0 L2_ L1_0
   subst hops hq hSP hfr
   intro w' hS
   have bc := bcS.out _ hS
   dsimp only
   refine rdy [1, 6] (by kernel_rfl) ?_
   refine AllReadyH.cons (o := _) rfl (fun K hK => ?_) (AllReadyH.cons (o := _) rfl (fun K hK => ?_) AllReadyH.nil)
   ·simp only [List.getElem_toArray, List.getElem_cons_succ, List.getElem_cons_zero]
    go_simp
    go_fit (H10.out _)
    rintro e wn ⟨rfl, bn⟩
    have bcn := Below.after bc bn
    try go_wp2_with fail
    refine hK.out _ _ (mkS.out _ bcn) (fun hS => ?_)
    clear hK K
    exact lst (L1_.out wn hS) (by kernel_rfl)
   ·simp only [List.getElem_toArray, List.getElem_cons_succ, List.getElem_cons_zero]
    go_simp
    try go_wp2_with fail
    refine hK.out _ _ (mkS.out _ (ba bc _)) (fun hS => ?_)
    clear hK K
    exact lst (L0_0.out _ _ hS (Cel.new w' _ _) bc.size) (by kernel_rfl)
  clear L3_0 L3_ L2_0 L2_ L1_0 L1_ L0_0
  subst hops hq hSP hfr
  refine wpAnyH_take (i := 0) (oi := _) (v := ?_) rfl (by kernel_rfl) (by kernel_rfl) (by kernel_rfl) (fun _ _ _ h => h) (Or.inl ⟨by rfl, ?_⟩) (by assumption) ?_
  rotate_left
  ·(intro w hSw; (try dsimp only at hSw); go_simp; try with_reducible rfl)
  try simp only [Act.put, List.getElem_toArray, List.getElem_cons_zero, List.setIfInBounds_toArray, List.set_cons_zero, List.set_cons_succ]
  refine wpAnyH_take (i := 2) (oi := _) (v := ?_) rfl (by kernel_rfl) (by kernel_rfl) (by kernel_rfl) (fun _ _ _ h => h) (Or.inl ⟨by rfl, ?_⟩) (by assumption) ?_
  rotate_left
  ·(intro w hSw; (try dsimp only at hSw); go_simp; try with_reducible rfl)
  try simp only [Act.put, List.getElem_toArray, List.getElem_cons_succ, List.getElem_cons_zero, List.setIfInBounds_toArray, List.set_cons_zero, List.set_cons_succ]
  refine wpAnyH_take (i := 3) (oi := _) (v := ?_) rfl (by kernel_rfl) (by kernel_rfl) (by kernel_rfl) (fun _ _ _ h => h) (Or.inl ⟨by rfl, ?_⟩) (by assumption) ?_
  rotate_left
  ·(intro w hSw; (try dsimp only at hSw); go_simp; try with_reducible rfl)
  try simp only [Act.put, List.getElem_toArray, List.getElem_cons_succ, List.getElem_cons_zero, List.setIfInBounds_toArray, List.set_cons_zero, List.set_cons_succ]
  exact lst (L0_.out _ (mkS.out _ (bdrew _))) (by kernel_rfl)
 case rest =>
 obtain ⟨gz, rfl, lz, kz, b1⟩ := hcut
 clear mkS bcS
 have sz := b1.size
 replace ka := ka.below b1
 replace kb := kb.below b1
 replace kc := kc.below b1
 replace kd := kd.below b1
 replace ku := ku.below b1
 replace kv := kv.below b1
 replace kt := kt.below b1
 replace kx := kx.below b1
 replace ky := ky.below b1
 replace bb := Below.after bb b1
 clear b1
 have tz := kz.lt
 go_wp2_with fail
 go_region_held3 (fun w' => w'.cell? ⟨gx, 0, none⟩ = some (.bool n18) ∧ w'.cell? ⟨gx, 1, none⟩ = some (.string s18) ∧ w'.cell? ⟨gx, 2, none⟩ = some (.string d18) ∧ w'.cell? ⟨gy, 0, none⟩ = some (.bool n21) ∧ w'.cell? ⟨gy, 1, none⟩ = some (.string s21) ∧ w'.cell? ⟨gy, 2, none⟩ = some (.string d21) ∧ w'.cell? ⟨gz, 0, none⟩ = some (.bool n24) ∧ w'.cell? ⟨gz, 1, none⟩ = some (.string s24) ∧ w'.cell? ⟨gz, 2, none⟩ = some (.string d24) ∧ w'.cell? ⟨w.heap.size, 0, none⟩ = some (.bool n0) ∧ w'.cell? ⟨w.heap.size, 1, none⟩ = some (.string s0) ∧ w'.cell? ⟨w.heap.size, 2, none⟩ = some (.string d0) ∧ w'.cell? ⟨w.heap.size, 3, none⟩ = some (.bool n1) ∧ w'.cell? ⟨w.heap.size, 4, none⟩ = some (.string s1) ∧ w'.cell? ⟨w.heap.size, 5, none⟩ = some (.string d1) ∧ w'.cell? ⟨w.heap.size + 1, 0, none⟩ = some (.bool n2) ∧ w'.cell? ⟨w.heap.size + 1, 1, none⟩ = some (.string s2) ∧ w'.cell? ⟨w.heap.size + 1, 2, none⟩ = some (.string d2) ∧ w'.cell? ⟨w.heap.size + 1, 3, none⟩ = some (.bool n3) ∧ w'.cell? ⟨w.heap.size + 1, 4, none⟩ = some (.string s3) ∧ w'.cell? ⟨w.heap.size + 1, 5, none⟩ = some (.string d3) ∧ w'.cell? ⟨w.heap.size + 1 + 1, 0, none⟩ = some (.bool n4) ∧ w'.cell? ⟨w.heap.size + 1 + 1, 1, none⟩ = some (.string s4) ∧ w'.cell? ⟨w.heap.size + 1 + 1, 2, none⟩ = some (.string d4) ∧ w'.cell? ⟨w.heap.size + 1 + 1, 3, none⟩ = some (.bool n5) ∧ w'.cell? ⟨w.heap.size + 1 + 1, 4, none⟩ = some (.string s5) ∧ w'.cell? ⟨w.heap.size + 1 + 1, 5, none⟩ = some (.string d5)) (exact ⟨cel3_0 kx, cel3_1 kx, cel3_2 kx, cel3_0 ky, cel3_1 ky, cel3_2 ky, cel3_0 kz, cel3_1 kz, cel3_2 kz, cel6_0 ka, cel6_1 ka, cel6_2 ka, cel6_3 ka, cel6_4 ka, cel6_5 ka, cel6_0 kb, cel6_1 kb, cel6_2 kb, cel6_3 kb, cel6_4 kb, cel6_5 kb, cel6_0 kc, cel6_1 kc, cel6_2 kc, cel6_3 kc, cel6_4 kc, cel6_5 kc⟩) (first | (go_at_call 58; go_fit (H13.out _); rintro e wn ⟨rfl, bn⟩; replace ka := ka.below ⟨bn.os, bn.tape, bn.output, bn.size, bn.block⟩; replace kb := kb.below ⟨bn.os, bn.tape, bn.output, bn.size, bn.block⟩; replace kc := kc.below ⟨bn.os, bn.tape, bn.output, bn.size, bn.block⟩; replace kd := kd.below ⟨bn.os, bn.tape, bn.output, bn.size, bn.block⟩; replace ku := ku.below ⟨bn.os, bn.tape, bn.output, bn.size, bn.block⟩; replace kv := kv.below ⟨bn.os, bn.tape, bn.output, bn.size, bn.block⟩; replace kt := kt.below ⟨bn.os, bn.tape, bn.output, bn.size, bn.block⟩; replace kx := kx.below ⟨bn.os, bn.tape, bn.output, bn.size, bn.block⟩; replace ky := ky.below ⟨bn.os, bn.tape, bn.output, bn.size, bn.block⟩; replace kz := kz.below ⟨bn.os, bn.tape, bn.output, bn.size, bn.block⟩; replace bb := Below.after bb ⟨bn.os, bn.tape, bn.output, bn.size, bn.block⟩) | (go_at_call 58; go_fit (H14.out _); rintro e wn ⟨rfl, bn⟩; replace ka := ka.below ⟨bn.os, bn.tape, bn.output, bn.size, bn.block⟩; replace kb := kb.below ⟨bn.os, bn.tape, bn.output, bn.size, bn.block⟩; replace kc := kc.below ⟨bn.os, bn.tape, bn.output, bn.size, bn.block⟩; replace kd := kd.below ⟨bn.os, bn.tape, bn.output, bn.size, bn.block⟩; replace ku := ku.below ⟨bn.os, bn.tape, bn.output, bn.size, bn.block⟩; replace kv := kv.below ⟨bn.os, bn.tape, bn.output, bn.size, bn.block⟩; replace kt := kt.below ⟨bn.os, bn.tape, bn.output, bn.size, bn.block⟩; replace kx := kx.below ⟨bn.os, bn.tape, bn.output, bn.size, bn.block⟩; replace ky := ky.below ⟨bn.os, bn.tape, bn.output, bn.size, bn.block⟩; replace kz := kz.below ⟨bn.os, bn.tape, bn.output, bn.size, bn.block⟩; replace bb := Below.after bb ⟨bn.os, bn.tape, bn.output, bn.size, bn.block⟩) | (go_at_call 15; go_fit (H15.out _); rintro e wn ⟨rfl, bn⟩; replace ka := ka.below ⟨bn.os, bn.tape, bn.output, bn.size, bn.block⟩; replace kb := kb.below ⟨bn.os, bn.tape, bn.output, bn.size, bn.block⟩; replace kc := kc.below ⟨bn.os, bn.tape, bn.output, bn.size, bn.block⟩; replace kd := kd.below ⟨bn.os, bn.tape, bn.output, bn.size, bn.block⟩; replace ku := ku.below ⟨bn.os, bn.tape, bn.output, bn.size, bn.block⟩; replace kv := kv.below ⟨bn.os, bn.tape, bn.output, bn.size, bn.block⟩; replace kt := kt.below ⟨bn.os, bn.tape, bn.output, bn.size, bn.block⟩; replace kx := kx.below ⟨bn.os, bn.tape, bn.output, bn.size, bn.block⟩; replace ky := ky.below ⟨bn.os, bn.tape, bn.output, bn.size, bn.block⟩; replace kz := kz.below ⟨bn.os, bn.tape, bn.output, bn.size, bn.block⟩; replace bb := Below.after bb ⟨bn.os, bn.tape, bn.output, bn.size, bn.block⟩) | (go_at_call 22; go_fit (H16.out _); rintro e wn ⟨rfl, bn⟩; replace ka := ka.below ⟨bn.os, bn.tape, bn.output, bn.size, bn.block⟩; replace kb := kb.below ⟨bn.os, bn.tape, bn.output, bn.size, bn.block⟩; replace kc := kc.below ⟨bn.os, bn.tape, bn.output, bn.size, bn.block⟩; replace kd := kd.below ⟨bn.os, bn.tape, bn.output, bn.size, bn.block⟩; replace ku := ku.below ⟨bn.os, bn.tape, bn.output, bn.size, bn.block⟩; replace kv := kv.below ⟨bn.os, bn.tape, bn.output, bn.size, bn.block⟩; replace kt := kt.below ⟨bn.os, bn.tape, bn.output, bn.size, bn.block⟩; replace kx := kx.below ⟨bn.os, bn.tape, bn.output, bn.size, bn.block⟩; replace ky := ky.below ⟨bn.os, bn.tape, bn.output, bn.size, bn.block⟩; replace kz := kz.below ⟨bn.os, bn.tape, bn.output, bn.size, bn.block⟩; replace bb := Below.after bb ⟨bn.os, bn.tape, bn.output, bn.size, bn.block⟩))
 go_wp2
 go_ret
 exact ⟨rfl, bb⟩
end Go.Proofs.YtgihiaaodkkkbaaGreatDoor
namespace Go.Proofs.YtgihiaaodkkkbaaGreatDoor
open Go.RowKit

theorem rorientI (x0 y0 x1 y1 x2 y2 : Rat) {K : Nat} (hK : K ≤ 100) (b0 : Bq x0 K) (e0 : Bq y0 K) (b1 : Bq x1 K) (e1 : Bq y1 K) (b2 : Bq x2 K) (e2 : Bq y2 K) (w : World) : Calls Tryz.prog 22 #[.agg #[.bool (nfZ (x0).num), .string (sfZ (x0).num), .string (strOf (x0).den), .bool (nfZ (y0).num), .string (sfZ (y0).num), .string (strOf (y0).den)], .agg #[.bool (nfZ (x1).num), .string (sfZ (x1).num), .string (strOf (x1).den), .bool (nfZ (y1).num), .string (sfZ (y1).num), .string (strOf (y1).den)], .agg #[.bool (nfZ (x2).num), .string (sfZ (x2).num), .string (strOf (x2).den), .bool (nfZ (y2).num), .string (sfZ (y2).num), .string (strOf (y2).den)]] w fun e w' => e = .returned (.int .i64 (Gm.sg (Gm.cr x0 y0 x1 y1 x2 y2))) ∧ Below w.heap.size w w' :=
 rorient_walk _ _ _ _ _ _ _ _ _ _ _ _ _ _ _ _ _ _ _ _ _ _ _ _ _ _ _ _ _ _ _ _ _ _ w (fun w1 => rminusP x1 y1 x0 y0 (K := K) (by omega) b1 e1 b0 e0 w1) (fun w1 => rminusP x2 y2 x0 y0 (K := K) (by omega) b2 e2 b0 e0 w1) (fun w1 => rcrossP (x1 - x0) (y1 - y0) (x2 - x0) (y2 - y0) (K := (K + K + 1)) (by omega) (vq_sub b1 b0) (vq_sub e1 e0) (vq_sub b2 b0) (vq_sub e2 e0) w1) (fun w1 => rsignI _ w1)
theorem sg_wneg (r : Rat) : IntKind.i64.wrap (-(Gm.sg r)) = -(Gm.sg r) := by
 rw [IntKind.wrap_i64]
 rcases sg_small r with h | h | h <;> rw [h] <;> rfl
theorem rdiscI (x0 y0 x1 y1 x2 y2 : Rat) {K : Nat} (hK : K ≤ 100) (b0 : Bq x0 K) (e0 : Bq y0 K) (b1 : Bq x1 K) (e1 : Bq y1 K) (b2 : Bq x2 K) (e2 : Bq y2 K) (w : World) : Calls Tryz.prog 23 #[.agg #[.bool (nfZ (x0).num), .string (sfZ (x0).num), .string (strOf (x0).den), .bool (nfZ (y0).num), .string (sfZ (y0).num), .string (strOf (y0).den)], .agg #[.bool (nfZ (x1).num), .string (sfZ (x1).num), .string (strOf (x1).den), .bool (nfZ (y1).num), .string (sfZ (y1).num), .string (strOf (y1).den)], .agg #[.bool (nfZ (x2).num), .string (sfZ (x2).num), .string (strOf (x2).den), .bool (nfZ (y2).num), .string (sfZ (y2).num), .string (strOf (y2).den)]] w fun e w' => e = .returned (.int .i64 (-(Gm.sg (Gm.dt x0 y0 x1 y1 x2 y2)))) ∧ Below w.heap.size w w' :=
 rdisc_walk _ _ _ _ _ _ _ _ _ _ _ _ _ _ _ _ _ _ _ _ _ _ _ _ _ _ _ _ _ _ _ _ _ _ w (sg_wneg _) (fun w1 => rminusP x0 y0 x2 y2 (K := K) (by omega) b0 e0 b2 e2 w1) (fun w1 => rminusP x1 y1 x2 y2 (K := K) (by omega) b1 e1 b2 e2 w1) (fun w1 => rdotP (x0 - x2) (y0 - y2) (x1 - x2) (y1 - y2) (K := (K + K + 1)) (by omega) (vq_sub b0 b2) (vq_sub e0 e2) (vq_sub b1 b2) (vq_sub e1 e2) w1) (fun w1 => rsignI _ w1)
theorem rcircleI (x0 y0 x1 y1 x2 y2 x3 y3 : Rat) {K : Nat} (hK : K ≤ 100) (b0 : Bq x0 K) (e0 : Bq y0 K) (b1 : Bq x1 K) (e1 : Bq y1 K) (b2 : Bq x2 K) (e2 : Bq y2 K) (b3 : Bq x3 K) (e3 : Bq y3 K) (w : World) : Calls Tryz.prog 24 #[.agg #[.bool (nfZ (x0).num), .string (sfZ (x0).num), .string (strOf (x0).den), .bool (nfZ (y0).num), .string (sfZ (y0).num), .string (strOf (y0).den)], .agg #[.bool (nfZ (x1).num), .string (sfZ (x1).num), .string (strOf (x1).den), .bool (nfZ (y1).num), .string (sfZ (y1).num), .string (strOf (y1).den)], .agg #[.bool (nfZ (x2).num), .string (sfZ (x2).num), .string (strOf (x2).den), .bool (nfZ (y2).num), .string (sfZ (y2).num), .string (strOf (y2).den)], .agg #[.bool (nfZ (x3).num), .string (sfZ (x3).num), .string (strOf (x3).den), .bool (nfZ (y3).num), .string (sfZ (y3).num), .string (strOf (y3).den)]] w fun e w' => e = .returned (.int .i64 (Gm.sg (Gm.ci x0 y0 x1 y1 x2 y2 x3 y3) * Gm.sg (Gm.cr x0 y0 x1 y1 x2 y2))) ∧ Below w.heap.size w w' := by
 refine rcircle_walk _ _ _ _ _ _ _ _ _ _ _ _ _ _ _ _ _ _ _ _ _ _ _ _ _ _ _ _ _ _ _ _ _ _ _ _ _ _ _ _ _ _ _ _ _ _ _ _ _ _ _ _ _ _ _ _ _ _ _ _ _ _ _ _ _ _ _ _ _ _ _ _ _ _ _ _ _ w (sg_wrap _ _) (fun w1 => rminusP x0 y0 x3 y3 (K := K) (by omega) b0 e0 b3 e3 w1) (fun w1 => rminusP x1 y1 x3 y3 (K := K) (by omega) b1 e1 b3 e3 w1) (fun w1 => rminusP x2 y2 x3 y3 (K := K) (by omega) b2 e2 b3 e3 w1) (fun w1 => rnormP (x0 - x3) (y0 - y3) (K := (K + K + 1)) (by omega) (vq_sub b0 b3) (vq_sub e0 e3) w1) (fun w1 => rcrossP (x1 - x3) (y1 - y3) (x2 - x3) (y2 - y3) (K := (K + K + 1)) (by omega) (vq_sub b1 b3) (vq_sub e1 e3) (vq_sub b2 b3) (vq_sub e2 e3) w1) (fun w1 => rtimesI _ _ (K := (((K + K + 1) + (K + K + 1) + 1) + ((K + K + 1) + (K + K + 1) + 1) + 1)) (by omega) (vq_add (vq_mul (vq_sub b0 b3) (vq_sub b0 b3)) (vq_mul (vq_sub e0 e3) (vq_sub e0 e3))) (vq_sub (vq_mul (vq_sub b1 b3) (vq_sub e2 e3)) (vq_mul (vq_sub e1 e3) (vq_sub b2 b3))) w1) (fun w1 => rnormP (x1 - x3) (y1 - y3) (K := (K + K + 1)) (by omega) (vq_sub b1 b3) (vq_sub e1 e3) w1) (fun w1 => rcrossP (x2 - x3) (y2 - y3) (x0 - x3) (y0 - y3) (K := (K + K + 1)) (by omega) (vq_sub b2 b3) (vq_sub e2 e3) (vq_sub b0 b3) (vq_sub e0 e3) w1) (fun w1 => rtimesI _ _ (K := (((K + K + 1) + (K + K + 1) + 1) + ((K + K + 1) + (K + K + 1) + 1) + 1)) (by omega) (vq_add (vq_mul (vq_sub b1 b3) (vq_sub b1 b3)) (vq_mul (vq_sub e1 e3) (vq_sub e1 e3))) (vq_sub (vq_mul (vq_sub b2 b3) (vq_sub e0 e3)) (vq_mul (vq_sub e2 e3) (vq_sub b0 b3))) w1) (fun w1 => rnormP (x2 - x3) (y2 - y3) (K := (K + K + 1)) (by omega) (vq_sub b2 b3) (vq_sub e2 e3) w1) (fun w1 => rcrossP (x0 - x3) (y0 - y3) (x1 - x3) (y1 - y3) (K := (K + K + 1)) (by omega) (vq_sub b0 b3) (vq_sub e0 e3) (vq_sub b1 b3) (vq_sub e1 e3) w1) (fun w1 => rtimesI _ _ (K := (((K + K + 1) + (K + K + 1) + 1) + ((K + K + 1) + (K + K + 1) + 1) + 1)) (by omega) (vq_add (vq_mul (vq_sub b2 b3) (vq_sub b2 b3)) (vq_mul (vq_sub e2 e3) (vq_sub e2 e3))) (vq_sub (vq_mul (vq_sub b0 b3) (vq_sub e1 e3)) (vq_mul (vq_sub e0 e3) (vq_sub b1 b3))) w1) (fun w1 => rsumI _ _ (K := ((((K + K + 1) + (K + K + 1) + 1) + ((K + K + 1) + (K + K + 1) + 1) + 1) + (((K + K + 1) + (K + K + 1) + 1) + ((K + K + 1) + (K + K + 1) + 1) + 1) + 1)) (by omega) (vq_mul (vq_add (vq_mul (vq_sub b0 b3) (vq_sub b0 b3)) (vq_mul (vq_sub e0 e3) (vq_sub e0 e3))) (vq_sub (vq_mul (vq_sub b1 b3) (vq_sub e2 e3)) (vq_mul (vq_sub e1 e3) (vq_sub b2 b3)))) (vq_mul (vq_add (vq_mul (vq_sub b1 b3) (vq_sub b1 b3)) (vq_mul (vq_sub e1 e3) (vq_sub e1 e3))) (vq_sub (vq_mul (vq_sub b2 b3) (vq_sub e0 e3)) (vq_mul (vq_sub e2 e3) (vq_sub b0 b3)))) w1) (fun w1 => rsumI _ _ (K := (((((K + K + 1) + (K + K + 1) + 1) + ((K + K + 1) + (K + K + 1) + 1) + 1) + (((K + K + 1) + (K + K + 1) + 1) + ((K + K + 1) + (K + K + 1) + 1) + 1) + 1) + ((((K + K + 1) + (K + K + 1) + 1) + ((K + K + 1) + (K + K + 1) + 1) + 1) + (((K + K + 1) + (K + K + 1) + 1) + ((K + K + 1) + (K + K + 1) + 1) + 1) + 1) + 1)) (by omega) (vq_add (vq_mul (vq_add (vq_mul (vq_sub b0 b3) (vq_sub b0 b3)) (vq_mul (vq_sub e0 e3) (vq_sub e0 e3))) (vq_sub (vq_mul (vq_sub b1 b3) (vq_sub e2 e3)) (vq_mul (vq_sub e1 e3) (vq_sub b2 b3)))) (vq_mul (vq_add (vq_mul (vq_sub b1 b3) (vq_sub b1 b3)) (vq_mul (vq_sub e1 e3) (vq_sub e1 e3))) (vq_sub (vq_mul (vq_sub b2 b3) (vq_sub e0 e3)) (vq_mul (vq_sub e2 e3) (vq_sub b0 b3))))) ((vq_mul (vq_add (vq_mul (vq_sub b2 b3) (vq_sub b2 b3)) (vq_mul (vq_sub e2 e3) (vq_sub e2 e3))) (vq_sub (vq_mul (vq_sub b0 b3) (vq_sub e1 e3)) (vq_mul (vq_sub e0 e3) (vq_sub b1 b3)))).mono (by omega)) w1) (fun w1 => ?_) (fun w1 => rorientI x0 y0 x1 y1 x2 y2 hK b0 e0 b1 e1 b2 e2 w1)
 exact rsignI _ w1
theorem okq_form {n : Bool} {s d : ByteArray} (o : OkQ n s d) : ∃ x : Rat, n = nfZ x.num ∧ s = sfZ x.num ∧ d = strOf x.den := by
 have h : nfZ (qOf n s d).num = n ∧ sfZ (qOf n s d).num = s ∧ strOf (qOf n s d).den = d := o.parts
 exact ⟨qOf n s d, h.1.symm, h.2.1.symm, h.2.2.symm⟩
theorem qOf_one (x : Rat) : qOf (nfZ x.num) (sfZ x.num) (strOf x.den) = x := qOf_qI x
end Go.Proofs.YtgihiaaodkkkbaaGreatDoor
