/-
  Package geom: how two segments meet.
  Package geom: Orient, Disc, Circle, Meet of any points of at most 100 bytes.
-/
import Derived.Test.YtgihiaaodkkkbaaGreatDoorK54
namespace Go.Proofs.YtgihiaaodkkkbaaGreatDoor
open Go.RowKit

/-- What is told of two segments, by signs. -/
def mt (C D A B tC tD tA tB : Int) : Int := if 0 < C * D then 0 else if (C = 0 ∧ 0 ≤ tC) ∨ (D = 0 ∧ 0 ≤ tD) ∨ (A = 0 ∧ 0 ≤ tA) ∨ (B = 0 ∧ 0 ≤ tB) then 2 else if C * D < 0 ∧ A * B < 0 then 1 else 0
set_option maxRecDepth 100000 in
set_option maxHeartbeats 32000000 in
theorem meeting_walk (n0 n1 n2 n3 n4 n5 n6 n7 : Bool) (s0 d0 s1 d1 s2 d2 s3 d3 s4 d4 s5 d5 s6 d6 s7 d7 : ByteArray) (C D A B tC tD tA tB : Int) (w : World) (w1 : IntKind.i64.wrap (C * D) = C * D) (w2 : IntKind.i64.wrap (A * B) = A * B)
  (H1 : Hid (∀ w1, Calls Tryz.prog 48 #[.agg #[.bool n0, .string s0, .string d0, .bool n1, .string s1, .string d1], .agg #[.bool n2, .string s2, .string d2, .bool n3, .string s3, .string d3], .agg #[.bool n4, .string s4, .string d4, .bool n5, .string s5, .string d5]] w1 fun e w' => e = .returned (.int .i64 (C)) ∧ Below w1.heap.size w1 w'))
  (H2 : Hid (∀ w1, Calls Tryz.prog 48 #[.agg #[.bool n0, .string s0, .string d0, .bool n1, .string s1, .string d1], .agg #[.bool n2, .string s2, .string d2, .bool n3, .string s3, .string d3], .agg #[.bool n6, .string s6, .string d6, .bool n7, .string s7, .string d7]] w1 fun e w' => e = .returned (.int .i64 (D)) ∧ Below w1.heap.size w1 w'))
  (H3 : Hid (∀ w1, Calls Tryz.prog 48 #[.agg #[.bool n4, .string s4, .string d4, .bool n5, .string s5, .string d5], .agg #[.bool n6, .string s6, .string d6, .bool n7, .string s7, .string d7], .agg #[.bool n0, .string s0, .string d0, .bool n1, .string s1, .string d1]] w1 fun e w' => e = .returned (.int .i64 (A)) ∧ Below w1.heap.size w1 w'))
  (H4 : Hid (∀ w1, Calls Tryz.prog 48 #[.agg #[.bool n4, .string s4, .string d4, .bool n5, .string s5, .string d5], .agg #[.bool n6, .string s6, .string d6, .bool n7, .string s7, .string d7], .agg #[.bool n2, .string s2, .string d2, .bool n3, .string s3, .string d3]] w1 fun e w' => e = .returned (.int .i64 (B)) ∧ Below w1.heap.size w1 w'))
  (A1 : Hid (∀ w1, Calls Tryz.prog 49 #[.agg #[.bool n0, .string s0, .string d0, .bool n1, .string s1, .string d1], .agg #[.bool n2, .string s2, .string d2, .bool n3, .string s3, .string d3], .agg #[.bool n4, .string s4, .string d4, .bool n5, .string s5, .string d5]] w1 fun e w' => e = .returned (.int .i64 (tC)) ∧ Below w1.heap.size w1 w'))
  (A2 : Hid (∀ w1, Calls Tryz.prog 49 #[.agg #[.bool n0, .string s0, .string d0, .bool n1, .string s1, .string d1], .agg #[.bool n2, .string s2, .string d2, .bool n3, .string s3, .string d3], .agg #[.bool n6, .string s6, .string d6, .bool n7, .string s7, .string d7]] w1 fun e w' => e = .returned (.int .i64 (tD)) ∧ Below w1.heap.size w1 w'))
  (A3 : Hid (∀ w1, Calls Tryz.prog 49 #[.agg #[.bool n4, .string s4, .string d4, .bool n5, .string s5, .string d5], .agg #[.bool n6, .string s6, .string d6, .bool n7, .string s7, .string d7], .agg #[.bool n0, .string s0, .string d0, .bool n1, .string s1, .string d1]] w1 fun e w' => e = .returned (.int .i64 (tA)) ∧ Below w1.heap.size w1 w'))
  (A4 : Hid (∀ w1, Calls Tryz.prog 49 #[.agg #[.bool n4, .string s4, .string d4, .bool n5, .string s5, .string d5], .agg #[.bool n6, .string s6, .string d6, .bool n7, .string s7, .string d7], .agg #[.bool n2, .string s2, .string d2, .bool n3, .string s3, .string d3]] w1 fun e w' => e = .returned (.int .i64 (tB)) ∧ Below w1.heap.size w1 w')) :
  Calls Tryz.prog 59 #[.agg #[.bool n0, .string s0, .string d0, .bool n1, .string s1, .string d1], .agg #[.bool n2, .string s2, .string d2, .bool n3, .string s3, .string d3], .agg #[.bool n4, .string s4, .string d4, .bool n5, .string s5, .string d5], .agg #[.bool n6, .string s6, .string d6, .bool n7, .string s7, .string d7]] w fun e w' => e = .returned (.int .i64 (mt C D A B tC tD tA tB)) ∧ Below w.heap.size w w' := by
 obtain ⟨R, hR⟩ : ∃ R, R = mt C D A B tC tD tA tB := ⟨_, rfl⟩
 rw [← hR]
 replace hR := shut hR
 go_enter Tryz.func59, Tryz.ntmps59
 go_wp2_with fail
 obtain ⟨w0, hw, ka, kb, kc, kd, bb⟩ := mk4 w [.bool n0, .string s0, .string d0, .bool n1, .string s1, .string d1] [.bool n2, .string s2, .string d2, .bool n3, .string s3, .string d3] [.bool n4, .string s4, .string d4, .bool n5, .string s5, .string d5] [.bool n6, .string s6, .string d6, .bool n7, .string s7, .string d7] 39 39 39 39
 rw [← hw]
 clear hw
 have mkS : Hid (∀ w', Cel w' (w.heap.size) [.bool n0, .string s0, .string d0, .bool n1, .string s1, .string d1] 39 → Cel w' (w.heap.size + 1) [.bool n2, .string s2, .string d2, .bool n3, .string s3, .string d3] 39 → Cel w' (w.heap.size + 1 + 1) [.bool n4, .string s4, .string d4, .bool n5, .string s5, .string d5] 39 → Cel w' (w.heap.size + 1 + 1 + 1) [.bool n6, .string s6, .string d6, .bool n7, .string s7, .string d7] 39 → (w'.cell? ⟨w.heap.size, 0, none⟩ = some (.bool n0) ∧ w'.cell? ⟨w.heap.size, 1, none⟩ = some (.string s0) ∧ w'.cell? ⟨w.heap.size, 2, none⟩ = some (.string d0) ∧ w'.cell? ⟨w.heap.size, 3, none⟩ = some (.bool n1) ∧ w'.cell? ⟨w.heap.size, 4, none⟩ = some (.string s1) ∧ w'.cell? ⟨w.heap.size, 5, none⟩ = some (.string d1) ∧ w'.cell? ⟨w.heap.size + 1, 0, none⟩ = some (.bool n2) ∧ w'.cell? ⟨w.heap.size + 1, 1, none⟩ = some (.string s2) ∧ w'.cell? ⟨w.heap.size + 1, 2, none⟩ = some (.string d2) ∧ w'.cell? ⟨w.heap.size + 1, 3, none⟩ = some (.bool n3) ∧ w'.cell? ⟨w.heap.size + 1, 4, none⟩ = some (.string s3) ∧ w'.cell? ⟨w.heap.size + 1, 5, none⟩ = some (.string d3) ∧ w'.cell? ⟨w.heap.size + 1 + 1, 0, none⟩ = some (.bool n4) ∧ w'.cell? ⟨w.heap.size + 1 + 1, 1, none⟩ = some (.string s4) ∧ w'.cell? ⟨w.heap.size + 1 + 1, 2, none⟩ = some (.string d4) ∧ w'.cell? ⟨w.heap.size + 1 + 1, 3, none⟩ = some (.bool n5) ∧ w'.cell? ⟨w.heap.size + 1 + 1, 4, none⟩ = some (.string s5) ∧ w'.cell? ⟨w.heap.size + 1 + 1, 5, none⟩ = some (.string d5) ∧ w'.cell? ⟨w.heap.size + 1 + 1 + 1, 0, none⟩ = some (.bool n6) ∧ w'.cell? ⟨w.heap.size + 1 + 1 + 1, 1, none⟩ = some (.string s6) ∧ w'.cell? ⟨w.heap.size + 1 + 1 + 1, 2, none⟩ = some (.string d6) ∧ w'.cell? ⟨w.heap.size + 1 + 1 + 1, 3, none⟩ = some (.bool n7) ∧ w'.cell? ⟨w.heap.size + 1 + 1 + 1, 4, none⟩ = some (.string s7) ∧ w'.cell? ⟨w.heap.size + 1 + 1 + 1, 5, none⟩ = some (.string d7))) := fun w' ha hb hc hd => ⟨cel6_0 ha, cel6_1 ha, cel6_2 ha, cel6_3 ha, cel6_4 ha, cel6_5 ha, cel6_0 hb, cel6_1 hb, cel6_2 hb, cel6_3 hb, cel6_4 hb, cel6_5 hb, cel6_0 hc, cel6_1 hc, cel6_2 hc, cel6_3 hc, cel6_4 hc, cel6_5 hc, cel6_0 hd, cel6_1 hd, cel6_2 hd, cel6_3 hd, cel6_4 hd, cel6_5 hd⟩
 go_region_held3 (fun w' => w'.cell? ⟨w.heap.size, 0, none⟩ = some (.bool n0) ∧ w'.cell? ⟨w.heap.size, 1, none⟩ = some (.string s0) ∧ w'.cell? ⟨w.heap.size, 2, none⟩ = some (.string d0) ∧ w'.cell? ⟨w.heap.size, 3, none⟩ = some (.bool n1) ∧ w'.cell? ⟨w.heap.size, 4, none⟩ = some (.string s1) ∧ w'.cell? ⟨w.heap.size, 5, none⟩ = some (.string d1) ∧ w'.cell? ⟨w.heap.size + 1, 0, none⟩ = some (.bool n2) ∧ w'.cell? ⟨w.heap.size + 1, 1, none⟩ = some (.string s2) ∧ w'.cell? ⟨w.heap.size + 1, 2, none⟩ = some (.string d2) ∧ w'.cell? ⟨w.heap.size + 1, 3, none⟩ = some (.bool n3) ∧ w'.cell? ⟨w.heap.size + 1, 4, none⟩ = some (.string s3) ∧ w'.cell? ⟨w.heap.size + 1, 5, none⟩ = some (.string d3) ∧ w'.cell? ⟨w.heap.size + 1 + 1, 0, none⟩ = some (.bool n4) ∧ w'.cell? ⟨w.heap.size + 1 + 1, 1, none⟩ = some (.string s4) ∧ w'.cell? ⟨w.heap.size + 1 + 1, 2, none⟩ = some (.string d4) ∧ w'.cell? ⟨w.heap.size + 1 + 1, 3, none⟩ = some (.bool n5) ∧ w'.cell? ⟨w.heap.size + 1 + 1, 4, none⟩ = some (.string s5) ∧ w'.cell? ⟨w.heap.size + 1 + 1, 5, none⟩ = some (.string d5) ∧ w'.cell? ⟨w.heap.size + 1 + 1 + 1, 0, none⟩ = some (.bool n6) ∧ w'.cell? ⟨w.heap.size + 1 + 1 + 1, 1, none⟩ = some (.string s6) ∧ w'.cell? ⟨w.heap.size + 1 + 1 + 1, 2, none⟩ = some (.string d6) ∧ w'.cell? ⟨w.heap.size + 1 + 1 + 1, 3, none⟩ = some (.bool n7) ∧ w'.cell? ⟨w.heap.size + 1 + 1 + 1, 4, none⟩ = some (.string s7) ∧ w'.cell? ⟨w.heap.size + 1 + 1 + 1, 5, none⟩ = some (.string d7)) (first | with_reducible exact mkS.out _ ka kb kc kd | exact mkS.out _ ka kb kc kd) (first | (go_at_call 48; go_fit (H1.out _); rintro e wn ⟨rfl, bn⟩; replace ka := ka.below ⟨bn.os, bn.tape, bn.output, bn.size, bn.block⟩; replace kb := kb.below ⟨bn.os, bn.tape, bn.output, bn.size, bn.block⟩; replace kc := kc.below ⟨bn.os, bn.tape, bn.output, bn.size, bn.block⟩; replace kd := kd.below ⟨bn.os, bn.tape, bn.output, bn.size, bn.block⟩; replace bb := Below.after bb ⟨bn.os, bn.tape, bn.output, bn.size, bn.block⟩) | (go_at_call 48; go_fit (H2.out _); rintro e wn ⟨rfl, bn⟩; replace ka := ka.below ⟨bn.os, bn.tape, bn.output, bn.size, bn.block⟩; replace kb := kb.below ⟨bn.os, bn.tape, bn.output, bn.size, bn.block⟩; replace kc := kc.below ⟨bn.os, bn.tape, bn.output, bn.size, bn.block⟩; replace kd := kd.below ⟨bn.os, bn.tape, bn.output, bn.size, bn.block⟩; replace bb := Below.after bb ⟨bn.os, bn.tape, bn.output, bn.size, bn.block⟩))
 clear mkS
 by_cases h0 : 0 < C * D
 ·have G0 := shut h0
  go_wp2
  go_ret
  exact ⟨by rw [hR.out, show mt C D A B tC tD tA tB = 0 from by unfold mt; exact if_pos (by have := G0.out; omega)]; rfl, bb⟩
 have G0 := shut h0
 go_wp2_with fail
 have mkS : Hid (∀ w', Cel w' (w.heap.size) [.bool n0, .string s0, .string d0, .bool n1, .string s1, .string d1] 39 → Cel w' (w.heap.size + 1) [.bool n2, .string s2, .string d2, .bool n3, .string s3, .string d3] 39 → Cel w' (w.heap.size + 1 + 1) [.bool n4, .string s4, .string d4, .bool n5, .string s5, .string d5] 39 → Cel w' (w.heap.size + 1 + 1 + 1) [.bool n6, .string s6, .string d6, .bool n7, .string s7, .string d7] 39 → (w'.cell? ⟨w.heap.size, 0, none⟩ = some (.bool n0) ∧ w'.cell? ⟨w.heap.size, 1, none⟩ = some (.string s0) ∧ w'.cell? ⟨w.heap.size, 2, none⟩ = some (.string d0) ∧ w'.cell? ⟨w.heap.size, 3, none⟩ = some (.bool n1) ∧ w'.cell? ⟨w.heap.size, 4, none⟩ = some (.string s1) ∧ w'.cell? ⟨w.heap.size, 5, none⟩ = some (.string d1) ∧ w'.cell? ⟨w.heap.size + 1, 0, none⟩ = some (.bool n2) ∧ w'.cell? ⟨w.heap.size + 1, 1, none⟩ = some (.string s2) ∧ w'.cell? ⟨w.heap.size + 1, 2, none⟩ = some (.string d2) ∧ w'.cell? ⟨w.heap.size + 1, 3, none⟩ = some (.bool n3) ∧ w'.cell? ⟨w.heap.size + 1, 4, none⟩ = some (.string s3) ∧ w'.cell? ⟨w.heap.size + 1, 5, none⟩ = some (.string d3) ∧ w'.cell? ⟨w.heap.size + 1 + 1, 0, none⟩ = some (.bool n4) ∧ w'.cell? ⟨w.heap.size + 1 + 1, 1, none⟩ = some (.string s4) ∧ w'.cell? ⟨w.heap.size + 1 + 1, 2, none⟩ = some (.string d4) ∧ w'.cell? ⟨w.heap.size + 1 + 1, 3, none⟩ = some (.bool n5) ∧ w'.cell? ⟨w.heap.size + 1 + 1, 4, none⟩ = some (.string s5) ∧ w'.cell? ⟨w.heap.size + 1 + 1, 5, none⟩ = some (.string d5) ∧ w'.cell? ⟨w.heap.size + 1 + 1 + 1, 0, none⟩ = some (.bool n6) ∧ w'.cell? ⟨w.heap.size + 1 + 1 + 1, 1, none⟩ = some (.string s6) ∧ w'.cell? ⟨w.heap.size + 1 + 1 + 1, 2, none⟩ = some (.string d6) ∧ w'.cell? ⟨w.heap.size + 1 + 1 + 1, 3, none⟩ = some (.bool n7) ∧ w'.cell? ⟨w.heap.size + 1 + 1 + 1, 4, none⟩ = some (.string s7) ∧ w'.cell? ⟨w.heap.size + 1 + 1 + 1, 5, none⟩ = some (.string d7))) := fun w' ha hb hc hd => ⟨cel6_0 ha, cel6_1 ha, cel6_2 ha, cel6_3 ha, cel6_4 ha, cel6_5 ha, cel6_0 hb, cel6_1 hb, cel6_2 hb, cel6_3 hb, cel6_4 hb, cel6_5 hb, cel6_0 hc, cel6_1 hc, cel6_2 hc, cel6_3 hc, cel6_4 hc, cel6_5 hc, cel6_0 hd, cel6_1 hd, cel6_2 hd, cel6_3 hd, cel6_4 hd, cel6_5 hd⟩
 go_region_held3 (fun w' => w'.cell? ⟨w.heap.size, 0, none⟩ = some (.bool n0) ∧ w'.cell? ⟨w.heap.size, 1, none⟩ = some (.string s0) ∧ w'.cell? ⟨w.heap.size, 2, none⟩ = some (.string d0) ∧ w'.cell? ⟨w.heap.size, 3, none⟩ = some (.bool n1) ∧ w'.cell? ⟨w.heap.size, 4, none⟩ = some (.string s1) ∧ w'.cell? ⟨w.heap.size, 5, none⟩ = some (.string d1) ∧ w'.cell? ⟨w.heap.size + 1, 0, none⟩ = some (.bool n2) ∧ w'.cell? ⟨w.heap.size + 1, 1, none⟩ = some (.string s2) ∧ w'.cell? ⟨w.heap.size + 1, 2, none⟩ = some (.string d2) ∧ w'.cell? ⟨w.heap.size + 1, 3, none⟩ = some (.bool n3) ∧ w'.cell? ⟨w.heap.size + 1, 4, none⟩ = some (.string s3) ∧ w'.cell? ⟨w.heap.size + 1, 5, none⟩ = some (.string d3) ∧ w'.cell? ⟨w.heap.size + 1 + 1, 0, none⟩ = some (.bool n4) ∧ w'.cell? ⟨w.heap.size + 1 + 1, 1, none⟩ = some (.string s4) ∧ w'.cell? ⟨w.heap.size + 1 + 1, 2, none⟩ = some (.string d4) ∧ w'.cell? ⟨w.heap.size + 1 + 1, 3, none⟩ = some (.bool n5) ∧ w'.cell? ⟨w.heap.size + 1 + 1, 4, none⟩ = some (.string s5) ∧ w'.cell? ⟨w.heap.size + 1 + 1, 5, none⟩ = some (.string d5) ∧ w'.cell? ⟨w.heap.size + 1 + 1 + 1, 0, none⟩ = some (.bool n6) ∧ w'.cell? ⟨w.heap.size + 1 + 1 + 1, 1, none⟩ = some (.string s6) ∧ w'.cell? ⟨w.heap.size + 1 + 1 + 1, 2, none⟩ = some (.string d6) ∧ w'.cell? ⟨w.heap.size + 1 + 1 + 1, 3, none⟩ = some (.bool n7) ∧ w'.cell? ⟨w.heap.size + 1 + 1 + 1, 4, none⟩ = some (.string s7) ∧ w'.cell? ⟨w.heap.size + 1 + 1 + 1, 5, none⟩ = some (.string d7)) (first | with_reducible exact mkS.out _ ka kb kc kd | exact mkS.out _ ka kb kc kd) (first | (go_at_call 48; go_fit (H3.out _); rintro e wn ⟨rfl, bn⟩; replace ka := ka.below ⟨bn.os, bn.tape, bn.output, bn.size, bn.block⟩; replace kb := kb.below ⟨bn.os, bn.tape, bn.output, bn.size, bn.block⟩; replace kc := kc.below ⟨bn.os, bn.tape, bn.output, bn.size, bn.block⟩; replace kd := kd.below ⟨bn.os, bn.tape, bn.output, bn.size, bn.block⟩; replace bb := Below.after bb ⟨bn.os, bn.tape, bn.output, bn.size, bn.block⟩) | (go_at_call 48; go_fit (H4.out _); rintro e wn ⟨rfl, bn⟩; replace ka := ka.below ⟨bn.os, bn.tape, bn.output, bn.size, bn.block⟩; replace kb := kb.below ⟨bn.os, bn.tape, bn.output, bn.size, bn.block⟩; replace kc := kc.below ⟨bn.os, bn.tape, bn.output, bn.size, bn.block⟩; replace kd := kd.below ⟨bn.os, bn.tape, bn.output, bn.size, bn.block⟩; replace bb := Below.after bb ⟨bn.os, bn.tape, bn.output, bn.size, bn.block⟩))
 clear mkS
 by_cases e0 : C = 0
 ·have E0 := shut e0
  have ca0 := cel6_0 ka
  have ca1 := cel6_1 ka
  have ca2 := cel6_2 ka
  have ca3 := cel6_3 ka
  have ca4 := cel6_4 ka
  have ca5 := cel6_5 ka
  have cb0 := cel6_0 kb
  have cb1 := cel6_1 kb
  have cb2 := cel6_2 kb
  have cb3 := cel6_3 kb
  have cb4 := cel6_4 kb
  have cb5 := cel6_5 kb
  have cc0 := cel6_0 kc
  have cc1 := cel6_1 kc
  have cc2 := cel6_2 kc
  have cc3 := cel6_3 kc
  have cc4 := cel6_4 kc
  have cc5 := cel6_5 kc
  go_wp2_with fail
  go_fit (A1.out _)
  rintro e y0 ⟨rfl, b1⟩
  replace ka := ka.below b1
  replace kb := kb.below b1
  replace kc := kc.below b1
  replace kd := kd.below b1
  replace bb := Below.after bb b1
  clear b1
  clear ca0 ca1 ca2 ca3 ca4 ca5 cb0 cb1 cb2 cb3 cb4 cb5 cc0 cc1 cc2 cc3 cc4 cc5
  by_cases f0 : 0 ≤ tC
  ·have F0 := shut f0
   go_wp2
   go_ret
   exact ⟨by rw [hR.out, show mt C D A B tC tD tA tB = 2 from by have g0 := E0.out; have g1 := F0.out; unfold mt; rw [if_neg (by have := G0.out; omega)]; exact if_pos (by omega)]; rfl, bb⟩
  have F0 := shut f0
  by_cases e1 : D = 0
  ·have E1 := shut e1
   have ca0 := cel6_0 ka
   have ca1 := cel6_1 ka
   have ca2 := cel6_2 ka
   have ca3 := cel6_3 ka
   have ca4 := cel6_4 ka
   have ca5 := cel6_5 ka
   have cb0 := cel6_0 kb
   have cb1 := cel6_1 kb
   have cb2 := cel6_2 kb
   have cb3 := cel6_3 kb
   have cb4 := cel6_4 kb
   have cb5 := cel6_5 kb
   have cd0 := cel6_0 kd
   have cd1 := cel6_1 kd
   have cd2 := cel6_2 kd
   have cd3 := cel6_3 kd
   have cd4 := cel6_4 kd
   have cd5 := cel6_5 kd
   go_wp2_with fail
   go_fit (A2.out _)
   rintro e y1 ⟨rfl, b1⟩
   replace ka := ka.below b1
   replace kb := kb.below b1
   replace kc := kc.below b1
   replace kd := kd.below b1
   replace bb := Below.after bb b1
   clear b1
   clear ca0 ca1 ca2 ca3 ca4 ca5 cb0 cb1 cb2 cb3 cb4 cb5 cd0 cd1 cd2 cd3 cd4 cd5
   by_cases f1 : 0 ≤ tD
   ·have F1 := shut f1
    go_wp2
    go_ret
    exact ⟨by rw [hR.out, show mt C D A B tC tD tA tB = 2 from by have g0 := F0.out; have g1 := E1.out; have g2 := F1.out; unfold mt; rw [if_neg (by have := G0.out; omega)]; exact if_pos (by omega)]; rfl, bb⟩
   have F1 := shut f1
   by_cases e2 : A = 0
   ·have E2 := shut e2
    have cc0 := cel6_0 kc
    have cc1 := cel6_1 kc
    have cc2 := cel6_2 kc
    have cc3 := cel6_3 kc
    have cc4 := cel6_4 kc
    have cc5 := cel6_5 kc
    have cd0 := cel6_0 kd
    have cd1 := cel6_1 kd
    have cd2 := cel6_2 kd
    have cd3 := cel6_3 kd
    have cd4 := cel6_4 kd
    have cd5 := cel6_5 kd
    have ca0 := cel6_0 ka
    have ca1 := cel6_1 ka
    have ca2 := cel6_2 ka
    have ca3 := cel6_3 ka
    have ca4 := cel6_4 ka
    have ca5 := cel6_5 ka
    go_wp2_with fail
    go_fit (A3.out _)
    rintro e y2 ⟨rfl, b1⟩
    replace ka := ka.below b1
    replace kb := kb.below b1
    replace kc := kc.below b1
    replace kd := kd.below b1
    replace bb := Below.after bb b1
    clear b1
    clear cc0 cc1 cc2 cc3 cc4 cc5 cd0 cd1 cd2 cd3 cd4 cd5 ca0 ca1 ca2 ca3 ca4 ca5
    by_cases f2 : 0 ≤ tA
    ·have F2 := shut f2
     go_wp2
     go_ret
     exact ⟨by rw [hR.out, show mt C D A B tC tD tA tB = 2 from by have g0 := F0.out; have g1 := F1.out; have g2 := E2.out; have g3 := F2.out; unfold mt; rw [if_neg (by have := G0.out; omega)]; exact if_pos (by omega)]; rfl, bb⟩
    have F2 := shut f2
    by_cases e3 : B = 0
    ·have E3 := shut e3
     have cc0 := cel6_0 kc
     have cc1 := cel6_1 kc
     have cc2 := cel6_2 kc
     have cc3 := cel6_3 kc
     have cc4 := cel6_4 kc
     have cc5 := cel6_5 kc
     have cd0 := cel6_0 kd
     have cd1 := cel6_1 kd
     have cd2 := cel6_2 kd
     have cd3 := cel6_3 kd
     have cd4 := cel6_4 kd
     have cd5 := cel6_5 kd
     have cb0 := cel6_0 kb
     have cb1 := cel6_1 kb
     have cb2 := cel6_2 kb
     have cb3 := cel6_3 kb
     have cb4 := cel6_4 kb
     have cb5 := cel6_5 kb
     go_wp2_with fail
     go_fit (A4.out _)
     rintro e y3 ⟨rfl, b1⟩
     replace ka := ka.below b1
     replace kb := kb.below b1
     replace kc := kc.below b1
     replace kd := kd.below b1
     replace bb := Below.after bb b1
     clear b1
     clear cc0 cc1 cc2 cc3 cc4 cc5 cd0 cd1 cd2 cd3 cd4 cd5 cb0 cb1 cb2 cb3 cb4 cb5
     by_cases f3 : 0 ≤ tB
     ·have F3 := shut f3
      go_wp2
      go_ret
      exact ⟨by rw [hR.out, show mt C D A B tC tD tA tB = 2 from by have g0 := F0.out; have g1 := F1.out; have g2 := F2.out; have g3 := E3.out; have g4 := F3.out; unfold mt; rw [if_neg (by have := G0.out; omega)]; exact if_pos (by omega)]; rfl, bb⟩
     have F3 := shut f3
     have X1 : Hid (¬ C * D < 0) := by show ¬ C * D < 0; rw [E0.out, Int.zero_mul]; omega
     go_wp2
     go_ret
     exact ⟨by rw [hR.out, show mt C D A B tC tD tA tB = 0 from by have g0 := F0.out; have g1 := F1.out; have g2 := F2.out; have g3 := F3.out; have x1 := X1.out; unfold mt; rw [if_neg (by have := G0.out; omega), if_neg (by omega)]; exact if_neg (by omega)]; rfl, bb⟩
    have E3 := shut e3
    have X1 : Hid (¬ C * D < 0) := by show ¬ C * D < 0; rw [E0.out, Int.zero_mul]; omega
    go_wp2
    go_ret
    exact ⟨by rw [hR.out, show mt C D A B tC tD tA tB = 0 from by have g0 := F0.out; have g1 := F1.out; have g2 := F2.out; have g3 := E3.out; have x1 := X1.out; unfold mt; rw [if_neg (by have := G0.out; omega), if_neg (by omega)]; exact if_neg (by omega)]; rfl, bb⟩
   have E2 := shut e2
   by_cases e3 : B = 0
   ·have E3 := shut e3
    have cc0 := cel6_0 kc
    have cc1 := cel6_1 kc
    have cc2 := cel6_2 kc
    have cc3 := cel6_3 kc
    have cc4 := cel6_4 kc
    have cc5 := cel6_5 kc
    have cd0 := cel6_0 kd
    have cd1 := cel6_1 kd
    have cd2 := cel6_2 kd
    have cd3 := cel6_3 kd
    have cd4 := cel6_4 kd
    have cd5 := cel6_5 kd
    have cb0 := cel6_0 kb
    have cb1 := cel6_1 kb
    have cb2 := cel6_2 kb
    have cb3 := cel6_3 kb
    have cb4 := cel6_4 kb
    have cb5 := cel6_5 kb
    go_wp2_with fail
    go_fit (A4.out _)
    rintro e y3 ⟨rfl, b1⟩
    replace ka := ka.below b1
    replace kb := kb.below b1
    replace kc := kc.below b1
    replace kd := kd.below b1
    replace bb := Below.after bb b1
    clear b1
    clear cc0 cc1 cc2 cc3 cc4 cc5 cd0 cd1 cd2 cd3 cd4 cd5 cb0 cb1 cb2 cb3 cb4 cb5
    by_cases f3 : 0 ≤ tB
    ·have F3 := shut f3
     go_wp2
     go_ret
     exact ⟨by rw [hR.out, show mt C D A B tC tD tA tB = 2 from by have g0 := F0.out; have g1 := F1.out; have g2 := E2.out; have g3 := E3.out; have g4 := F3.out; unfold mt; rw [if_neg (by have := G0.out; omega)]; exact if_pos (by omega)]; rfl, bb⟩
    have F3 := shut f3
    have X1 : Hid (¬ C * D < 0) := by show ¬ C * D < 0; rw [E0.out, Int.zero_mul]; omega
    go_wp2
    go_ret
    exact ⟨by rw [hR.out, show mt C D A B tC tD tA tB = 0 from by have g0 := F0.out; have g1 := F1.out; have g2 := E2.out; have g3 := F3.out; have x1 := X1.out; unfold mt; rw [if_neg (by have := G0.out; omega), if_neg (by omega)]; exact if_neg (by omega)]; rfl, bb⟩
   have E3 := shut e3
   have X1 : Hid (¬ C * D < 0) := by show ¬ C * D < 0; rw [E0.out, Int.zero_mul]; omega
   go_wp2
   go_ret
   exact ⟨by rw [hR.out, show mt C D A B tC tD tA tB = 0 from by have g0 := F0.out; have g1 := F1.out; have g2 := E2.out; have g3 := E3.out; have x1 := X1.out; unfold mt; rw [if_neg (by have := G0.out; omega), if_neg (by omega)]; exact if_neg (by omega)]; rfl, bb⟩
  have E1 := shut e1
  by_cases e2 : A = 0
  ·have E2 := shut e2
   have cc0 := cel6_0 kc
   have cc1 := cel6_1 kc
   have cc2 := cel6_2 kc
   have cc3 := cel6_3 kc
   have cc4 := cel6_4 kc
   have cc5 := cel6_5 kc
   have cd0 := cel6_0 kd
   have cd1 := cel6_1 kd
   have cd2 := cel6_2 kd
   have cd3 := cel6_3 kd
   have cd4 := cel6_4 kd
   have cd5 := cel6_5 kd
   have ca0 := cel6_0 ka
   have ca1 := cel6_1 ka
   have ca2 := cel6_2 ka
   have ca3 := cel6_3 ka
   have ca4 := cel6_4 ka
   have ca5 := cel6_5 ka
   go_wp2_with fail
   go_fit (A3.out _)
   rintro e y2 ⟨rfl, b1⟩
   replace ka := ka.below b1
   replace kb := kb.below b1
   replace kc := kc.below b1
   replace kd := kd.below b1
   replace bb := Below.after bb b1
   clear b1
   clear cc0 cc1 cc2 cc3 cc4 cc5 cd0 cd1 cd2 cd3 cd4 cd5 ca0 ca1 ca2 ca3 ca4 ca5
   by_cases f2 : 0 ≤ tA
   ·have F2 := shut f2
    go_wp2
    go_ret
    exact ⟨by rw [hR.out, show mt C D A B tC tD tA tB = 2 from by have g0 := F0.out; have g1 := E1.out; have g2 := E2.out; have g3 := F2.out; unfold mt; rw [if_neg (by have := G0.out; omega)]; exact if_pos (by omega)]; rfl, bb⟩
   have F2 := shut f2
   by_cases e3 : B = 0
   ·have E3 := shut e3
    have cc0 := cel6_0 kc
    have cc1 := cel6_1 kc
    have cc2 := cel6_2 kc
    have cc3 := cel6_3 kc
    have cc4 := cel6_4 kc
    have cc5 := cel6_5 kc
    have cd0 := cel6_0 kd
    have cd1 := cel6_1 kd
    have cd2 := cel6_2 kd
    have cd3 := cel6_3 kd
    have cd4 := cel6_4 kd
    have cd5 := cel6_5 kd
    have cb0 := cel6_0 kb
    have cb1 := cel6_1 kb
    have cb2 := cel6_2 kb
    have cb3 := cel6_3 kb
    have cb4 := cel6_4 kb
    have cb5 := cel6_5 kb
    go_wp2_with fail
    go_fit (A4.out _)
    rintro e y3 ⟨rfl, b1⟩
    replace ka := ka.below b1
    replace kb := kb.below b1
    replace kc := kc.below b1
    replace kd := kd.below b1
    replace bb := Below.after bb b1
    clear b1
    clear cc0 cc1 cc2 cc3 cc4 cc5 cd0 cd1 cd2 cd3 cd4 cd5 cb0 cb1 cb2 cb3 cb4 cb5
    by_cases f3 : 0 ≤ tB
    ·have F3 := shut f3
     go_wp2
     go_ret
     exact ⟨by rw [hR.out, show mt C D A B tC tD tA tB = 2 from by have g0 := F0.out; have g1 := E1.out; have g2 := F2.out; have g3 := E3.out; have g4 := F3.out; unfold mt; rw [if_neg (by have := G0.out; omega)]; exact if_pos (by omega)]; rfl, bb⟩
    have F3 := shut f3
    have X1 : Hid (¬ C * D < 0) := by show ¬ C * D < 0; rw [E0.out, Int.zero_mul]; omega
    go_wp2
    go_ret
    exact ⟨by rw [hR.out, show mt C D A B tC tD tA tB = 0 from by have g0 := F0.out; have g1 := E1.out; have g2 := F2.out; have g3 := F3.out; have x1 := X1.out; unfold mt; rw [if_neg (by have := G0.out; omega), if_neg (by omega)]; exact if_neg (by omega)]; rfl, bb⟩
   have E3 := shut e3
   have X1 : Hid (¬ C * D < 0) := by show ¬ C * D < 0; rw [E0.out, Int.zero_mul]; omega
   go_wp2
   go_ret
   exact ⟨by rw [hR.out, show mt C D A B tC tD tA tB = 0 from by have g0 := F0.out; have g1 := E1.out; have g2 := F2.out; have g3 := E3.out; have x1 := X1.out; unfold mt; rw [if_neg (by have := G0.out; omega), if_neg (by omega)]; exact if_neg (by omega)]; rfl, bb⟩
  have E2 := shut e2
  by_cases e3 : B = 0
  ·have E3 := shut e3
   have cc0 := cel6_0 kc
   have cc1 := cel6_1 kc
   have cc2 := cel6_2 kc
   have cc3 := cel6_3 kc
   have cc4 := cel6_4 kc
   have cc5 := cel6_5 kc
   have cd0 := cel6_0 kd
   have cd1 := cel6_1 kd
   have cd2 := cel6_2 kd
   have cd3 := cel6_3 kd
   have cd4 := cel6_4 kd
   have cd5 := cel6_5 kd
   have cb0 := cel6_0 kb
   have cb1 := cel6_1 kb
   have cb2 := cel6_2 kb
   have cb3 := cel6_3 kb
   have cb4 := cel6_4 kb
   have cb5 := cel6_5 kb
   go_wp2_with fail
   go_fit (A4.out _)
   rintro e y3 ⟨rfl, b1⟩
   replace ka := ka.below b1
   replace kb := kb.below b1
   replace kc := kc.below b1
   replace kd := kd.below b1
   replace bb := Below.after bb b1
   clear b1
   clear cc0 cc1 cc2 cc3 cc4 cc5 cd0 cd1 cd2 cd3 cd4 cd5 cb0 cb1 cb2 cb3 cb4 cb5
   by_cases f3 : 0 ≤ tB
   ·have F3 := shut f3
    go_wp2
    go_ret
    exact ⟨by rw [hR.out, show mt C D A B tC tD tA tB = 2 from by have g0 := F0.out; have g1 := E1.out; have g2 := E2.out; have g3 := E3.out; have g4 := F3.out; unfold mt; rw [if_neg (by have := G0.out; omega)]; exact if_pos (by omega)]; rfl, bb⟩
   have F3 := shut f3
   have X1 : Hid (¬ C * D < 0) := by show ¬ C * D < 0; rw [E0.out, Int.zero_mul]; omega
   go_wp2
   go_ret
   exact ⟨by rw [hR.out, show mt C D A B tC tD tA tB = 0 from by have g0 := F0.out; have g1 := E1.out; have g2 := E2.out; have g3 := F3.out; have x1 := X1.out; unfold mt; rw [if_neg (by have := G0.out; omega), if_neg (by omega)]; exact if_neg (by omega)]; rfl, bb⟩
  have E3 := shut e3
  have X1 : Hid (¬ C * D < 0) := by show ¬ C * D < 0; rw [E0.out, Int.zero_mul]; omega
  go_wp2
  go_ret
  exact ⟨by rw [hR.out, show mt C D A B tC tD tA tB = 0 from by have g0 := F0.out; have g1 := E1.out; have g2 := E2.out; have g3 := E3.out; have x1 := X1.out; unfold mt; rw [if_neg (by have := G0.out; omega), if_neg (by omega)]; exact if_neg (by omega)]; rfl, bb⟩
 have E0 := shut e0
 by_cases e1 : D = 0
 ·have E1 := shut e1
  have ca0 := cel6_0 ka
  have ca1 := cel6_1 ka
  have ca2 := cel6_2 ka
  have ca3 := cel6_3 ka
  have ca4 := cel6_4 ka
  have ca5 := cel6_5 ka
  have cb0 := cel6_0 kb
  have cb1 := cel6_1 kb
  have cb2 := cel6_2 kb
  have cb3 := cel6_3 kb
  have cb4 := cel6_4 kb
  have cb5 := cel6_5 kb
  have cd0 := cel6_0 kd
  have cd1 := cel6_1 kd
  have cd2 := cel6_2 kd
  have cd3 := cel6_3 kd
  have cd4 := cel6_4 kd
  have cd5 := cel6_5 kd
  go_wp2_with fail
  go_fit (A2.out _)
  rintro e y1 ⟨rfl, b1⟩
  replace ka := ka.below b1
  replace kb := kb.below b1
  replace kc := kc.below b1
  replace kd := kd.below b1
  replace bb := Below.after bb b1
  clear b1
  clear ca0 ca1 ca2 ca3 ca4 ca5 cb0 cb1 cb2 cb3 cb4 cb5 cd0 cd1 cd2 cd3 cd4 cd5
  by_cases f1 : 0 ≤ tD
  ·have F1 := shut f1
   go_wp2
   go_ret
   exact ⟨by rw [hR.out, show mt C D A B tC tD tA tB = 2 from by have g0 := E0.out; have g1 := E1.out; have g2 := F1.out; unfold mt; rw [if_neg (by have := G0.out; omega)]; exact if_pos (by omega)]; rfl, bb⟩
  have F1 := shut f1
  by_cases e2 : A = 0
  ·have E2 := shut e2
   have cc0 := cel6_0 kc
   have cc1 := cel6_1 kc
   have cc2 := cel6_2 kc
   have cc3 := cel6_3 kc
   have cc4 := cel6_4 kc
   have cc5 := cel6_5 kc
   have cd0 := cel6_0 kd
   have cd1 := cel6_1 kd
   have cd2 := cel6_2 kd
   have cd3 := cel6_3 kd
   have cd4 := cel6_4 kd
   have cd5 := cel6_5 kd
   have ca0 := cel6_0 ka
   have ca1 := cel6_1 ka
   have ca2 := cel6_2 ka
   have ca3 := cel6_3 ka
   have ca4 := cel6_4 ka
   have ca5 := cel6_5 ka
   go_wp2_with fail
   go_fit (A3.out _)
   rintro e y2 ⟨rfl, b1⟩
   replace ka := ka.below b1
   replace kb := kb.below b1
   replace kc := kc.below b1
   replace kd := kd.below b1
   replace bb := Below.after bb b1
   clear b1
   clear cc0 cc1 cc2 cc3 cc4 cc5 cd0 cd1 cd2 cd3 cd4 cd5 ca0 ca1 ca2 ca3 ca4 ca5
   by_cases f2 : 0 ≤ tA
   ·have F2 := shut f2
    go_wp2
    go_ret
    exact ⟨by rw [hR.out, show mt C D A B tC tD tA tB = 2 from by have g0 := E0.out; have g1 := F1.out; have g2 := E2.out; have g3 := F2.out; unfold mt; rw [if_neg (by have := G0.out; omega)]; exact if_pos (by omega)]; rfl, bb⟩
   have F2 := shut f2
   by_cases e3 : B = 0
   ·have E3 := shut e3
    have cc0 := cel6_0 kc
    have cc1 := cel6_1 kc
    have cc2 := cel6_2 kc
    have cc3 := cel6_3 kc
    have cc4 := cel6_4 kc
    have cc5 := cel6_5 kc
    have cd0 := cel6_0 kd
    have cd1 := cel6_1 kd
    have cd2 := cel6_2 kd
    have cd3 := cel6_3 kd
    have cd4 := cel6_4 kd
    have cd5 := cel6_5 kd
    have cb0 := cel6_0 kb
    have cb1 := cel6_1 kb
    have cb2 := cel6_2 kb
    have cb3 := cel6_3 kb
    have cb4 := cel6_4 kb
    have cb5 := cel6_5 kb
    go_wp2_with fail
    go_fit (A4.out _)
    rintro e y3 ⟨rfl, b1⟩
    replace ka := ka.below b1
    replace kb := kb.below b1
    replace kc := kc.below b1
    replace kd := kd.below b1
    replace bb := Below.after bb b1
    clear b1
    clear cc0 cc1 cc2 cc3 cc4 cc5 cd0 cd1 cd2 cd3 cd4 cd5 cb0 cb1 cb2 cb3 cb4 cb5
    by_cases f3 : 0 ≤ tB
    ·have F3 := shut f3
     go_wp2
     go_ret
     exact ⟨by rw [hR.out, show mt C D A B tC tD tA tB = 2 from by have g0 := E0.out; have g1 := F1.out; have g2 := F2.out; have g3 := E3.out; have g4 := F3.out; unfold mt; rw [if_neg (by have := G0.out; omega)]; exact if_pos (by omega)]; rfl, bb⟩
    have F3 := shut f3
    have X1 : Hid (¬ C * D < 0) := by show ¬ C * D < 0; rw [E1.out, Int.mul_zero]; omega
    go_wp2
    go_ret
    exact ⟨by rw [hR.out, show mt C D A B tC tD tA tB = 0 from by have g0 := E0.out; have g1 := F1.out; have g2 := F2.out; have g3 := F3.out; have x1 := X1.out; unfold mt; rw [if_neg (by have := G0.out; omega), if_neg (by omega)]; exact if_neg (by omega)]; rfl, bb⟩
   have E3 := shut e3
   have X1 : Hid (¬ C * D < 0) := by show ¬ C * D < 0; rw [E1.out, Int.mul_zero]; omega
   go_wp2
   go_ret
   exact ⟨by rw [hR.out, show mt C D A B tC tD tA tB = 0 from by have g0 := E0.out; have g1 := F1.out; have g2 := F2.out; have g3 := E3.out; have x1 := X1.out; unfold mt; rw [if_neg (by have := G0.out; omega), if_neg (by omega)]; exact if_neg (by omega)]; rfl, bb⟩
  have E2 := shut e2
  by_cases e3 : B = 0
  ·have E3 := shut e3
   have cc0 := cel6_0 kc
   have cc1 := cel6_1 kc
   have cc2 := cel6_2 kc
   have cc3 := cel6_3 kc
   have cc4 := cel6_4 kc
   have cc5 := cel6_5 kc
   have cd0 := cel6_0 kd
   have cd1 := cel6_1 kd
   have cd2 := cel6_2 kd
   have cd3 := cel6_3 kd
   have cd4 := cel6_4 kd
   have cd5 := cel6_5 kd
   have cb0 := cel6_0 kb
   have cb1 := cel6_1 kb
   have cb2 := cel6_2 kb
   have cb3 := cel6_3 kb
   have cb4 := cel6_4 kb
   have cb5 := cel6_5 kb
   go_wp2_with fail
   go_fit (A4.out _)
   rintro e y3 ⟨rfl, b1⟩
   replace ka := ka.below b1
   replace kb := kb.below b1
   replace kc := kc.below b1
   replace kd := kd.below b1
   replace bb := Below.after bb b1
   clear b1
   clear cc0 cc1 cc2 cc3 cc4 cc5 cd0 cd1 cd2 cd3 cd4 cd5 cb0 cb1 cb2 cb3 cb4 cb5
   by_cases f3 : 0 ≤ tB
   ·have F3 := shut f3
    go_wp2
    go_ret
    exact ⟨by rw [hR.out, show mt C D A B tC tD tA tB = 2 from by have g0 := E0.out; have g1 := F1.out; have g2 := E2.out; have g3 := E3.out; have g4 := F3.out; unfold mt; rw [if_neg (by have := G0.out; omega)]; exact if_pos (by omega)]; rfl, bb⟩
   have F3 := shut f3
   have X1 : Hid (¬ C * D < 0) := by show ¬ C * D < 0; rw [E1.out, Int.mul_zero]; omega
   go_wp2
   go_ret
   exact ⟨by rw [hR.out, show mt C D A B tC tD tA tB = 0 from by have g0 := E0.out; have g1 := F1.out; have g2 := E2.out; have g3 := F3.out; have x1 := X1.out; unfold mt; rw [if_neg (by have := G0.out; omega), if_neg (by omega)]; exact if_neg (by omega)]; rfl, bb⟩
  have E3 := shut e3
  have X1 : Hid (¬ C * D < 0) := by show ¬ C * D < 0; rw [E1.out, Int.mul_zero]; omega
  go_wp2
  go_ret
  exact ⟨by rw [hR.out, show mt C D A B tC tD tA tB = 0 from by have g0 := E0.out; have g1 := F1.out; have g2 := E2.out; have g3 := E3.out; have x1 := X1.out; unfold mt; rw [if_neg (by have := G0.out; omega), if_neg (by omega)]; exact if_neg (by omega)]; rfl, bb⟩
 have E1 := shut e1
 by_cases e2 : A = 0
 ·have E2 := shut e2
  have cc0 := cel6_0 kc
  have cc1 := cel6_1 kc
  have cc2 := cel6_2 kc
  have cc3 := cel6_3 kc
  have cc4 := cel6_4 kc
  have cc5 := cel6_5 kc
  have cd0 := cel6_0 kd
  have cd1 := cel6_1 kd
  have cd2 := cel6_2 kd
  have cd3 := cel6_3 kd
  have cd4 := cel6_4 kd
  have cd5 := cel6_5 kd
  have ca0 := cel6_0 ka
  have ca1 := cel6_1 ka
  have ca2 := cel6_2 ka
  have ca3 := cel6_3 ka
  have ca4 := cel6_4 ka
  have ca5 := cel6_5 ka
  go_wp2_with fail
  go_fit (A3.out _)
  rintro e y2 ⟨rfl, b1⟩
  replace ka := ka.below b1
  replace kb := kb.below b1
  replace kc := kc.below b1
  replace kd := kd.below b1
  replace bb := Below.after bb b1
  clear b1
  clear cc0 cc1 cc2 cc3 cc4 cc5 cd0 cd1 cd2 cd3 cd4 cd5 ca0 ca1 ca2 ca3 ca4 ca5
  by_cases f2 : 0 ≤ tA
  ·have F2 := shut f2
   go_wp2
   go_ret
   exact ⟨by rw [hR.out, show mt C D A B tC tD tA tB = 2 from by have g0 := E0.out; have g1 := E1.out; have g2 := E2.out; have g3 := F2.out; unfold mt; rw [if_neg (by have := G0.out; omega)]; exact if_pos (by omega)]; rfl, bb⟩
  have F2 := shut f2
  by_cases e3 : B = 0
  ·have E3 := shut e3
   have cc0 := cel6_0 kc
   have cc1 := cel6_1 kc
   have cc2 := cel6_2 kc
   have cc3 := cel6_3 kc
   have cc4 := cel6_4 kc
   have cc5 := cel6_5 kc
   have cd0 := cel6_0 kd
   have cd1 := cel6_1 kd
   have cd2 := cel6_2 kd
   have cd3 := cel6_3 kd
   have cd4 := cel6_4 kd
   have cd5 := cel6_5 kd
   have cb0 := cel6_0 kb
   have cb1 := cel6_1 kb
   have cb2 := cel6_2 kb
   have cb3 := cel6_3 kb
   have cb4 := cel6_4 kb
   have cb5 := cel6_5 kb
   go_wp2_with fail
   go_fit (A4.out _)
   rintro e y3 ⟨rfl, b1⟩
   replace ka := ka.below b1
   replace kb := kb.below b1
   replace kc := kc.below b1
   replace kd := kd.below b1
   replace bb := Below.after bb b1
   clear b1
   clear cc0 cc1 cc2 cc3 cc4 cc5 cd0 cd1 cd2 cd3 cd4 cd5 cb0 cb1 cb2 cb3 cb4 cb5
   by_cases f3 : 0 ≤ tB
   ·have F3 := shut f3
    go_wp2
    go_ret
    exact ⟨by rw [hR.out, show mt C D A B tC tD tA tB = 2 from by have g0 := E0.out; have g1 := E1.out; have g2 := F2.out; have g3 := E3.out; have g4 := F3.out; unfold mt; rw [if_neg (by have := G0.out; omega)]; exact if_pos (by omega)]; rfl, bb⟩
   have F3 := shut f3
   by_cases x1 : C * D < 0
   ·have X1 := shut x1
    have X2 : Hid (¬ A * B < 0) := by show ¬ A * B < 0; rw [E2.out, Int.zero_mul]; omega
    go_wp2
    go_ret
    exact ⟨by rw [hR.out, show mt C D A B tC tD tA tB = 0 from by have g0 := E0.out; have g1 := E1.out; have g2 := F2.out; have g3 := F3.out; have x2 := X2.out; unfold mt; rw [if_neg (by have := G0.out; omega), if_neg (by omega)]; exact if_neg (by omega)]; rfl, bb⟩
   ·have X1 := shut x1
    go_wp2
    go_ret
    exact ⟨by rw [hR.out, show mt C D A B tC tD tA tB = 0 from by have g0 := E0.out; have g1 := E1.out; have g2 := F2.out; have g3 := F3.out; have x1 := X1.out; unfold mt; rw [if_neg (by have := G0.out; omega), if_neg (by omega)]; exact if_neg (by omega)]; rfl, bb⟩
  have E3 := shut e3
  by_cases x1 : C * D < 0
  ·have X1 := shut x1
   have X2 : Hid (¬ A * B < 0) := by show ¬ A * B < 0; rw [E2.out, Int.zero_mul]; omega
   go_wp2
   go_ret
   exact ⟨by rw [hR.out, show mt C D A B tC tD tA tB = 0 from by have g0 := E0.out; have g1 := E1.out; have g2 := F2.out; have g3 := E3.out; have x2 := X2.out; unfold mt; rw [if_neg (by have := G0.out; omega), if_neg (by omega)]; exact if_neg (by omega)]; rfl, bb⟩
  ·have X1 := shut x1
   go_wp2
   go_ret
   exact ⟨by rw [hR.out, show mt C D A B tC tD tA tB = 0 from by have g0 := E0.out; have g1 := E1.out; have g2 := F2.out; have g3 := E3.out; have x1 := X1.out; unfold mt; rw [if_neg (by have := G0.out; omega), if_neg (by omega)]; exact if_neg (by omega)]; rfl, bb⟩
 have E2 := shut e2
 by_cases e3 : B = 0
 ·have E3 := shut e3
  have cc0 := cel6_0 kc
  have cc1 := cel6_1 kc
  have cc2 := cel6_2 kc
  have cc3 := cel6_3 kc
  have cc4 := cel6_4 kc
  have cc5 := cel6_5 kc
  have cd0 := cel6_0 kd
  have cd1 := cel6_1 kd
  have cd2 := cel6_2 kd
  have cd3 := cel6_3 kd
  have cd4 := cel6_4 kd
  have cd5 := cel6_5 kd
  have cb0 := cel6_0 kb
  have cb1 := cel6_1 kb
  have cb2 := cel6_2 kb
  have cb3 := cel6_3 kb
  have cb4 := cel6_4 kb
  have cb5 := cel6_5 kb
  go_wp2_with fail
  go_fit (A4.out _)
  rintro e y3 ⟨rfl, b1⟩
  replace ka := ka.below b1
  replace kb := kb.below b1
  replace kc := kc.below b1
  replace kd := kd.below b1
  replace bb := Below.after bb b1
  clear b1
  clear cc0 cc1 cc2 cc3 cc4 cc5 cd0 cd1 cd2 cd3 cd4 cd5 cb0 cb1 cb2 cb3 cb4 cb5
  by_cases f3 : 0 ≤ tB
  ·have F3 := shut f3
   go_wp2
   go_ret
   exact ⟨by rw [hR.out, show mt C D A B tC tD tA tB = 2 from by have g0 := E0.out; have g1 := E1.out; have g2 := E2.out; have g3 := E3.out; have g4 := F3.out; unfold mt; rw [if_neg (by have := G0.out; omega)]; exact if_pos (by omega)]; rfl, bb⟩
  have F3 := shut f3
  by_cases x1 : C * D < 0
  ·have X1 := shut x1
   have X2 : Hid (¬ A * B < 0) := by show ¬ A * B < 0; rw [E3.out, Int.mul_zero]; omega
   go_wp2
   go_ret
   exact ⟨by rw [hR.out, show mt C D A B tC tD tA tB = 0 from by have g0 := E0.out; have g1 := E1.out; have g2 := E2.out; have g3 := F3.out; have x2 := X2.out; unfold mt; rw [if_neg (by have := G0.out; omega), if_neg (by omega)]; exact if_neg (by omega)]; rfl, bb⟩
  ·have X1 := shut x1
   go_wp2
   go_ret
   exact ⟨by rw [hR.out, show mt C D A B tC tD tA tB = 0 from by have g0 := E0.out; have g1 := E1.out; have g2 := E2.out; have g3 := F3.out; have x1 := X1.out; unfold mt; rw [if_neg (by have := G0.out; omega), if_neg (by omega)]; exact if_neg (by omega)]; rfl, bb⟩
 have E3 := shut e3
 by_cases x1 : C * D < 0
 ·have X1 := shut x1
  by_cases x2 : A * B < 0
  ·have X2 := shut x2
   go_wp2
   go_ret
   exact ⟨by rw [hR.out, show mt C D A B tC tD tA tB = 1 from by have g0 := E0.out; have g1 := E1.out; have g2 := E2.out; have g3 := E3.out; have := X1.out; have := X2.out; unfold mt; rw [if_neg (by have := G0.out; omega), if_neg (by omega)]; exact if_pos (by omega)]; rfl, bb⟩
  ·have X2 := shut x2
   go_wp2
   go_ret
   exact ⟨by rw [hR.out, show mt C D A B tC tD tA tB = 0 from by have g0 := E0.out; have g1 := E1.out; have g2 := E2.out; have g3 := E3.out; have x2 := X2.out; unfold mt; rw [if_neg (by have := G0.out; omega), if_neg (by omega)]; exact if_neg (by omega)]; rfl, bb⟩
 ·have X1 := shut x1
  go_wp2
  go_ret
  exact ⟨by rw [hR.out, show mt C D A B tC tD tA tB = 0 from by have g0 := E0.out; have g1 := E1.out; have g2 := E2.out; have g3 := E3.out; have x1 := X1.out; unfold mt; rw [if_neg (by have := G0.out; omega), if_neg (by omega)]; exact if_neg (by omega)]; rfl, bb⟩
end Go.Proofs.YtgihiaaodkkkbaaGreatDoor
namespace Go.Proofs.YtgihiaaodkkkbaaGreatDoor
open Go.RowKit

set_option maxRecDepth 100000 in
set_option maxHeartbeats 8000000 in
theorem gMeet_ok (n0 n1 n2 n3 n4 n5 n6 n7 : Bool) (s0 d0 s1 d1 s2 d2 s3 d3 s4 d4 s5 d5 s6 d6 s7 d7 : ByteArray) (G : Int) (w : World)
  (HC : Hid (∀ (w1 : World) (B : Nat), Below w.heap.size w w1 → Cel w1 B [.bool n0, .string s0, .string d0, .bool n1, .string s1, .string d1, .bool n2, .string s2, .string d2, .bool n3, .string s3, .string d3, .bool n4, .string s4, .string d4, .bool n5, .string s5, .string d5, .bool n6, .string s6, .string d6, .bool n7, .string s7, .string d7] 39 → Calls Tryz.prog 47 #[.slice (some ⟨B, 0, none⟩) 4 4] w1 fun e w' => e = .returned (.int .i64 0) ∧ Below w1.heap.size w1 w'))
  (H1 : Hid (∀ w1, Calls Tryz.prog 59 #[.agg #[.bool n0, .string s0, .string d0, .bool n1, .string s1, .string d1], .agg #[.bool n2, .string s2, .string d2, .bool n3, .string s3, .string d3], .agg #[.bool n4, .string s4, .string d4, .bool n5, .string s5, .string d5], .agg #[.bool n6, .string s6, .string d6, .bool n7, .string s7, .string d7]] w1 fun e w' => e = .returned (.int .i64 (G)) ∧ Below w1.heap.size w1 w')) :
  Calls Tryz.prog 25 #[.agg #[.bool n0, .string s0, .string d0, .bool n1, .string s1, .string d1], .agg #[.bool n2, .string s2, .string d2, .bool n3, .string s3, .string d3], .agg #[.bool n4, .string s4, .string d4, .bool n5, .string s5, .string d5], .agg #[.bool n6, .string s6, .string d6, .bool n7, .string s7, .string d7]] w fun e w' => e = .returned (.tuple #[.int .i64 G, .int .i64 0]) ∧ Below w.heap.size w w' := by
 go_enter Tryz.func25, Tryz.ntmps25
 go_wp2_with fail
 obtain ⟨w0, hw, ka, kb, kc, kd, kl, bb⟩ := mk5 w [.bool n0, .string s0, .string d0, .bool n1, .string s1, .string d1] [.bool n2, .string s2, .string d2, .bool n3, .string s3, .string d3] [.bool n4, .string s4, .string d4, .bool n5, .string s5, .string d5] [.bool n6, .string s6, .string d6, .bool n7, .string s7, .string d7] [.bool n0, .string s0, .string d0, .bool n1, .string s1, .string d1, .bool n2, .string s2, .string d2, .bool n3, .string s3, .string d3, .bool n4, .string s4, .string d4, .bool n5, .string s5, .string d5, .bool n6, .string s6, .string d6, .bool n7, .string s7, .string d7] 39 39 39 39 39
 rw [← hw]
 clear hw
 go_fit (HC.out _ _ bb kl)
 rintro e w1 ⟨rfl, b1⟩
 replace ka := ka.below b1
 replace kb := kb.below b1
 replace kc := kc.below b1
 replace kd := kd.below b1
 replace bb := Below.after bb b1
 clear b1 kl
 have ca0 := cel6_0 ka
 have ca1 := cel6_1 ka
 have ca2 := cel6_2 ka
 have ca3 := cel6_3 ka
 have ca4 := cel6_4 ka
 have ca5 := cel6_5 ka
 have cb0 := cel6_0 kb
 have cb1 := cel6_1 kb
 have cb2 := cel6_2 kb
 have cb3 := cel6_3 kb
 have cb4 := cel6_4 kb
 have cb5 := cel6_5 kb
 have cc0 := cel6_0 kc
 have cc1 := cel6_1 kc
 have cc2 := cel6_2 kc
 have cc3 := cel6_3 kc
 have cc4 := cel6_4 kc
 have cc5 := cel6_5 kc
 have cd0 := cel6_0 kd
 have cd1 := cel6_1 kd
 have cd2 := cel6_2 kd
 have cd3 := cel6_3 kd
 have cd4 := cel6_4 kd
 have cd5 := cel6_5 kd
 go_wp2_with fail
 go_fit (H1.out _)
 rintro e w2 ⟨rfl, b1⟩
 replace bb := Below.after bb b1
 clear ca0 ca1 ca2 ca3 ca4 ca5 cb0 cb1 cb2 cb3 cb4 cb5 cc0 cc1 cc2 cc3 cc4 cc5 cd0 cd1 cd2 cd3 cd4 cd5
 go_wp2
 go_ret2
 exact ⟨rfl, bb⟩
theorem sg_wrap (r s : Rat) : IntKind.i64.wrap (Gm.sg r * Gm.sg s) = Gm.sg r * Gm.sg s := by
 rw [IntKind.wrap_i64]
 rcases sg_small r with h | h | h <;> rcases sg_small s with h' | h' | h' <;> rw [h, h'] <;> rfl
theorem gOrient_er (n0 n1 n2 n3 n4 n5 : Bool) (s0 d0 s1 d1 s2 d2 s3 d3 s4 d4 s5 d5 : ByteArray) (w : World) (hT : Tab w) (z0 : s0.size ≤ 100 ∧ d0.size ≤ 100) (z1 : s1.size ≤ 100 ∧ d1.size ≤ 100) (z2 : s2.size ≤ 100 ∧ d2.size ≤ 100) (z3 : s3.size ≤ 100 ∧ d3.size ≤ 100) (z4 : s4.size ≤ 100 ∧ d4.size ≤ 100) (z5 : s5.size ≤ 100 ∧ d5.size ≤ 100) (hE : ¬ two (two (twoq n0 s0 d0 n1 s1 d1) (twoq n2 s2 d2 n3 s3 d3)) (twoq n4 s4 d4 n5 s5 d5) = 0) :
  Calls Tryz.prog 18 #[.agg #[.bool n0, .string s0, .string d0, .bool n1, .string s1, .string d1], .agg #[.bool n2, .string s2, .string d2, .bool n3, .string s3, .string d3], .agg #[.bool n4, .string s4, .string d4, .bool n5, .string s5, .string d5]] w fun e w' => e = .returned (.tuple #[.int .i64 0, .int .i64 (two (two (twoq n0 s0 d0 n1 s1 d1) (twoq n2 s2 d2 n3 s3 d3)) (twoq n4 s4 d4 n5 s5 d5) : Nat)]) ∧ Below w.heap.size w w' :=
 gOrient_bad n0 n1 n2 n3 n4 n5 s0 d0 s1 d1 s2 d2 s3 d3 s4 d4 s5 d5 _ w (by omega) (fun w1 B b h => scheck3 B n0 n1 n2 n3 n4 n5 s0 d0 s1 d1 s2 d2 s3 d3 s4 d4 s5 d5 w1 (hT.below b) h z0 z1 z2 z3 z4 z5)
theorem gDisc_er (n0 n1 n2 n3 n4 n5 : Bool) (s0 d0 s1 d1 s2 d2 s3 d3 s4 d4 s5 d5 : ByteArray) (w : World) (hT : Tab w) (z0 : s0.size ≤ 100 ∧ d0.size ≤ 100) (z1 : s1.size ≤ 100 ∧ d1.size ≤ 100) (z2 : s2.size ≤ 100 ∧ d2.size ≤ 100) (z3 : s3.size ≤ 100 ∧ d3.size ≤ 100) (z4 : s4.size ≤ 100 ∧ d4.size ≤ 100) (z5 : s5.size ≤ 100 ∧ d5.size ≤ 100) (hE : ¬ two (two (twoq n0 s0 d0 n1 s1 d1) (twoq n2 s2 d2 n3 s3 d3)) (twoq n4 s4 d4 n5 s5 d5) = 0) :
  Calls Tryz.prog 19 #[.agg #[.bool n0, .string s0, .string d0, .bool n1, .string s1, .string d1], .agg #[.bool n2, .string s2, .string d2, .bool n3, .string s3, .string d3], .agg #[.bool n4, .string s4, .string d4, .bool n5, .string s5, .string d5]] w fun e w' => e = .returned (.tuple #[.int .i64 0, .int .i64 (two (two (twoq n0 s0 d0 n1 s1 d1) (twoq n2 s2 d2 n3 s3 d3)) (twoq n4 s4 d4 n5 s5 d5) : Nat)]) ∧ Below w.heap.size w w' :=
 gDisc_bad n0 n1 n2 n3 n4 n5 s0 d0 s1 d1 s2 d2 s3 d3 s4 d4 s5 d5 _ w (by omega) (fun w1 B b h => scheck3 B n0 n1 n2 n3 n4 n5 s0 d0 s1 d1 s2 d2 s3 d3 s4 d4 s5 d5 w1 (hT.below b) h z0 z1 z2 z3 z4 z5)
theorem gCircle_er (n0 n1 n2 n3 n4 n5 n6 n7 : Bool) (s0 d0 s1 d1 s2 d2 s3 d3 s4 d4 s5 d5 s6 d6 s7 d7 : ByteArray) (w : World) (hT : Tab w) (z0 : s0.size ≤ 100 ∧ d0.size ≤ 100) (z1 : s1.size ≤ 100 ∧ d1.size ≤ 100) (z2 : s2.size ≤ 100 ∧ d2.size ≤ 100) (z3 : s3.size ≤ 100 ∧ d3.size ≤ 100) (z4 : s4.size ≤ 100 ∧ d4.size ≤ 100) (z5 : s5.size ≤ 100 ∧ d5.size ≤ 100) (z6 : s6.size ≤ 100 ∧ d6.size ≤ 100) (z7 : s7.size ≤ 100 ∧ d7.size ≤ 100) (hE : ¬ two (two (two (twoq n0 s0 d0 n1 s1 d1) (twoq n2 s2 d2 n3 s3 d3)) (twoq n4 s4 d4 n5 s5 d5)) (twoq n6 s6 d6 n7 s7 d7) = 0) :
  Calls Tryz.prog 20 #[.agg #[.bool n0, .string s0, .string d0, .bool n1, .string s1, .string d1], .agg #[.bool n2, .string s2, .string d2, .bool n3, .string s3, .string d3], .agg #[.bool n4, .string s4, .string d4, .bool n5, .string s5, .string d5], .agg #[.bool n6, .string s6, .string d6, .bool n7, .string s7, .string d7]] w fun e w' => e = .returned (.tuple #[.int .i64 0, .int .i64 (two (two (two (twoq n0 s0 d0 n1 s1 d1) (twoq n2 s2 d2 n3 s3 d3)) (twoq n4 s4 d4 n5 s5 d5)) (twoq n6 s6 d6 n7 s7 d7) : Nat)]) ∧ Below w.heap.size w w' :=
 gCircle_bad n0 n1 n2 n3 n4 n5 n6 n7 s0 d0 s1 d1 s2 d2 s3 d3 s4 d4 s5 d5 s6 d6 s7 d7 _ w (by omega) (fun w1 B b h => scheck4 B n0 n1 n2 n3 n4 n5 n6 n7 s0 d0 s1 d1 s2 d2 s3 d3 s4 d4 s5 d5 s6 d6 s7 d7 w1 (hT.below b) h z0 z1 z2 z3 z4 z5 z6 z7)
theorem gOrient_an (n0 n1 n2 n3 n4 n5 : Bool) (s0 d0 s1 d1 s2 d2 s3 d3 s4 d4 s5 d5 : ByteArray) (w : World) (hT : Tab w) (z0 : s0.size ≤ 100 ∧ d0.size ≤ 100) (z1 : s1.size ≤ 100 ∧ d1.size ≤ 100) (z2 : s2.size ≤ 100 ∧ d2.size ≤ 100) (z3 : s3.size ≤ 100 ∧ d3.size ≤ 100) (z4 : s4.size ≤ 100 ∧ d4.size ≤ 100) (z5 : s5.size ≤ 100 ∧ d5.size ≤ 100) (hE : two (two (twoq n0 s0 d0 n1 s1 d1) (twoq n2 s2 d2 n3 s3 d3)) (twoq n4 s4 d4 n5 s5 d5) = 0) :
  Calls Tryz.prog 18 #[.agg #[.bool n0, .string s0, .string d0, .bool n1, .string s1, .string d1], .agg #[.bool n2, .string s2, .string d2, .bool n3, .string s3, .string d3], .agg #[.bool n4, .string s4, .string d4, .bool n5, .string s5, .string d5]] w fun e w' => e = .returned (.tuple #[.int .i64 (Gm.sg (Gm.cr (qOf n0 s0 d0) (qOf n1 s1 d1) (qOf n2 s2 d2) (qOf n3 s3 d3) (qOf n4 s4 d4) (qOf n5 s5 d5))), .int .i64 0]) ∧ Below w.heap.size w w' := by
 have hE' := hE
 have ho : OkQ n0 s0 d0 ∧ OkQ n1 s1 d1 ∧ OkQ n2 s2 d2 ∧ OkQ n3 s3 d3 ∧ OkQ n4 s4 d4 ∧ OkQ n5 s5 d5 := by
  simp only [two_zero, twoq_zero] at hE
  obtain ⟨⟨⟨a0, a1⟩, a2, a3⟩, a4, a5⟩ := hE
  exact ⟨(chkq_zero a0).1, (chkq_zero a1).1, (chkq_zero a2).1, (chkq_zero a3).1, (chkq_zero a4).1, (chkq_zero a5).1⟩
 obtain ⟨o0, o1, o2, o3, o4, o5⟩ := ho
 exact gOrient_ok n0 n1 n2 n3 n4 n5 s0 d0 s1 d1 s2 d2 s3 d3 s4 d4 s5 d5 _ w (fun w1 B b h => by have := scheck3 B n0 n1 n2 n3 n4 n5 s0 d0 s1 d1 s2 d2 s3 d3 s4 d4 s5 d5 w1 (hT.below b) h z0 z1 z2 z3 z4 z5; rwa [hE'] at this) (fun w1 => sturn_any n0 n1 n2 n3 n4 n5 s0 d0 s1 d1 s2 d2 s3 d3 s4 d4 s5 d5 w1 o0 o1 o2 o3 o4 o5 z0 z1 z2 z3 z4 z5)
theorem gDisc_an (n0 n1 n2 n3 n4 n5 : Bool) (s0 d0 s1 d1 s2 d2 s3 d3 s4 d4 s5 d5 : ByteArray) (w : World) (hT : Tab w) (z0 : s0.size ≤ 100 ∧ d0.size ≤ 100) (z1 : s1.size ≤ 100 ∧ d1.size ≤ 100) (z2 : s2.size ≤ 100 ∧ d2.size ≤ 100) (z3 : s3.size ≤ 100 ∧ d3.size ≤ 100) (z4 : s4.size ≤ 100 ∧ d4.size ≤ 100) (z5 : s5.size ≤ 100 ∧ d5.size ≤ 100) (hE : two (two (twoq n0 s0 d0 n1 s1 d1) (twoq n2 s2 d2 n3 s3 d3)) (twoq n4 s4 d4 n5 s5 d5) = 0) :
  Calls Tryz.prog 19 #[.agg #[.bool n0, .string s0, .string d0, .bool n1, .string s1, .string d1], .agg #[.bool n2, .string s2, .string d2, .bool n3, .string s3, .string d3], .agg #[.bool n4, .string s4, .string d4, .bool n5, .string s5, .string d5]] w fun e w' => e = .returned (.tuple #[.int .i64 (-(Gm.sg (Gm.dt (qOf n0 s0 d0) (qOf n1 s1 d1) (qOf n2 s2 d2) (qOf n3 s3 d3) (qOf n4 s4 d4) (qOf n5 s5 d5)))), .int .i64 0]) ∧ Below w.heap.size w w' := by
 have hE' := hE
 have ho : OkQ n0 s0 d0 ∧ OkQ n1 s1 d1 ∧ OkQ n2 s2 d2 ∧ OkQ n3 s3 d3 ∧ OkQ n4 s4 d4 ∧ OkQ n5 s5 d5 := by
  simp only [two_zero, twoq_zero] at hE
  obtain ⟨⟨⟨a0, a1⟩, a2, a3⟩, a4, a5⟩ := hE
  exact ⟨(chkq_zero a0).1, (chkq_zero a1).1, (chkq_zero a2).1, (chkq_zero a3).1, (chkq_zero a4).1, (chkq_zero a5).1⟩
 obtain ⟨o0, o1, o2, o3, o4, o5⟩ := ho
 exact gDisc_ok n0 n1 n2 n3 n4 n5 s0 d0 s1 d1 s2 d2 s3 d3 s4 d4 s5 d5 _ w (fun w1 B b h => by have := scheck3 B n0 n1 n2 n3 n4 n5 s0 d0 s1 d1 s2 d2 s3 d3 s4 d4 s5 d5 w1 (hT.below b) h z0 z1 z2 z3 z4 z5; rwa [hE'] at this) (fun w1 => about_any n0 n1 n2 n3 n4 n5 s0 d0 s1 d1 s2 d2 s3 d3 s4 d4 s5 d5 w1 o0 o1 o2 o3 o4 o5 z0 z1 z2 z3 z4 z5)
theorem gCircle_an (n0 n1 n2 n3 n4 n5 n6 n7 : Bool) (s0 d0 s1 d1 s2 d2 s3 d3 s4 d4 s5 d5 s6 d6 s7 d7 : ByteArray) (w : World) (hT : Tab w) (z0 : s0.size ≤ 100 ∧ d0.size ≤ 100) (z1 : s1.size ≤ 100 ∧ d1.size ≤ 100) (z2 : s2.size ≤ 100 ∧ d2.size ≤ 100) (z3 : s3.size ≤ 100 ∧ d3.size ≤ 100) (z4 : s4.size ≤ 100 ∧ d4.size ≤ 100) (z5 : s5.size ≤ 100 ∧ d5.size ≤ 100) (z6 : s6.size ≤ 100 ∧ d6.size ≤ 100) (z7 : s7.size ≤ 100 ∧ d7.size ≤ 100) (hE : two (two (two (twoq n0 s0 d0 n1 s1 d1) (twoq n2 s2 d2 n3 s3 d3)) (twoq n4 s4 d4 n5 s5 d5)) (twoq n6 s6 d6 n7 s7 d7) = 0) :
  Calls Tryz.prog 20 #[.agg #[.bool n0, .string s0, .string d0, .bool n1, .string s1, .string d1], .agg #[.bool n2, .string s2, .string d2, .bool n3, .string s3, .string d3], .agg #[.bool n4, .string s4, .string d4, .bool n5, .string s5, .string d5], .agg #[.bool n6, .string s6, .string d6, .bool n7, .string s7, .string d7]] w fun e w' => e = .returned (if Gm.sg (Gm.cr (qOf n0 s0 d0) (qOf n1 s1 d1) (qOf n2 s2 d2) (qOf n3 s3 d3) (qOf n4 s4 d4) (qOf n5 s5 d5)) = 0 then .tuple #[.int .i64 0, .int .i64 6] else .tuple #[.int .i64 (Gm.sg (Gm.cr (qOf n0 s0 d0) (qOf n1 s1 d1) (qOf n2 s2 d2) (qOf n3 s3 d3) (qOf n4 s4 d4) (qOf n5 s5 d5)) * Gm.sg (Gm.ci (qOf n0 s0 d0) (qOf n1 s1 d1) (qOf n2 s2 d2) (qOf n3 s3 d3) (qOf n4 s4 d4) (qOf n5 s5 d5) (qOf n6 s6 d6) (qOf n7 s7 d7))), .int .i64 0]) ∧ Below w.heap.size w w' := by
 have hE' := hE
 have ho : OkQ n0 s0 d0 ∧ OkQ n1 s1 d1 ∧ OkQ n2 s2 d2 ∧ OkQ n3 s3 d3 ∧ OkQ n4 s4 d4 ∧ OkQ n5 s5 d5 ∧ OkQ n6 s6 d6 ∧ OkQ n7 s7 d7 := by
  simp only [two_zero, twoq_zero] at hE
  obtain ⟨⟨⟨⟨a0, a1⟩, a2, a3⟩, a4, a5⟩, a6, a7⟩ := hE
  exact ⟨(chkq_zero a0).1, (chkq_zero a1).1, (chkq_zero a2).1, (chkq_zero a3).1, (chkq_zero a4).1, (chkq_zero a5).1, (chkq_zero a6).1, (chkq_zero a7).1⟩
 obtain ⟨o0, o1, o2, o3, o4, o5, o6, o7⟩ := ho
 by_cases h0 : Gm.sg (Gm.cr (qOf n0 s0 d0) (qOf n1 s1 d1) (qOf n2 s2 d2) (qOf n3 s3 d3) (qOf n4 s4 d4) (qOf n5 s5 d5)) = 0
 ·rw [if_pos h0]
  exact gCircle_flat n0 n1 n2 n3 n4 n5 n6 n7 s0 d0 s1 d1 s2 d2 s3 d3 s4 d4 s5 d5 s6 d6 s7 d7 w (fun w1 B b h => by have := scheck4 B n0 n1 n2 n3 n4 n5 n6 n7 s0 d0 s1 d1 s2 d2 s3 d3 s4 d4 s5 d5 s6 d6 s7 d7 w1 (hT.below b) h z0 z1 z2 z3 z4 z5 z6 z7; rwa [hE'] at this) (fun w1 => by have := sturn_any n0 n1 n2 n3 n4 n5 s0 d0 s1 d1 s2 d2 s3 d3 s4 d4 s5 d5 w1 o0 o1 o2 o3 o4 o5 z0 z1 z2 z3 z4 z5; rwa [h0] at this)
 ·rw [if_neg h0]
  exact gCircle_ok n0 n1 n2 n3 n4 n5 n6 n7 s0 d0 s1 d1 s2 d2 s3 d3 s4 d4 s5 d5 s6 d6 s7 d7 _ _ w h0 (sg_wrap _ _) (fun w1 B b h => by have := scheck4 B n0 n1 n2 n3 n4 n5 n6 n7 s0 d0 s1 d1 s2 d2 s3 d3 s4 d4 s5 d5 s6 d6 s7 d7 w1 (hT.below b) h z0 z1 z2 z3 z4 z5 z6 z7; rwa [hE'] at this) (fun w1 => sturn_any n0 n1 n2 n3 n4 n5 s0 d0 s1 d1 s2 d2 s3 d3 s4 d4 s5 d5 w1 o0 o1 o2 o3 o4 o5 z0 z1 z2 z3 z4 z5) (fun w1 => scircle_any n0 n1 n2 n3 n4 n5 n6 n7 s0 d0 s1 d1 s2 d2 s3 d3 s4 d4 s5 d5 s6 d6 s7 d7 w1 o0 o1 o2 o3 o4 o5 o6 o7 z0 z1 z2 z3 z4 z5 z6 z7)
theorem gMeet_an (n0 n1 n2 n3 n4 n5 n6 n7 : Bool) (s0 d0 s1 d1 s2 d2 s3 d3 s4 d4 s5 d5 s6 d6 s7 d7 : ByteArray) (w : World) (hT : Tab w) (z0 : s0.size ≤ 100 ∧ d0.size ≤ 100) (z1 : s1.size ≤ 100 ∧ d1.size ≤ 100) (z2 : s2.size ≤ 100 ∧ d2.size ≤ 100) (z3 : s3.size ≤ 100 ∧ d3.size ≤ 100) (z4 : s4.size ≤ 100 ∧ d4.size ≤ 100) (z5 : s5.size ≤ 100 ∧ d5.size ≤ 100) (z6 : s6.size ≤ 100 ∧ d6.size ≤ 100) (z7 : s7.size ≤ 100 ∧ d7.size ≤ 100) (hE : two (two (two (twoq n0 s0 d0 n1 s1 d1) (twoq n2 s2 d2 n3 s3 d3)) (twoq n4 s4 d4 n5 s5 d5)) (twoq n6 s6 d6 n7 s7 d7) = 0) :
  Calls Tryz.prog 25 #[.agg #[.bool n0, .string s0, .string d0, .bool n1, .string s1, .string d1], .agg #[.bool n2, .string s2, .string d2, .bool n3, .string s3, .string d3], .agg #[.bool n4, .string s4, .string d4, .bool n5, .string s5, .string d5], .agg #[.bool n6, .string s6, .string d6, .bool n7, .string s7, .string d7]] w fun e w' => e = .returned (.tuple #[.int .i64 (mt (Gm.sg (Gm.cr (qOf n0 s0 d0) (qOf n1 s1 d1) (qOf n2 s2 d2) (qOf n3 s3 d3) (qOf n4 s4 d4) (qOf n5 s5 d5))) (Gm.sg (Gm.cr (qOf n0 s0 d0) (qOf n1 s1 d1) (qOf n2 s2 d2) (qOf n3 s3 d3) (qOf n6 s6 d6) (qOf n7 s7 d7))) (Gm.sg (Gm.cr (qOf n4 s4 d4) (qOf n5 s5 d5) (qOf n6 s6 d6) (qOf n7 s7 d7) (qOf n0 s0 d0) (qOf n1 s1 d1))) (Gm.sg (Gm.cr (qOf n4 s4 d4) (qOf n5 s5 d5) (qOf n6 s6 d6) (qOf n7 s7 d7) (qOf n2 s2 d2) (qOf n3 s3 d3))) (-(Gm.sg (Gm.dt (qOf n0 s0 d0) (qOf n1 s1 d1) (qOf n2 s2 d2) (qOf n3 s3 d3) (qOf n4 s4 d4) (qOf n5 s5 d5)))) (-(Gm.sg (Gm.dt (qOf n0 s0 d0) (qOf n1 s1 d1) (qOf n2 s2 d2) (qOf n3 s3 d3) (qOf n6 s6 d6) (qOf n7 s7 d7)))) (-(Gm.sg (Gm.dt (qOf n4 s4 d4) (qOf n5 s5 d5) (qOf n6 s6 d6) (qOf n7 s7 d7) (qOf n0 s0 d0) (qOf n1 s1 d1)))) (-(Gm.sg (Gm.dt (qOf n4 s4 d4) (qOf n5 s5 d5) (qOf n6 s6 d6) (qOf n7 s7 d7) (qOf n2 s2 d2) (qOf n3 s3 d3))))), .int .i64 0]) ∧ Below w.heap.size w w' := by
 have hE' := hE
 have ho : OkQ n0 s0 d0 ∧ OkQ n1 s1 d1 ∧ OkQ n2 s2 d2 ∧ OkQ n3 s3 d3 ∧ OkQ n4 s4 d4 ∧ OkQ n5 s5 d5 ∧ OkQ n6 s6 d6 ∧ OkQ n7 s7 d7 := by
  simp only [two_zero, twoq_zero] at hE
  obtain ⟨⟨⟨⟨a0, a1⟩, a2, a3⟩, a4, a5⟩, a6, a7⟩ := hE
  exact ⟨(chkq_zero a0).1, (chkq_zero a1).1, (chkq_zero a2).1, (chkq_zero a3).1, (chkq_zero a4).1, (chkq_zero a5).1, (chkq_zero a6).1, (chkq_zero a7).1⟩
 obtain ⟨o0, o1, o2, o3, o4, o5, o6, o7⟩ := ho
 exact gMeet_ok n0 n1 n2 n3 n4 n5 n6 n7 s0 d0 s1 d1 s2 d2 s3 d3 s4 d4 s5 d5 s6 d6 s7 d7 _ w (fun w1 B b h => by have := scheck4 B n0 n1 n2 n3 n4 n5 n6 n7 s0 d0 s1 d1 s2 d2 s3 d3 s4 d4 s5 d5 s6 d6 s7 d7 w1 (hT.below b) h z0 z1 z2 z3 z4 z5 z6 z7; rwa [hE'] at this) (fun w1 => meeting_walk n0 n1 n2 n3 n4 n5 n6 n7 s0 d0 s1 d1 s2 d2 s3 d3 s4 d4 s5 d5 s6 d6 s7 d7 _ _ _ _ _ _ _ _ w1 (sg_wrap _ _) (sg_wrap _ _) (fun w1 => sturn_any n0 n1 n2 n3 n4 n5 s0 d0 s1 d1 s2 d2 s3 d3 s4 d4 s5 d5 w1 o0 o1 o2 o3 o4 o5 z0 z1 z2 z3 z4 z5) (fun w1 => sturn_any n0 n1 n2 n3 n6 n7 s0 d0 s1 d1 s2 d2 s3 d3 s6 d6 s7 d7 w1 o0 o1 o2 o3 o6 o7 z0 z1 z2 z3 z6 z7) (fun w1 => sturn_any n4 n5 n6 n7 n0 n1 s4 d4 s5 d5 s6 d6 s7 d7 s0 d0 s1 d1 w1 o4 o5 o6 o7 o0 o1 z4 z5 z6 z7 z0 z1) (fun w1 => sturn_any n4 n5 n6 n7 n2 n3 s4 d4 s5 d5 s6 d6 s7 d7 s2 d2 s3 d3 w1 o4 o5 o6 o7 o2 o3 z4 z5 z6 z7 z2 z3) (fun w1 => about_any n0 n1 n2 n3 n4 n5 s0 d0 s1 d1 s2 d2 s3 d3 s4 d4 s5 d5 w1 o0 o1 o2 o3 o4 o5 z0 z1 z2 z3 z4 z5) (fun w1 => about_any n0 n1 n2 n3 n6 n7 s0 d0 s1 d1 s2 d2 s3 d3 s6 d6 s7 d7 w1 o0 o1 o2 o3 o6 o7 z0 z1 z2 z3 z6 z7) (fun w1 => about_any n4 n5 n6 n7 n0 n1 s4 d4 s5 d5 s6 d6 s7 d7 s0 d0 s1 d1 w1 o4 o5 o6 o7 o0 o1 z4 z5 z6 z7 z0 z1) (fun w1 => about_any n4 n5 n6 n7 n2 n3 s4 d4 s5 d5 s6 d6 s7 d7 s2 d2 s3 d3 w1 o4 o5 o6 o7 o2 o3 z4 z5 z6 z7 z2 z3))
end Go.Proofs.YtgihiaaodkkkbaaGreatDoor
