/-
  Package geom: how two segments meet.
-/
import Derived.Test.YtmojdkjpcjfkeaaGreatDoorG43
namespace Go.Proofs.YtmojdkjpcjfkeaaGreatDoor
open Go.RowKit
def mt (C D A B tC tD tA tB : Int) : Int := if 0 < C * D then 0 else if (C = 0 ∧ 0 ≤ tC) ∨ (D = 0 ∧ 0 ≤ tD) ∨ (A = 0 ∧ 0 ≤ tA) ∨ (B = 0 ∧ 0 ≤ tB) then 2 else if C * D < 0 ∧ A * B < 0 then 1 else 0
set_option maxRecDepth 100000 in
set_option maxHeartbeats 32000000 in
theorem meeting_walk (n0 n1 n2 n3 n4 n5 n6 n7 : Bool) (s0 d0 s1 d1 s2 d2 s3 d3 s4 d4 s5 d5 s6 d6 s7 d7 : ByteArray) (C D A B tC tD tA tB : Int) (w : World) (w1 : IntKind.i64.wrap (C * D) = C * D) (w2 : IntKind.i64.wrap (A * B) = A * B)
  (H1 : Hid (∀ w1, Calls Tryz.prog 81 #[.agg #[.bool n0, .string s0, .string d0, .bool n1, .string s1, .string d1], .agg #[.bool n2, .string s2, .string d2, .bool n3, .string s3, .string d3], .agg #[.bool n4, .string s4, .string d4, .bool n5, .string s5, .string d5]] w1 (Re w1 (.int .i64 (C)))))
  (H2 : Hid (∀ w1, Calls Tryz.prog 81 #[.agg #[.bool n0, .string s0, .string d0, .bool n1, .string s1, .string d1], .agg #[.bool n2, .string s2, .string d2, .bool n3, .string s3, .string d3], .agg #[.bool n6, .string s6, .string d6, .bool n7, .string s7, .string d7]] w1 (Re w1 (.int .i64 (D)))))
  (H3 : Hid (∀ w1, Calls Tryz.prog 81 #[.agg #[.bool n4, .string s4, .string d4, .bool n5, .string s5, .string d5], .agg #[.bool n6, .string s6, .string d6, .bool n7, .string s7, .string d7], .agg #[.bool n0, .string s0, .string d0, .bool n1, .string s1, .string d1]] w1 (Re w1 (.int .i64 (A)))))
  (H4 : Hid (∀ w1, Calls Tryz.prog 81 #[.agg #[.bool n4, .string s4, .string d4, .bool n5, .string s5, .string d5], .agg #[.bool n6, .string s6, .string d6, .bool n7, .string s7, .string d7], .agg #[.bool n2, .string s2, .string d2, .bool n3, .string s3, .string d3]] w1 (Re w1 (.int .i64 (B)))))
  (A1 : Hid (∀ w1, Calls Tryz.prog 85 #[.agg #[.bool n0, .string s0, .string d0, .bool n1, .string s1, .string d1], .agg #[.bool n2, .string s2, .string d2, .bool n3, .string s3, .string d3], .agg #[.bool n4, .string s4, .string d4, .bool n5, .string s5, .string d5]] w1 (Re w1 (.int .i64 (tC)))))
  (A2 : Hid (∀ w1, Calls Tryz.prog 85 #[.agg #[.bool n0, .string s0, .string d0, .bool n1, .string s1, .string d1], .agg #[.bool n2, .string s2, .string d2, .bool n3, .string s3, .string d3], .agg #[.bool n6, .string s6, .string d6, .bool n7, .string s7, .string d7]] w1 (Re w1 (.int .i64 (tD)))))
  (A3 : Hid (∀ w1, Calls Tryz.prog 85 #[.agg #[.bool n4, .string s4, .string d4, .bool n5, .string s5, .string d5], .agg #[.bool n6, .string s6, .string d6, .bool n7, .string s7, .string d7], .agg #[.bool n0, .string s0, .string d0, .bool n1, .string s1, .string d1]] w1 (Re w1 (.int .i64 (tA)))))
  (A4 : Hid (∀ w1, Calls Tryz.prog 85 #[.agg #[.bool n4, .string s4, .string d4, .bool n5, .string s5, .string d5], .agg #[.bool n6, .string s6, .string d6, .bool n7, .string s7, .string d7], .agg #[.bool n2, .string s2, .string d2, .bool n3, .string s3, .string d3]] w1 (Re w1 (.int .i64 (tB))))) :
  Calls Tryz.prog 41 #[.agg #[.bool n0, .string s0, .string d0, .bool n1, .string s1, .string d1], .agg #[.bool n2, .string s2, .string d2, .bool n3, .string s3, .string d3], .agg #[.bool n4, .string s4, .string d4, .bool n5, .string s5, .string d5], .agg #[.bool n6, .string s6, .string d6, .bool n7, .string s7, .string d7]] w (Re w (.int .i64 (mt C D A B tC tD tA tB))) := by
 obtain ⟨R, hR⟩ : ∃ R, R = mt C D A B tC tD tA tB := ⟨_, rfl⟩
 rw [← hR]
 replace hR := shut hR
 go_enter Tryz.func41, Tryz.ntmps41
 go_wp2_with fail
 obtain ⟨w0, hw, ka, kb, kc, kd, bb⟩ := mk4 w [.bool n0, .string s0, .string d0, .bool n1, .string s1, .string d1] [.bool n2, .string s2, .string d2, .bool n3, .string s3, .string d3] [.bool n4, .string s4, .string d4, .bool n5, .string s5, .string d5] [.bool n6, .string s6, .string d6, .bool n7, .string s7, .string d7] 28 28 28 28
 rw [← hw]
 clear hw
 have mkS : Hid (∀ w', Cel w' (w.heap.size) [.bool n0, .string s0, .string d0, .bool n1, .string s1, .string d1] 28 → Cel w' (w.heap.size + 1) [.bool n2, .string s2, .string d2, .bool n3, .string s3, .string d3] 28 → Cel w' (w.heap.size + 1 + 1) [.bool n4, .string s4, .string d4, .bool n5, .string s5, .string d5] 28 → Cel w' (w.heap.size + 1 + 1 + 1) [.bool n6, .string s6, .string d6, .bool n7, .string s7, .string d7] 28 → (xc6 w' w.heap.size (.bool n0) (.string s0) (.string d0) (.bool n1) (.string s1) (.string d1) ∧ xc6 w' (w.heap.size + 1) (.bool n2) (.string s2) (.string d2) (.bool n3) (.string s3) (.string d3) ∧ xc6 w' (w.heap.size + 1 + 1) (.bool n4) (.string s4) (.string d4) (.bool n5) (.string s5) (.string d5) ∧ xc6 w' (w.heap.size + 1 + 1 + 1) (.bool n6) (.string s6) (.string d6) (.bool n7) (.string s7) (.string d7))) := fun w' ha hb hc hd => ⟨xk6 ha, xk6 hb, xk6 hc, xk6 hd⟩
 go_region_held3 (fun w' => xc6 w' w.heap.size (.bool n0) (.string s0) (.string d0) (.bool n1) (.string s1) (.string d1) ∧ xc6 w' (w.heap.size + 1) (.bool n2) (.string s2) (.string d2) (.bool n3) (.string s3) (.string d3) ∧ xc6 w' (w.heap.size + 1 + 1) (.bool n4) (.string s4) (.string d4) (.bool n5) (.string s5) (.string d5) ∧ xc6 w' (w.heap.size + 1 + 1 + 1) (.bool n6) (.string s6) (.string d6) (.bool n7) (.string s7) (.string d7)) (first | with_reducible exact mkS.out _ ka kb kc kd | exact mkS.out _ ka kb kc kd) (first | (go_at_call 81; go_fit (H1.out _); rintro e wn ⟨rfl, bn⟩; replace ka := ka.below (un bn); replace kb := kb.below (un bn); replace kc := kc.below (un bn); replace kd := kd.below (un bn); replace bb := Below.after bb (un bn)) | (go_at_call 81; go_fit (H2.out _); rintro e wn ⟨rfl, bn⟩; replace ka := ka.below (un bn); replace kb := kb.below (un bn); replace kc := kc.below (un bn); replace kd := kd.below (un bn); replace bb := Below.after bb (un bn)))
 clear mkS
 by_cases h0 : 0 < C * D
 ·have G0 := shut h0
  go_wp2
  go_ret
  exact ⟨by rw [hR.out, show mt C D A B tC tD tA tB = 0 from by unfold mt; exact if_pos (by have := G0.out; omega)]; rfl, bb⟩
 have G0 := shut h0
 go_wp2_with fail
 have mkS : Hid (∀ w', Cel w' (w.heap.size) [.bool n0, .string s0, .string d0, .bool n1, .string s1, .string d1] 28 → Cel w' (w.heap.size + 1) [.bool n2, .string s2, .string d2, .bool n3, .string s3, .string d3] 28 → Cel w' (w.heap.size + 1 + 1) [.bool n4, .string s4, .string d4, .bool n5, .string s5, .string d5] 28 → Cel w' (w.heap.size + 1 + 1 + 1) [.bool n6, .string s6, .string d6, .bool n7, .string s7, .string d7] 28 → (xc6 w' w.heap.size (.bool n0) (.string s0) (.string d0) (.bool n1) (.string s1) (.string d1) ∧ xc6 w' (w.heap.size + 1) (.bool n2) (.string s2) (.string d2) (.bool n3) (.string s3) (.string d3) ∧ xc6 w' (w.heap.size + 1 + 1) (.bool n4) (.string s4) (.string d4) (.bool n5) (.string s5) (.string d5) ∧ xc6 w' (w.heap.size + 1 + 1 + 1) (.bool n6) (.string s6) (.string d6) (.bool n7) (.string s7) (.string d7))) := fun w' ha hb hc hd => ⟨xk6 ha, xk6 hb, xk6 hc, xk6 hd⟩
 go_region_held3 (fun w' => xc6 w' w.heap.size (.bool n0) (.string s0) (.string d0) (.bool n1) (.string s1) (.string d1) ∧ xc6 w' (w.heap.size + 1) (.bool n2) (.string s2) (.string d2) (.bool n3) (.string s3) (.string d3) ∧ xc6 w' (w.heap.size + 1 + 1) (.bool n4) (.string s4) (.string d4) (.bool n5) (.string s5) (.string d5) ∧ xc6 w' (w.heap.size + 1 + 1 + 1) (.bool n6) (.string s6) (.string d6) (.bool n7) (.string s7) (.string d7)) (first | with_reducible exact mkS.out _ ka kb kc kd | exact mkS.out _ ka kb kc kd) (first | (go_at_call 81; go_fit (H3.out _); rintro e wn ⟨rfl, bn⟩; replace ka := ka.below (un bn); replace kb := kb.below (un bn); replace kc := kc.below (un bn); replace kd := kd.below (un bn); replace bb := Below.after bb (un bn)) | (go_at_call 81; go_fit (H4.out _); rintro e wn ⟨rfl, bn⟩; replace ka := ka.below (un bn); replace kb := kb.below (un bn); replace kc := kc.below (un bn); replace kd := kd.below (un bn); replace bb := Below.after bb (un bn)))
 clear mkS
 by_cases e0 : C = 0
 ·have E0 := shut e0
  obtain ⟨ca0, ca1, ca2, ca3, ca4, ca5⟩ := xk6 ka
  obtain ⟨cb0, cb1, cb2, cb3, cb4, cb5⟩ := xk6 kb
  obtain ⟨cc0, cc1, cc2, cc3, cc4, cc5⟩ := xk6 kc
  go_wp2_with fail
  go_fit (A1.out _)
  rintro e y0 ⟨rfl, b1⟩
  replace ka := ka.below b1
  replace kb := kb.below b1
  replace kc := kc.below b1
  replace kd := kd.below b1
  replace bb := Below.after bb b1
  clear b1
  clear ca0 ca1 ca2 ca3 ca4 ca5 cb0 cb1 cb2 cb3 cb4 cb5 cc0 cc1 cc2 cc3 cc4 cc5
  by_cases f0 : 0 ≤ tC
  ·have F0 := shut f0
   go_wp2
   go_ret
   exact ⟨by rw [hR.out, show mt C D A B tC tD tA tB = 2 from by have g0 := E0.out; have g1 := F0.out; unfold mt; rw [if_neg (by have := G0.out; omega)]; exact if_pos (by omega)]; rfl, bb⟩
  have F0 := shut f0
  by_cases e1 : D = 0
  ·have E1 := shut e1
   obtain ⟨ca0, ca1, ca2, ca3, ca4, ca5⟩ := xk6 ka
   obtain ⟨cb0, cb1, cb2, cb3, cb4, cb5⟩ := xk6 kb
   obtain ⟨cd0, cd1, cd2, cd3, cd4, cd5⟩ := xk6 kd
   go_wp2_with fail
   go_fit (A2.out _)
   rintro e y1 ⟨rfl, b1⟩
   replace ka := ka.below b1
   replace kb := kb.below b1
   replace kc := kc.below b1
   replace kd := kd.below b1
   replace bb := Below.after bb b1
   clear b1
   clear ca0 ca1 ca2 ca3 ca4 ca5 cb0 cb1 cb2 cb3 cb4 cb5 cd0 cd1 cd2 cd3 cd4 cd5
   by_cases f1 : 0 ≤ tD
   ·have F1 := shut f1
    go_wp2
    go_ret
    exact ⟨by rw [hR.out, show mt C D A B tC tD tA tB = 2 from by have g0 := F0.out; have g1 := E1.out; have g2 := F1.out; unfold mt; rw [if_neg (by have := G0.out; omega)]; exact if_pos (by omega)]; rfl, bb⟩
   have F1 := shut f1
   by_cases e2 : A = 0
   ·have E2 := shut e2
    obtain ⟨cc0, cc1, cc2, cc3, cc4, cc5⟩ := xk6 kc
    obtain ⟨cd0, cd1, cd2, cd3, cd4, cd5⟩ := xk6 kd
    obtain ⟨ca0, ca1, ca2, ca3, ca4, ca5⟩ := xk6 ka
    go_wp2_with fail
    go_fit (A3.out _)
    rintro e y2 ⟨rfl, b1⟩
    replace ka := ka.below b1
    replace kb := kb.below b1
    replace kc := kc.below b1
    replace kd := kd.below b1
    replace bb := Below.after bb b1
    clear b1
    clear cc0 cc1 cc2 cc3 cc4 cc5 cd0 cd1 cd2 cd3 cd4 cd5 ca0 ca1 ca2 ca3 ca4 ca5
    by_cases f2 : 0 ≤ tA
    ·have F2 := shut f2
     go_wp2
     go_ret
     exact ⟨by rw [hR.out, show mt C D A B tC tD tA tB = 2 from by have g0 := F0.out; have g1 := F1.out; have g2 := E2.out; have g3 := F2.out; unfold mt; rw [if_neg (by have := G0.out; omega)]; exact if_pos (by omega)]; rfl, bb⟩
    have F2 := shut f2
    by_cases e3 : B = 0
    ·have E3 := shut e3
     obtain ⟨cc0, cc1, cc2, cc3, cc4, cc5⟩ := xk6 kc
     obtain ⟨cd0, cd1, cd2, cd3, cd4, cd5⟩ := xk6 kd
     obtain ⟨cb0, cb1, cb2, cb3, cb4, cb5⟩ := xk6 kb
     go_wp2_with fail
     go_fit (A4.out _)
     rintro e y3 ⟨rfl, b1⟩
     replace ka := ka.below b1
     replace kb := kb.below b1
     replace kc := kc.below b1
     replace kd := kd.below b1
     replace bb := Below.after bb b1
     clear b1
     clear cc0 cc1 cc2 cc3 cc4 cc5 cd0 cd1 cd2 cd3 cd4 cd5 cb0 cb1 cb2 cb3 cb4 cb5
     by_cases f3 : 0 ≤ tB
     ·have F3 := shut f3
      go_wp2
      go_ret
      exact ⟨by rw [hR.out, show mt C D A B tC tD tA tB = 2 from by have g0 := F0.out; have g1 := F1.out; have g2 := F2.out; have g3 := E3.out; have g4 := F3.out; unfold mt; rw [if_neg (by have := G0.out; omega)]; exact if_pos (by omega)]; rfl, bb⟩
     have F3 := shut f3
     have X1 : Hid (¬ C * D < 0) := by show ¬ C * D < 0; rw [E0.out, Int.zero_mul]; omega
     go_wp2
     go_ret
     exact ⟨by rw [hR.out, show mt C D A B tC tD tA tB = 0 from by have g0 := F0.out; have g1 := F1.out; have g2 := F2.out; have g3 := F3.out; have x1 := X1.out; unfold mt; rw [if_neg (by have := G0.out; omega), if_neg (by omega)]; exact if_neg (by omega)]; rfl, bb⟩
    have E3 := shut e3
    have X1 : Hid (¬ C * D < 0) := by show ¬ C * D < 0; rw [E0.out, Int.zero_mul]; omega
    go_wp2
    go_ret
    exact ⟨by rw [hR.out, show mt C D A B tC tD tA tB = 0 from by have g0 := F0.out; have g1 := F1.out; have g2 := F2.out; have g3 := E3.out; have x1 := X1.out; unfold mt; rw [if_neg (by have := G0.out; omega), if_neg (by omega)]; exact if_neg (by omega)]; rfl, bb⟩
   have E2 := shut e2
   by_cases e3 : B = 0
   ·have E3 := shut e3
    obtain ⟨cc0, cc1, cc2, cc3, cc4, cc5⟩ := xk6 kc
    obtain ⟨cd0, cd1, cd2, cd3, cd4, cd5⟩ := xk6 kd
    obtain ⟨cb0, cb1, cb2, cb3, cb4, cb5⟩ := xk6 kb
    go_wp2_with fail
    go_fit (A4.out _)
    rintro e y3 ⟨rfl, b1⟩
    replace ka := ka.below b1
    replace kb := kb.below b1
    replace kc := kc.below b1
    replace kd := kd.below b1
    replace bb := Below.after bb b1
    clear b1
    clear cc0 cc1 cc2 cc3 cc4 cc5 cd0 cd1 cd2 cd3 cd4 cd5 cb0 cb1 cb2 cb3 cb4 cb5
    by_cases f3 : 0 ≤ tB
    ·have F3 := shut f3
     go_wp2
     go_ret
     exact ⟨by rw [hR.out, show mt C D A B tC tD tA tB = 2 from by have g0 := F0.out; have g1 := F1.out; have g2 := E2.out; have g3 := E3.out; have g4 := F3.out; unfold mt; rw [if_neg (by have := G0.out; omega)]; exact if_pos (by omega)]; rfl, bb⟩
    have F3 := shut f3
    have X1 : Hid (¬ C * D < 0) := by show ¬ C * D < 0; rw [E0.out, Int.zero_mul]; omega
    go_wp2
    go_ret
    exact ⟨by rw [hR.out, show mt C D A B tC tD tA tB = 0 from by have g0 := F0.out; have g1 := F1.out; have g2 := E2.out; have g3 := F3.out; have x1 := X1.out; unfold mt; rw [if_neg (by have := G0.out; omega), if_neg (by omega)]; exact if_neg (by omega)]; rfl, bb⟩
   have E3 := shut e3
   have X1 : Hid (¬ C * D < 0) := by show ¬ C * D < 0; rw [E0.out, Int.zero_mul]; omega
   go_wp2
   go_ret
   exact ⟨by rw [hR.out, show mt C D A B tC tD tA tB = 0 from by have g0 := F0.out; have g1 := F1.out; have g2 := E2.out; have g3 := E3.out; have x1 := X1.out; unfold mt; rw [if_neg (by have := G0.out; omega), if_neg (by omega)]; exact if_neg (by omega)]; rfl, bb⟩
  have E1 := shut e1
  by_cases e2 : A = 0
  ·have E2 := shut e2
   obtain ⟨cc0, cc1, cc2, cc3, cc4, cc5⟩ := xk6 kc
   obtain ⟨cd0, cd1, cd2, cd3, cd4, cd5⟩ := xk6 kd
   obtain ⟨ca0, ca1, ca2, ca3, ca4, ca5⟩ := xk6 ka
   go_wp2_with fail
   go_fit (A3.out _)
   rintro e y2 ⟨rfl, b1⟩
   replace ka := ka.below b1
   replace kb := kb.below b1
   replace kc := kc.below b1
   replace kd := kd.below b1
   replace bb := Below.after bb b1
   clear b1
   clear cc0 cc1 cc2 cc3 cc4 cc5 cd0 cd1 cd2 cd3 cd4 cd5 ca0 ca1 ca2 ca3 ca4 ca5
   by_cases f2 : 0 ≤ tA
   ·have F2 := shut f2
    go_wp2
    go_ret
    exact ⟨by rw [hR.out, show mt C D A B tC tD tA tB = 2 from by have g0 := F0.out; have g1 := E1.out; have g2 := E2.out; have g3 := F2.out; unfold mt; rw [if_neg (by have := G0.out; omega)]; exact if_pos (by omega)]; rfl, bb⟩
   have F2 := shut f2
   by_cases e3 : B = 0
   ·have E3 := shut e3
    obtain ⟨cc0, cc1, cc2, cc3, cc4, cc5⟩ := xk6 kc
    obtain ⟨cd0, cd1, cd2, cd3, cd4, cd5⟩ := xk6 kd
    obtain ⟨cb0, cb1, cb2, cb3, cb4, cb5⟩ := xk6 kb
    go_wp2_with fail
    go_fit (A4.out _)
    rintro e y3 ⟨rfl, b1⟩
    replace ka := ka.below b1
    replace kb := kb.below b1
    replace kc := kc.below b1
    replace kd := kd.below b1
    replace bb := Below.after bb b1
    clear b1
    clear cc0 cc1 cc2 cc3 cc4 cc5 cd0 cd1 cd2 cd3 cd4 cd5 cb0 cb1 cb2 cb3 cb4 cb5
    by_cases f3 : 0 ≤ tB
    ·have F3 := shut f3
     go_wp2
     go_ret
     exact ⟨by rw [hR.out, show mt C D A B tC tD tA tB = 2 from by have g0 := F0.out; have g1 := E1.out; have g2 := F2.out; have g3 := E3.out; have g4 := F3.out; unfold mt; rw [if_neg (by have := G0.out; omega)]; exact if_pos (by omega)]; rfl, bb⟩
    have F3 := shut f3
    have X1 : Hid (¬ C * D < 0) := by show ¬ C * D < 0; rw [E0.out, Int.zero_mul]; omega
    go_wp2
    go_ret
    exact ⟨by rw [hR.out, show mt C D A B tC tD tA tB = 0 from by have g0 := F0.out; have g1 := E1.out; have g2 := F2.out; have g3 := F3.out; have x1 := X1.out; unfold mt; rw [if_neg (by have := G0.out; omega), if_neg (by omega)]; exact if_neg (by omega)]; rfl, bb⟩
   have E3 := shut e3
   have X1 : Hid (¬ C * D < 0) := by show ¬ C * D < 0; rw [E0.out, Int.zero_mul]; omega
   go_wp2
   go_ret
   exact ⟨by rw [hR.out, show mt C D A B tC tD tA tB = 0 from by have g0 := F0.out; have g1 := E1.out; have g2 := F2.out; have g3 := E3.out; have x1 := X1.out; unfold mt; rw [if_neg (by have := G0.out; omega), if_neg (by omega)]; exact if_neg (by omega)]; rfl, bb⟩
  have E2 := shut e2
  by_cases e3 : B = 0
  ·have E3 := shut e3
   obtain ⟨cc0, cc1, cc2, cc3, cc4, cc5⟩ := xk6 kc
   obtain ⟨cd0, cd1, cd2, cd3, cd4, cd5⟩ := xk6 kd
   obtain ⟨cb0, cb1, cb2, cb3, cb4, cb5⟩ := xk6 kb
   go_wp2_with fail
   go_fit (A4.out _)
   rintro e y3 ⟨rfl, b1⟩
   replace ka := ka.below b1
   replace kb := kb.below b1
   replace kc := kc.below b1
   replace kd := kd.below b1
   replace bb := Below.after bb b1
   clear b1
   clear cc0 cc1 cc2 cc3 cc4 cc5 cd0 cd1 cd2 cd3 cd4 cd5 cb0 cb1 cb2 cb3 cb4 cb5
   by_cases f3 : 0 ≤ tB
   ·have F3 := shut f3
    go_wp2
    go_ret
    exact ⟨by rw [hR.out, show mt C D A B tC tD tA tB = 2 from by have g0 := F0.out; have g1 := E1.out; have g2 := E2.out; have g3 := E3.out; have g4 := F3.out; unfold mt; rw [if_neg (by have := G0.out; omega)]; exact if_pos (by omega)]; rfl, bb⟩
   have F3 := shut f3
   have X1 : Hid (¬ C * D < 0) := by show ¬ C * D < 0; rw [E0.out, Int.zero_mul]; omega
   go_wp2
   go_ret
   exact ⟨by rw [hR.out, show mt C D A B tC tD tA tB = 0 from by have g0 := F0.out; have g1 := E1.out; have g2 := E2.out; have g3 := F3.out; have x1 := X1.out; unfold mt; rw [if_neg (by have := G0.out; omega), if_neg (by omega)]; exact if_neg (by omega)]; rfl, bb⟩
  have E3 := shut e3
  have X1 : Hid (¬ C * D < 0) := by show ¬ C * D < 0; rw [E0.out, Int.zero_mul]; omega
  go_wp2
  go_ret
  exact ⟨by rw [hR.out, show mt C D A B tC tD tA tB = 0 from by have g0 := F0.out; have g1 := E1.out; have g2 := E2.out; have g3 := E3.out; have x1 := X1.out; unfold mt; rw [if_neg (by have := G0.out; omega), if_neg (by omega)]; exact if_neg (by omega)]; rfl, bb⟩
 have E0 := shut e0
 by_cases e1 : D = 0
 ·have E1 := shut e1
  obtain ⟨ca0, ca1, ca2, ca3, ca4, ca5⟩ := xk6 ka
  obtain ⟨cb0, cb1, cb2, cb3, cb4, cb5⟩ := xk6 kb
  obtain ⟨cd0, cd1, cd2, cd3, cd4, cd5⟩ := xk6 kd
  go_wp2_with fail
  go_fit (A2.out _)
  rintro e y1 ⟨rfl, b1⟩
  replace ka := ka.below b1
  replace kb := kb.below b1
  replace kc := kc.below b1
  replace kd := kd.below b1
  replace bb := Below.after bb b1
  clear b1
  clear ca0 ca1 ca2 ca3 ca4 ca5 cb0 cb1 cb2 cb3 cb4 cb5 cd0 cd1 cd2 cd3 cd4 cd5
  by_cases f1 : 0 ≤ tD
  ·have F1 := shut f1
   go_wp2
   go_ret
   exact ⟨by rw [hR.out, show mt C D A B tC tD tA tB = 2 from by have g0 := E0.out; have g1 := E1.out; have g2 := F1.out; unfold mt; rw [if_neg (by have := G0.out; omega)]; exact if_pos (by omega)]; rfl, bb⟩
  have F1 := shut f1
  by_cases e2 : A = 0
  ·have E2 := shut e2
   obtain ⟨cc0, cc1, cc2, cc3, cc4, cc5⟩ := xk6 kc
   obtain ⟨cd0, cd1, cd2, cd3, cd4, cd5⟩ := xk6 kd
   obtain ⟨ca0, ca1, ca2, ca3, ca4, ca5⟩ := xk6 ka
   go_wp2_with fail
   go_fit (A3.out _)
   rintro e y2 ⟨rfl, b1⟩
   replace ka := ka.below b1
   replace kb := kb.below b1
   replace kc := kc.below b1
   replace kd := kd.below b1
   replace bb := Below.after bb b1
   clear b1
   clear cc0 cc1 cc2 cc3 cc4 cc5 cd0 cd1 cd2 cd3 cd4 cd5 ca0 ca1 ca2 ca3 ca4 ca5
   by_cases f2 : 0 ≤ tA
   ·have F2 := shut f2
    go_wp2
    go_ret
    exact ⟨by rw [hR.out, show mt C D A B tC tD tA tB = 2 from by have g0 := E0.out; have g1 := F1.out; have g2 := E2.out; have g3 := F2.out; unfold mt; rw [if_neg (by have := G0.out; omega)]; exact if_pos (by omega)]; rfl, bb⟩
   have F2 := shut f2
   by_cases e3 : B = 0
   ·have E3 := shut e3
    obtain ⟨cc0, cc1, cc2, cc3, cc4, cc5⟩ := xk6 kc
    obtain ⟨cd0, cd1, cd2, cd3, cd4, cd5⟩ := xk6 kd
    obtain ⟨cb0, cb1, cb2, cb3, cb4, cb5⟩ := xk6 kb
    go_wp2_with fail
    go_fit (A4.out _)
    rintro e y3 ⟨rfl, b1⟩
    replace ka := ka.below b1
    replace kb := kb.below b1
    replace kc := kc.below b1
    replace kd := kd.below b1
    replace bb := Below.after bb b1
    clear b1
    clear cc0 cc1 cc2 cc3 cc4 cc5 cd0 cd1 cd2 cd3 cd4 cd5 cb0 cb1 cb2 cb3 cb4 cb5
    by_cases f3 : 0 ≤ tB
    ·have F3 := shut f3
     go_wp2
     go_ret
     exact ⟨by rw [hR.out, show mt C D A B tC tD tA tB = 2 from by have g0 := E0.out; have g1 := F1.out; have g2 := F2.out; have g3 := E3.out; have g4 := F3.out; unfold mt; rw [if_neg (by have := G0.out; omega)]; exact if_pos (by omega)]; rfl, bb⟩
    have F3 := shut f3
    have X1 : Hid (¬ C * D < 0) := by show ¬ C * D < 0; rw [E1.out, Int.mul_zero]; omega
    go_wp2
    go_ret
    exact ⟨by rw [hR.out, show mt C D A B tC tD tA tB = 0 from by have g0 := E0.out; have g1 := F1.out; have g2 := F2.out; have g3 := F3.out; have x1 := X1.out; unfold mt; rw [if_neg (by have := G0.out; omega), if_neg (by omega)]; exact if_neg (by omega)]; rfl, bb⟩
   have E3 := shut e3
   have X1 : Hid (¬ C * D < 0) := by show ¬ C * D < 0; rw [E1.out, Int.mul_zero]; omega
   go_wp2
   go_ret
   exact ⟨by rw [hR.out, show mt C D A B tC tD tA tB = 0 from by have g0 := E0.out; have g1 := F1.out; have g2 := F2.out; have g3 := E3.out; have x1 := X1.out; unfold mt; rw [if_neg (by have := G0.out; omega), if_neg (by omega)]; exact if_neg (by omega)]; rfl, bb⟩
  have E2 := shut e2
  by_cases e3 : B = 0
  ·have E3 := shut e3
   obtain ⟨cc0, cc1, cc2, cc3, cc4, cc5⟩ := xk6 kc
   obtain ⟨cd0, cd1, cd2, cd3, cd4, cd5⟩ := xk6 kd
   obtain ⟨cb0, cb1, cb2, cb3, cb4, cb5⟩ := xk6 kb
   go_wp2_with fail
   go_fit (A4.out _)
   rintro e y3 ⟨rfl, b1⟩
   replace ka := ka.below b1
   replace kb := kb.below b1
   replace kc := kc.below b1
   replace kd := kd.below b1
   replace bb := Below.after bb b1
   clear b1
   clear cc0 cc1 cc2 cc3 cc4 cc5 cd0 cd1 cd2 cd3 cd4 cd5 cb0 cb1 cb2 cb3 cb4 cb5
   by_cases f3 : 0 ≤ tB
   ·have F3 := shut f3
    go_wp2
    go_ret
    exact ⟨by rw [hR.out, show mt C D A B tC tD tA tB = 2 from by have g0 := E0.out; have g1 := F1.out; have g2 := E2.out; have g3 := E3.out; have g4 := F3.out; unfold mt; rw [if_neg (by have := G0.out; omega)]; exact if_pos (by omega)]; rfl, bb⟩
   have F3 := shut f3
   have X1 : Hid (¬ C * D < 0) := by show ¬ C * D < 0; rw [E1.out, Int.mul_zero]; omega
   go_wp2
   go_ret
   exact ⟨by rw [hR.out, show mt C D A B tC tD tA tB = 0 from by have g0 := E0.out; have g1 := F1.out; have g2 := E2.out; have g3 := F3.out; have x1 := X1.out; unfold mt; rw [if_neg (by have := G0.out; omega), if_neg (by omega)]; exact if_neg (by omega)]; rfl, bb⟩
  have E3 := shut e3
  have X1 : Hid (¬ C * D < 0) := by show ¬ C * D < 0; rw [E1.out, Int.mul_zero]; omega
  go_wp2
  go_ret
  exact ⟨by rw [hR.out, show mt C D A B tC tD tA tB = 0 from by have g0 := E0.out; have g1 := F1.out; have g2 := E2.out; have g3 := E3.out; have x1 := X1.out; unfold mt; rw [if_neg (by have := G0.out; omega), if_neg (by omega)]; exact if_neg (by omega)]; rfl, bb⟩
 have E1 := shut e1
 by_cases e2 : A = 0
 ·have E2 := shut e2
  obtain ⟨cc0, cc1, cc2, cc3, cc4, cc5⟩ := xk6 kc
  obtain ⟨cd0, cd1, cd2, cd3, cd4, cd5⟩ := xk6 kd
  obtain ⟨ca0, ca1, ca2, ca3, ca4, ca5⟩ := xk6 ka
  go_wp2_with fail
  go_fit (A3.out _)
  rintro e y2 ⟨rfl, b1⟩
  replace ka := ka.below b1
  replace kb := kb.below b1
  replace kc := kc.below b1
  replace kd := kd.below b1
  replace bb := Below.after bb b1
  clear b1
  clear cc0 cc1 cc2 cc3 cc4 cc5 cd0 cd1 cd2 cd3 cd4 cd5 ca0 ca1 ca2 ca3 ca4 ca5
  by_cases f2 : 0 ≤ tA
  ·have F2 := shut f2
   go_wp2
   go_ret
   exact ⟨by rw [hR.out, show mt C D A B tC tD tA tB = 2 from by have g0 := E0.out; have g1 := E1.out; have g2 := E2.out; have g3 := F2.out; unfold mt; rw [if_neg (by have := G0.out; omega)]; exact if_pos (by omega)]; rfl, bb⟩
  have F2 := shut f2
  by_cases e3 : B = 0
  ·have E3 := shut e3
   obtain ⟨cc0, cc1, cc2, cc3, cc4, cc5⟩ := xk6 kc
   obtain ⟨cd0, cd1, cd2, cd3, cd4, cd5⟩ := xk6 kd
   obtain ⟨cb0, cb1, cb2, cb3, cb4, cb5⟩ := xk6 kb
   go_wp2_with fail
   go_fit (A4.out _)
   rintro e y3 ⟨rfl, b1⟩
   replace ka := ka.below b1
   replace kb := kb.below b1
   replace kc := kc.below b1
   replace kd := kd.below b1
   replace bb := Below.after bb b1
   clear b1
   clear cc0 cc1 cc2 cc3 cc4 cc5 cd0 cd1 cd2 cd3 cd4 cd5 cb0 cb1 cb2 cb3 cb4 cb5
   by_cases f3 : 0 ≤ tB
   ·have F3 := shut f3
    go_wp2
    go_ret
    exact ⟨by rw [hR.out, show mt C D A B tC tD tA tB = 2 from by have g0 := E0.out; have g1 := E1.out; have g2 := F2.out; have g3 := E3.out; have g4 := F3.out; unfold mt; rw [if_neg (by have := G0.out; omega)]; exact if_pos (by omega)]; rfl, bb⟩
   have F3 := shut f3
   by_cases x1 : C * D < 0
   ·have X1 := shut x1
    have X2 : Hid (¬ A * B < 0) := by show ¬ A * B < 0; rw [E2.out, Int.zero_mul]; omega
    go_wp2
    go_ret
    exact ⟨by rw [hR.out, show mt C D A B tC tD tA tB = 0 from by have g0 := E0.out; have g1 := E1.out; have g2 := F2.out; have g3 := F3.out; have x2 := X2.out; unfold mt; rw [if_neg (by have := G0.out; omega), if_neg (by omega)]; exact if_neg (by omega)]; rfl, bb⟩
   ·have X1 := shut x1
    go_wp2
    go_ret
    exact ⟨by rw [hR.out, show mt C D A B tC tD tA tB = 0 from by have g0 := E0.out; have g1 := E1.out; have g2 := F2.out; have g3 := F3.out; have x1 := X1.out; unfold mt; rw [if_neg (by have := G0.out; omega), if_neg (by omega)]; exact if_neg (by omega)]; rfl, bb⟩
  have E3 := shut e3
  by_cases x1 : C * D < 0
  ·have X1 := shut x1
   have X2 : Hid (¬ A * B < 0) := by show ¬ A * B < 0; rw [E2.out, Int.zero_mul]; omega
   go_wp2
   go_ret
   exact ⟨by rw [hR.out, show mt C D A B tC tD tA tB = 0 from by have g0 := E0.out; have g1 := E1.out; have g2 := F2.out; have g3 := E3.out; have x2 := X2.out; unfold mt; rw [if_neg (by have := G0.out; omega), if_neg (by omega)]; exact if_neg (by omega)]; rfl, bb⟩
  ·have X1 := shut x1
   go_wp2
   go_ret
   exact ⟨by rw [hR.out, show mt C D A B tC tD tA tB = 0 from by have g0 := E0.out; have g1 := E1.out; have g2 := F2.out; have g3 := E3.out; have x1 := X1.out; unfold mt; rw [if_neg (by have := G0.out; omega), if_neg (by omega)]; exact if_neg (by omega)]; rfl, bb⟩
 have E2 := shut e2
 by_cases e3 : B = 0
 ·have E3 := shut e3
  obtain ⟨cc0, cc1, cc2, cc3, cc4, cc5⟩ := xk6 kc
  obtain ⟨cd0, cd1, cd2, cd3, cd4, cd5⟩ := xk6 kd
  obtain ⟨cb0, cb1, cb2, cb3, cb4, cb5⟩ := xk6 kb
  go_wp2_with fail
  go_fit (A4.out _)
  rintro e y3 ⟨rfl, b1⟩
  replace ka := ka.below b1
  replace kb := kb.below b1
  replace kc := kc.below b1
  replace kd := kd.below b1
  replace bb := Below.after bb b1
  clear b1
  clear cc0 cc1 cc2 cc3 cc4 cc5 cd0 cd1 cd2 cd3 cd4 cd5 cb0 cb1 cb2 cb3 cb4 cb5
  by_cases f3 : 0 ≤ tB
  ·have F3 := shut f3
   go_wp2
   go_ret
   exact ⟨by rw [hR.out, show mt C D A B tC tD tA tB = 2 from by have g0 := E0.out; have g1 := E1.out; have g2 := E2.out; have g3 := E3.out; have g4 := F3.out; unfold mt; rw [if_neg (by have := G0.out; omega)]; exact if_pos (by omega)]; rfl, bb⟩
  have F3 := shut f3
  by_cases x1 : C * D < 0
  ·have X1 := shut x1
   have X2 : Hid (¬ A * B < 0) := by show ¬ A * B < 0; rw [E3.out, Int.mul_zero]; omega
   go_wp2
   go_ret
   exact ⟨by rw [hR.out, show mt C D A B tC tD tA tB = 0 from by have g0 := E0.out; have g1 := E1.out; have g2 := E2.out; have g3 := F3.out; have x2 := X2.out; unfold mt; rw [if_neg (by have := G0.out; omega), if_neg (by omega)]; exact if_neg (by omega)]; rfl, bb⟩
  ·have X1 := shut x1
   go_wp2
   go_ret
   exact ⟨by rw [hR.out, show mt C D A B tC tD tA tB = 0 from by have g0 := E0.out; have g1 := E1.out; have g2 := E2.out; have g3 := F3.out; have x1 := X1.out; unfold mt; rw [if_neg (by have := G0.out; omega), if_neg (by omega)]; exact if_neg (by omega)]; rfl, bb⟩
 have E3 := shut e3
 by_cases x1 : C * D < 0
 ·have X1 := shut x1
  by_cases x2 : A * B < 0
  ·have X2 := shut x2
   go_wp2
   go_ret
   exact ⟨by rw [hR.out, show mt C D A B tC tD tA tB = 1 from by have g0 := E0.out; have g1 := E1.out; have g2 := E2.out; have g3 := E3.out; have := X1.out; have := X2.out; unfold mt; rw [if_neg (by have := G0.out; omega), if_neg (by omega)]; exact if_pos (by omega)]; rfl, bb⟩
  ·have X2 := shut x2
   go_wp2
   go_ret
   exact ⟨by rw [hR.out, show mt C D A B tC tD tA tB = 0 from by have g0 := E0.out; have g1 := E1.out; have g2 := E2.out; have g3 := E3.out; have x2 := X2.out; unfold mt; rw [if_neg (by have := G0.out; omega), if_neg (by omega)]; exact if_neg (by omega)]; rfl, bb⟩
 ·have X1 := shut x1
  go_wp2
  go_ret
  exact ⟨by rw [hR.out, show mt C D A B tC tD tA tB = 0 from by have g0 := E0.out; have g1 := E1.out; have g2 := E2.out; have g3 := E3.out; have x1 := X1.out; unfold mt; rw [if_neg (by have := G0.out; omega), if_neg (by omega)]; exact if_neg (by omega)]; rfl, bb⟩
end Go.Proofs.YtmojdkjpcjfkeaaGreatDoor
