/-
  Package rat: rounded, walked.
  Package rat: Make, walked.
  Package rat: reckon; Add, Sub, Mul, Div.
  Package rat: check, of two numbers.
-/
import Derived.Test.YtdbnkcimcpnpdaaGreatDoorG34
namespace Go.Proofs.YtdbnkcimcpnpdaaGreatDoor
open Go.RowKit

set_option maxRecDepth 100000 in
set_option maxHeartbeats 4000000 in
theorem rnd_up (n0 n1 xN yN zN oN pN : Bool) (s0 s1 xS yS zS oS pS : ByteArray) (w : World)
  (H1 : Hid (∀ w1, Calls Tryz.prog 93 #[.agg #[.bool n0, .string s0], .agg #[.bool n1, .string s1]] w1 fun e w' => e = .returned (.tuple #[.agg #[.bool xN, .string xS], .agg #[.bool yN, .string yS], .int .i64 0]) ∧ Below w1.heap.size w1 w'))
  (H2 : Hid (∀ w1, Calls Tryz.prog 79 #[.agg #[.bool yN, .string yS], .agg #[.bool yN, .string yS]] w1 fun e w' => e = .returned (.agg #[.bool zN, .string zS]) ∧ Below w1.heap.size w1 w'))
  (H3 : Hid (∀ w1, Calls Tryz.prog 40 #[.agg #[.bool zN, .string zS], .agg #[.bool n1, .string s1]] w1 fun e w' => e = .returned (.int .i64 1) ∧ Below w1.heap.size w1 w'))
  (H4 : Hid (∀ w1, Calls Tryz.prog 76 #[.int .i64 1] w1 fun e w' => e = .returned (.agg #[.bool oN, .string oS]) ∧ Below w1.heap.size w1 w'))
  (H5 : Hid (∀ w1, Calls Tryz.prog 79 #[.agg #[.bool xN, .string xS], .agg #[.bool oN, .string oS]] w1 fun e w' => e = .returned (.agg #[.bool pN, .string pS]) ∧ Below w1.heap.size w1 w')) :
  Calls Tryz.prog 60 #[.agg #[.bool n0, .string s0], .agg #[.bool n1, .string s1]] w fun e w' => e = .returned (.agg #[.bool pN, .string pS]) ∧ Below w.heap.size w w' := by
 go_enter Tryz.func60, Tryz.ntmps60
 go_wp2_with fail
 go_fit (H1.out _)
 rintro e w1 ⟨rfl, b1⟩
 obtain ⟨ka, kb, kr, b1⟩ := al3 b1
 have sz := b1.size
 have bb := b1
 clear b1
 have ta := ka.lt
 have tb := kb.lt
 have tr := kr.lt
 go_wp2_with fail
 obtain ⟨w2, hw, kx, ky, b1⟩ := mk2 w1 [.bool xN, .string xS] [.bool yN, .string yS] 24 24
 rw [← hw]
 clear hw
 have sz := b1.size
 have tx := kx.lt
 have ty := ky.lt
 replace ka := ka.below b1
 replace kb := kb.below b1
 replace kr := kr.below b1
 replace bb := Below.after bb b1
 clear b1
 go_region_held3 (fun w' => w'.cell? ⟨w.heap.size + 1, 0, none⟩ = some (.bool n1) ∧ w'.cell? ⟨w.heap.size + 1, 1, none⟩ = some (.string s1) ∧ w'.cell? ⟨w1.heap.size + 1, 0, none⟩ = some (.bool yN) ∧ w'.cell? ⟨w1.heap.size + 1, 1, none⟩ = some (.string yS)) (exact ⟨cel2_0' kb, cel2_1' kb, cel2_0' ky, cel2_1' ky⟩) (first | (go_at_call 79; go_fit (H2.out _); rintro e wn ⟨rfl, bn⟩; replace ka := ka.below ⟨bn.os, bn.tape, bn.output, bn.size, bn.block⟩; replace kb := kb.below ⟨bn.os, bn.tape, bn.output, bn.size, bn.block⟩; replace kr := kr.below ⟨bn.os, bn.tape, bn.output, bn.size, bn.block⟩; replace kx := kx.below ⟨bn.os, bn.tape, bn.output, bn.size, bn.block⟩; replace ky := ky.below ⟨bn.os, bn.tape, bn.output, bn.size, bn.block⟩; replace bb := Below.after bb ⟨bn.os, bn.tape, bn.output, bn.size, bn.block⟩) | (go_at_call 40; go_fit (H3.out _); rintro e wn ⟨rfl, bn⟩; replace ka := ka.below ⟨bn.os, bn.tape, bn.output, bn.size, bn.block⟩; replace kb := kb.below ⟨bn.os, bn.tape, bn.output, bn.size, bn.block⟩; replace kr := kr.below ⟨bn.os, bn.tape, bn.output, bn.size, bn.block⟩; replace kx := kx.below ⟨bn.os, bn.tape, bn.output, bn.size, bn.block⟩; replace ky := ky.below ⟨bn.os, bn.tape, bn.output, bn.size, bn.block⟩; replace bb := Below.after bb ⟨bn.os, bn.tape, bn.output, bn.size, bn.block⟩))
 clear ka
 clear ky
 go_wp2_with fail
 have qx : w1.heap.size ≠ w.heap.size + 1 + 1 := by omega
 go_region_held3 (fun w' => w'.cell? ⟨w1.heap.size, 0, none⟩ = some (.bool xN) ∧ w'.cell? ⟨w1.heap.size, 1, none⟩ = some (.string xS)) (first | exact ⟨cel2_0' kx, cel2_1' kx⟩ | exact ⟨cel2_0' (Cel.other (Cel.other kx qx 0 _) qx 1 _), cel2_1' (Cel.other (Cel.other kx qx 0 _) qx 1 _)⟩) (first | (go_at_call 76; go_fit (H4.out _); rintro e wn ⟨rfl, bn⟩; replace kb := kb.below ⟨bn.os, bn.tape, bn.output, bn.size, bn.block⟩; replace kr := kr.below ⟨bn.os, bn.tape, bn.output, bn.size, bn.block⟩; replace kx := kx.below ⟨bn.os, bn.tape, bn.output, bn.size, bn.block⟩; replace bb := Below.after bb ⟨bn.os, bn.tape, bn.output, bn.size, bn.block⟩) | (go_at_call 79; go_fit (H5.out _); rintro e wn ⟨rfl, bn⟩; replace kb := kb.below ⟨bn.os, bn.tape, bn.output, bn.size, bn.block⟩; replace kr := kr.below ⟨bn.os, bn.tape, bn.output, bn.size, bn.block⟩; replace kx := kx.below ⟨bn.os, bn.tape, bn.output, bn.size, bn.block⟩; replace bb := Below.after bb ⟨bn.os, bn.tape, bn.output, bn.size, bn.block⟩; have e0 := cel2_0' kr; have f0 := Cel.frozen kr 0; have e1 := cel2_1' kr; have f1 := Cel.frozen kr 1))
 go_wp2
 exact post_z (p := 4) (by kernel_rfl) rfl rfl ((kr.set 0 _).set 1 _) ⟨rfl, bset (bset bb (by omega) 0 _) (by omega) 1 _⟩
set_option maxRecDepth 100000 in
set_option maxHeartbeats 4000000 in
theorem rnd_odd (n0 n1 xN yN zN oN pN : Bool) (s0 s1 xS yS zS oS pS : ByteArray) (w : World)
  (H1 : Hid (∀ w1, Calls Tryz.prog 93 #[.agg #[.bool n0, .string s0], .agg #[.bool n1, .string s1]] w1 fun e w' => e = .returned (.tuple #[.agg #[.bool xN, .string xS], .agg #[.bool yN, .string yS], .int .i64 0]) ∧ Below w1.heap.size w1 w'))
  (H2 : Hid (∀ w1, Calls Tryz.prog 79 #[.agg #[.bool yN, .string yS], .agg #[.bool yN, .string yS]] w1 fun e w' => e = .returned (.agg #[.bool zN, .string zS]) ∧ Below w1.heap.size w1 w'))
  (H3 : Hid (∀ w1, Calls Tryz.prog 40 #[.agg #[.bool zN, .string zS], .agg #[.bool n1, .string s1]] w1 fun e w' => e = .returned (.int .i64 0) ∧ Below w1.heap.size w1 w'))
  (H4 : Hid (∀ w1, Calls Tryz.prog 76 #[.int .i64 1] w1 fun e w' => e = .returned (.agg #[.bool oN, .string oS]) ∧ Below w1.heap.size w1 w'))
  (H5 : Hid (∀ w1, Calls Tryz.prog 79 #[.agg #[.bool xN, .string xS], .agg #[.bool oN, .string oS]] w1 fun e w' => e = .returned (.agg #[.bool pN, .string pS]) ∧ Below w1.heap.size w1 w'))
  (H6 : Hid (∀ w1, Calls Tryz.prog 94 #[.agg #[.bool xN, .string xS]] w1 fun e w' => e = .returned (.bool true) ∧ Below w1.heap.size w1 w')) :
  Calls Tryz.prog 60 #[.agg #[.bool n0, .string s0], .agg #[.bool n1, .string s1]] w fun e w' => e = .returned (.agg #[.bool pN, .string pS]) ∧ Below w.heap.size w w' := by
 go_enter Tryz.func60, Tryz.ntmps60
 go_wp2_with fail
 go_fit (H1.out _)
 rintro e w1 ⟨rfl, b1⟩
 obtain ⟨ka, kb, kr, b1⟩ := al3 b1
 have sz := b1.size
 have bb := b1
 clear b1
 have ta := ka.lt
 have tb := kb.lt
 have tr := kr.lt
 go_wp2_with fail
 obtain ⟨w2, hw, kx, ky, b1⟩ := mk2 w1 [.bool xN, .string xS] [.bool yN, .string yS] 24 24
 rw [← hw]
 clear hw
 have sz := b1.size
 have tx := kx.lt
 have ty := ky.lt
 replace ka := ka.below b1
 replace kb := kb.below b1
 replace kr := kr.below b1
 replace bb := Below.after bb b1
 clear b1
 go_region_held3 (fun w' => w'.cell? ⟨w.heap.size + 1, 0, none⟩ = some (.bool n1) ∧ w'.cell? ⟨w.heap.size + 1, 1, none⟩ = some (.string s1) ∧ w'.cell? ⟨w1.heap.size + 1, 0, none⟩ = some (.bool yN) ∧ w'.cell? ⟨w1.heap.size + 1, 1, none⟩ = some (.string yS)) (exact ⟨cel2_0' kb, cel2_1' kb, cel2_0' ky, cel2_1' ky⟩) (first | (go_at_call 79; go_fit (H2.out _); rintro e wn ⟨rfl, bn⟩; replace ka := ka.below ⟨bn.os, bn.tape, bn.output, bn.size, bn.block⟩; replace kb := kb.below ⟨bn.os, bn.tape, bn.output, bn.size, bn.block⟩; replace kr := kr.below ⟨bn.os, bn.tape, bn.output, bn.size, bn.block⟩; replace kx := kx.below ⟨bn.os, bn.tape, bn.output, bn.size, bn.block⟩; replace ky := ky.below ⟨bn.os, bn.tape, bn.output, bn.size, bn.block⟩; replace bb := Below.after bb ⟨bn.os, bn.tape, bn.output, bn.size, bn.block⟩) | (go_at_call 40; go_fit (H3.out _); rintro e wn ⟨rfl, bn⟩; replace ka := ka.below ⟨bn.os, bn.tape, bn.output, bn.size, bn.block⟩; replace kb := kb.below ⟨bn.os, bn.tape, bn.output, bn.size, bn.block⟩; replace kr := kr.below ⟨bn.os, bn.tape, bn.output, bn.size, bn.block⟩; replace kx := kx.below ⟨bn.os, bn.tape, bn.output, bn.size, bn.block⟩; replace ky := ky.below ⟨bn.os, bn.tape, bn.output, bn.size, bn.block⟩; replace bb := Below.after bb ⟨bn.os, bn.tape, bn.output, bn.size, bn.block⟩))
 clear ka
 clear ky
 have cx_0 := cel2_0' kx
 have cx_1 := cel2_1' kx
 go_wp2_with fail
 clear cx_0 cx_1
 go_fit (H6.out _)
 rintro e w3 ⟨rfl, b1⟩
 have sz := b1.size
 replace kb := kb.below b1
 replace kr := kr.below b1
 replace kx := kx.below b1
 replace bb := Below.after bb b1
 clear b1
 go_wp2_with fail
 have qx : w1.heap.size ≠ w.heap.size + 1 + 1 := by omega
 go_region_held3 (fun w' => w'.cell? ⟨w1.heap.size, 0, none⟩ = some (.bool xN) ∧ w'.cell? ⟨w1.heap.size, 1, none⟩ = some (.string xS)) (first | exact ⟨cel2_0' kx, cel2_1' kx⟩ | exact ⟨cel2_0' (Cel.other (Cel.other kx qx 0 _) qx 1 _), cel2_1' (Cel.other (Cel.other kx qx 0 _) qx 1 _)⟩) (first | (go_at_call 76; go_fit (H4.out _); rintro e wn ⟨rfl, bn⟩; replace kb := kb.below ⟨bn.os, bn.tape, bn.output, bn.size, bn.block⟩; replace kr := kr.below ⟨bn.os, bn.tape, bn.output, bn.size, bn.block⟩; replace kx := kx.below ⟨bn.os, bn.tape, bn.output, bn.size, bn.block⟩; replace bb := Below.after bb ⟨bn.os, bn.tape, bn.output, bn.size, bn.block⟩) | (go_at_call 79; go_fit (H5.out _); rintro e wn ⟨rfl, bn⟩; replace kb := kb.below ⟨bn.os, bn.tape, bn.output, bn.size, bn.block⟩; replace kr := kr.below ⟨bn.os, bn.tape, bn.output, bn.size, bn.block⟩; replace kx := kx.below ⟨bn.os, bn.tape, bn.output, bn.size, bn.block⟩; replace bb := Below.after bb ⟨bn.os, bn.tape, bn.output, bn.size, bn.block⟩; have e0 := cel2_0' kr; have f0 := Cel.frozen kr 0; have e1 := cel2_1' kr; have f1 := Cel.frozen kr 1))
 go_wp2
 exact post_z (p := 4) (by kernel_rfl) rfl rfl ((kr.set 0 _).set 1 _) ⟨rfl, bset (bset bb (by omega) 0 _) (by omega) 1 _⟩
set_option maxRecDepth 100000 in
set_option maxHeartbeats 4000000 in
theorem rnd_even (n0 n1 xN yN zN : Bool) (s0 s1 xS yS zS : ByteArray) (w : World)
  (H1 : Hid (∀ w1, Calls Tryz.prog 93 #[.agg #[.bool n0, .string s0], .agg #[.bool n1, .string s1]] w1 fun e w' => e = .returned (.tuple #[.agg #[.bool xN, .string xS], .agg #[.bool yN, .string yS], .int .i64 0]) ∧ Below w1.heap.size w1 w'))
  (H2 : Hid (∀ w1, Calls Tryz.prog 79 #[.agg #[.bool yN, .string yS], .agg #[.bool yN, .string yS]] w1 fun e w' => e = .returned (.agg #[.bool zN, .string zS]) ∧ Below w1.heap.size w1 w'))
  (H3 : Hid (∀ w1, Calls Tryz.prog 40 #[.agg #[.bool zN, .string zS], .agg #[.bool n1, .string s1]] w1 fun e w' => e = .returned (.int .i64 0) ∧ Below w1.heap.size w1 w'))
  (H6 : Hid (∀ w1, Calls Tryz.prog 94 #[.agg #[.bool xN, .string xS]] w1 fun e w' => e = .returned (.bool false) ∧ Below w1.heap.size w1 w')) :
  Calls Tryz.prog 60 #[.agg #[.bool n0, .string s0], .agg #[.bool n1, .string s1]] w fun e w' => e = .returned (.agg #[.bool xN, .string xS]) ∧ Below w.heap.size w w' := by
 go_enter Tryz.func60, Tryz.ntmps60
 go_wp2_with fail
 go_fit (H1.out _)
 rintro e w1 ⟨rfl, b1⟩
 obtain ⟨ka, kb, kr, b1⟩ := al3 b1
 have sz := b1.size
 have bb := b1
 clear b1
 have ta := ka.lt
 have tb := kb.lt
 have tr := kr.lt
 go_wp2_with fail
 obtain ⟨w2, hw, kx, ky, b1⟩ := mk2 w1 [.bool xN, .string xS] [.bool yN, .string yS] 24 24
 rw [← hw]
 clear hw
 have sz := b1.size
 have tx := kx.lt
 have ty := ky.lt
 replace ka := ka.below b1
 replace kb := kb.below b1
 replace kr := kr.below b1
 replace bb := Below.after bb b1
 clear b1
 go_region_held3 (fun w' => w'.cell? ⟨w.heap.size + 1, 0, none⟩ = some (.bool n1) ∧ w'.cell? ⟨w.heap.size + 1, 1, none⟩ = some (.string s1) ∧ w'.cell? ⟨w1.heap.size + 1, 0, none⟩ = some (.bool yN) ∧ w'.cell? ⟨w1.heap.size + 1, 1, none⟩ = some (.string yS)) (exact ⟨cel2_0' kb, cel2_1' kb, cel2_0' ky, cel2_1' ky⟩) (first | (go_at_call 79; go_fit (H2.out _); rintro e wn ⟨rfl, bn⟩; replace ka := ka.below ⟨bn.os, bn.tape, bn.output, bn.size, bn.block⟩; replace kb := kb.below ⟨bn.os, bn.tape, bn.output, bn.size, bn.block⟩; replace kr := kr.below ⟨bn.os, bn.tape, bn.output, bn.size, bn.block⟩; replace kx := kx.below ⟨bn.os, bn.tape, bn.output, bn.size, bn.block⟩; replace ky := ky.below ⟨bn.os, bn.tape, bn.output, bn.size, bn.block⟩; replace bb := Below.after bb ⟨bn.os, bn.tape, bn.output, bn.size, bn.block⟩) | (go_at_call 40; go_fit (H3.out _); rintro e wn ⟨rfl, bn⟩; replace ka := ka.below ⟨bn.os, bn.tape, bn.output, bn.size, bn.block⟩; replace kb := kb.below ⟨bn.os, bn.tape, bn.output, bn.size, bn.block⟩; replace kr := kr.below ⟨bn.os, bn.tape, bn.output, bn.size, bn.block⟩; replace kx := kx.below ⟨bn.os, bn.tape, bn.output, bn.size, bn.block⟩; replace ky := ky.below ⟨bn.os, bn.tape, bn.output, bn.size, bn.block⟩; replace bb := Below.after bb ⟨bn.os, bn.tape, bn.output, bn.size, bn.block⟩))
 clear ka
 clear ky
 have cx_0 := cel2_0' kx
 have cx_1 := cel2_1' kx
 go_wp2_with fail
 clear cx_0 cx_1
 go_fit (H6.out _)
 rintro e w3 ⟨rfl, b1⟩
 have sz := b1.size
 replace kb := kb.below b1
 replace kr := kr.below b1
 replace kx := kx.below b1
 replace bb := Below.after bb b1
 clear b1
 have cx_0 := cel2_0' kx
 have cx_1 := cel2_1' kx
 have cr_2 := cel2_0' kr
 have fr_3 := Cel.frozen kr 0
 have cr_4 := cel2_1' kr
 have fr_5 := Cel.frozen kr 1
 go_wp2
 exact post_z (p := 4) (by kernel_rfl) rfl rfl ((kr.set 0 _).set 1 _) ⟨rfl, bset (bset bb (by omega) 0 _) (by omega) 1 _⟩
set_option maxRecDepth 100000 in
set_option maxHeartbeats 4000000 in
theorem rnd_down (n0 n1 xN yN zN : Bool) (s0 s1 xS yS zS : ByteArray) (w : World)
  (H1 : Hid (∀ w1, Calls Tryz.prog 93 #[.agg #[.bool n0, .string s0], .agg #[.bool n1, .string s1]] w1 fun e w' => e = .returned (.tuple #[.agg #[.bool xN, .string xS], .agg #[.bool yN, .string yS], .int .i64 0]) ∧ Below w1.heap.size w1 w'))
  (H2 : Hid (∀ w1, Calls Tryz.prog 79 #[.agg #[.bool yN, .string yS], .agg #[.bool yN, .string yS]] w1 fun e w' => e = .returned (.agg #[.bool zN, .string zS]) ∧ Below w1.heap.size w1 w'))
  (H3 : Hid (∀ w1, Calls Tryz.prog 40 #[.agg #[.bool zN, .string zS], .agg #[.bool n1, .string s1]] w1 fun e w' => e = .returned (.int .i64 (-1)) ∧ Below w1.heap.size w1 w')) :
  Calls Tryz.prog 60 #[.agg #[.bool n0, .string s0], .agg #[.bool n1, .string s1]] w fun e w' => e = .returned (.agg #[.bool xN, .string xS]) ∧ Below w.heap.size w w' := by
 go_enter Tryz.func60, Tryz.ntmps60
 go_wp2_with fail
 go_fit (H1.out _)
 rintro e w1 ⟨rfl, b1⟩
 obtain ⟨ka, kb, kr, b1⟩ := al3 b1
 have sz := b1.size
 have bb := b1
 clear b1
 have ta := ka.lt
 have tb := kb.lt
 have tr := kr.lt
 go_wp2_with fail
 obtain ⟨w2, hw, kx, ky, b1⟩ := mk2 w1 [.bool xN, .string xS] [.bool yN, .string yS] 24 24
 rw [← hw]
 clear hw
 have sz := b1.size
 have tx := kx.lt
 have ty := ky.lt
 replace ka := ka.below b1
 replace kb := kb.below b1
 replace kr := kr.below b1
 replace bb := Below.after bb b1
 clear b1
 go_region_held3 (fun w' => w'.cell? ⟨w.heap.size + 1, 0, none⟩ = some (.bool n1) ∧ w'.cell? ⟨w.heap.size + 1, 1, none⟩ = some (.string s1) ∧ w'.cell? ⟨w1.heap.size + 1, 0, none⟩ = some (.bool yN) ∧ w'.cell? ⟨w1.heap.size + 1, 1, none⟩ = some (.string yS)) (exact ⟨cel2_0' kb, cel2_1' kb, cel2_0' ky, cel2_1' ky⟩) (first | (go_at_call 79; go_fit (H2.out _); rintro e wn ⟨rfl, bn⟩; replace ka := ka.below ⟨bn.os, bn.tape, bn.output, bn.size, bn.block⟩; replace kb := kb.below ⟨bn.os, bn.tape, bn.output, bn.size, bn.block⟩; replace kr := kr.below ⟨bn.os, bn.tape, bn.output, bn.size, bn.block⟩; replace kx := kx.below ⟨bn.os, bn.tape, bn.output, bn.size, bn.block⟩; replace ky := ky.below ⟨bn.os, bn.tape, bn.output, bn.size, bn.block⟩; replace bb := Below.after bb ⟨bn.os, bn.tape, bn.output, bn.size, bn.block⟩) | (go_at_call 40; go_fit (H3.out _); rintro e wn ⟨rfl, bn⟩; replace ka := ka.below ⟨bn.os, bn.tape, bn.output, bn.size, bn.block⟩; replace kb := kb.below ⟨bn.os, bn.tape, bn.output, bn.size, bn.block⟩; replace kr := kr.below ⟨bn.os, bn.tape, bn.output, bn.size, bn.block⟩; replace kx := kx.below ⟨bn.os, bn.tape, bn.output, bn.size, bn.block⟩; replace ky := ky.below ⟨bn.os, bn.tape, bn.output, bn.size, bn.block⟩; replace bb := Below.after bb ⟨bn.os, bn.tape, bn.output, bn.size, bn.block⟩))
 clear ka
 clear ky
 have cx_0 := cel2_0' kx
 have cx_1 := cel2_1' kx
 have cr_2 := cel2_0' kr
 have fr_3 := Cel.frozen kr 0
 have cr_4 := cel2_1' kr
 have fr_5 := Cel.frozen kr 1
 go_wp2
 exact post_z (p := 4) (by kernel_rfl) rfl rfl ((kr.set 0 _).set 1 _) ⟨rfl, bset (bset bb (by omega) 0 _) (by omega) 1 _⟩
end Go.Proofs.YtdbnkcimcpnpdaaGreatDoor
namespace Go.Proofs.YtdbnkcimcpnpdaaGreatDoor
open Go.RowKit

set_option maxRecDepth 100000 in
set_option maxHeartbeats 4000000 in
theorem make_some (n0 n1 gN pN qN : Bool) (s0 s1 gS pS qS : ByteArray) (w : World) (h1 : s1.toList.isEmpty = false) (h0 : s0.toList.isEmpty = false)
  (HL : Hid (∀ (B : Nat) (w : World) (_ : Cel w B [.string s0, .string s1] 22), Calls Tryz.prog 72 #[.slice (some ⟨B, 0, none⟩) 2 2] w fun e w' => e = .returned (.bool false) ∧ Below w.heap.size w w'))
  (C0 : Hid (∀ w1, Calls Tryz.prog 73 #[.agg #[.bool n0, .string s0]] w1 fun e w' => e = .returned (.int .i64 0) ∧ Below w1.heap.size w1 w'))
  (C1 : Hid (∀ w1, Calls Tryz.prog 73 #[.agg #[.bool n1, .string s1]] w1 fun e w' => e = .returned (.int .i64 0) ∧ Below w1.heap.size w1 w'))
  (H1 : Hid (∀ w1, Below w.heap.size w w1 → Calls Tryz.prog 74 #[.agg #[.bool n0, .string s0], .agg #[.bool n1, .string s1]] w1 fun e w' => e = .returned (.agg #[.bool gN, .string gS]) ∧ Below w1.heap.size w1 w'))
  (H2 : Hid (∀ w1, Calls Tryz.prog 75 #[.agg #[.bool (!(n0 == n1)), .string s0], .agg #[.bool gN, .string gS]] w1 fun e w' => e = .returned (.agg #[.bool pN, .string pS]) ∧ Below w1.heap.size w1 w'))
  (H3 : Hid (∀ w1, Calls Tryz.prog 75 #[.agg #[.bool false, .string s1], .agg #[.bool gN, .string gS]] w1 fun e w' => e = .returned (.agg #[.bool qN, .string qS]) ∧ Below w1.heap.size w1 w')) :
  Calls Tryz.prog 36 #[.agg #[.bool n0, .string s0], .agg #[.bool n1, .string s1]] w fun e w' => e = .returned (.tuple #[.agg #[.bool pN, .string pS, .string qS], .int .i64 0]) ∧ Below w.heap.size w w' := by
 go_enter Tryz.func36, Tryz.ntmps36
 go_wp2_with fail
 obtain ⟨w1, hw, ka, kb, kr, kl, b1⟩ := mk4 w [.bool n0, .string s0] [.bool n1, .string s1] [.bool false, .string { data := #[] }, .string { data := #[] }] [.string s0, .string s1] 24 24 26 22
 rw [← hw]
 clear hw
 have sz := b1.size
 have ta := ka.lt
 have tb := kb.lt
 have tr := kr.lt
 have tl := kl.lt
 have bb := b1
 clear b1
 go_fit (HL.out _ _ kl)
 rintro e w2 ⟨rfl, b1⟩
 have sz := b1.size
 replace ka := ka.below b1
 replace kb := kb.below b1
 replace kr := kr.below b1
 replace kl := kl.below b1
 replace bb := Below.after bb b1
 clear b1
 clear kl
 have ca_0 := cel2_0' ka
 have ca_1 := cel2_1' ka
 have cb_2 := cel2_0' kb
 have cb_3 := cel2_1' kb
 go_wp2
 clear ca_0 ca_1 cb_2 cb_3
 go_loopw [21] (fun i wr => (Below w.heap.size w wr ∧ Cel wr w2.heap.size [.bool n0, .string s0, .bool n1, .string s1] 24 ∧ Cel wr w.heap.size [.bool n0, .string s0] 24 ∧ Cel wr (w.heap.size + 1) [.bool n1, .string s1] 24 ∧ Cel wr (w.heap.size + 1 + 1) [.bool false, .string { data := #[] }, .string { data := #[] }] 26) ∧ (i = .int .i64 0 ∨ i = .int .i64 1 ∨ i = .int .i64 2)) (fun i _ => 2 - (intOf i).toNat)
 case atStart => exact ⟨⟨ba bb _, Cel.new w2 _ _, ka.alloc _, kb.alloc _, kr.alloc _⟩, Or.inl rfl⟩
 case round =>
  clear bb ka kb kr
  obtain ⟨⟨bb, kl, ka, kb, kr⟩, hi⟩ := hrel
  have c0 := kl.cell 0
  have c1 := kl.cell 1
  have c2 := kl.cell 2
  have c3 := kl.cell 3
  simp only [List.getElem?_cons_zero, List.getElem?_cons_succ] at c0 c1 c2 c3
  rcases hi with rfl | rfl | rfl
  ·go_wp2_with fail
   go_fit (C0.out _)
   rintro e wn ⟨rfl, b1⟩
   obtain ⟨-, b1⟩ := al1 b1
   clear c0 c1 c2 c3
   replace kl := kl.below b1
   replace ka := ka.below b1
   replace kb := kb.below b1
   replace kr := kr.below b1
   replace bb := Below.after bb b1
   clear b1
   go_wp2
   exact ⟨⟨⟨bb, kl, ka, kb, kr⟩, Or.inr (Or.inl (by go_num))⟩, by simp [intOf]⟩
  ·go_wp2_with fail
   go_fit (C1.out _)
   rintro e wn ⟨rfl, b1⟩
   obtain ⟨-, b1⟩ := al1 b1
   clear c0 c1 c2 c3
   replace kl := kl.below b1
   replace ka := ka.below b1
   replace kb := kb.below b1
   replace kr := kr.below b1
   replace bb := Below.after bb b1
   clear b1
   go_wp2
   exact ⟨⟨⟨bb, kl, ka, kb, kr⟩, Or.inr (Or.inr (by go_num))⟩, by simp [intOf]⟩
  ·clear c0 c1 c2 c3
   have ca_0 := cel2_0' ka
   have ca_1 := cel2_1' ka
   have cb_2 := cel2_0' kb
   have cb_3 := cel2_1' kb
   go_wp2_with fail
   clear ca_0 ca_1 cb_2 cb_3
   go_fit (H1.out _ bb)
   rintro e w3 ⟨rfl, b1⟩
   have sz := b1.size
   replace kl := kl.below b1
   replace ka := ka.below b1
   replace kb := kb.below b1
   replace kr := kr.below b1
   replace bb := Below.after bb b1
   clear b1
   have szz := bb.size
   have tr := kr.lt
   have tb := kb.lt
   have kg := Cel.new w3 [.bool gN, .string gS] 24
   replace ka := ka.alloc (.cells #[.bool gN, .string gS] 24)
   replace kb := kb.alloc (.cells #[.bool gN, .string gS] 24)
   replace kr := kr.alloc (.cells #[.bool gN, .string gS] 24)
   replace kl := kl.alloc (.cells #[.bool gN, .string gS] 24)
   replace bb := ba bb (.cells #[.bool gN, .string gS] 24)
   have e0 := cel2_0' ka
   have e1 := cel2_1' ka
   have e2 := cel2_0' kb
   have e3 := cel2_1' kb
   have f0 := ka.frozen 0
   have kb1 := Cel.other (g' := w.heap.size) kb (by omega) 0 (.bool (!(n0 == n1)))
   have e4 := cel2_0' kb1
   have e5 := cel2_1' kb1
   have f1 := kb1.frozen 0
   go_wp2_with fail
   clear e0 e1 e2 e3 e4 e5 f0 f1
   obtain ⟨w4, hw⟩ : ∃ x, x = ((w3.alloc (.cells #[.bool gN, .string gS] 24)).setCell ⟨w.heap.size, 0, none⟩ (.bool (!(n0 == n1)))).setCell ⟨w.heap.size + 1, 0, none⟩ (.bool false) := ⟨_, rfl⟩
   rw [← hw]
   replace ka := Cel.other (g' := w.heap.size + 1) (ka.set 0 (.bool (!(n0 == n1)))) (by omega) 0 (.bool false)
   replace kb := kb1.set 0 (.bool false)
   replace kr := Cel.other (g' := w.heap.size + 1) (Cel.other (g' := w.heap.size) kr (by omega) 0 (.bool (!(n0 == n1)))) (by omega) 0 (.bool false)
   replace kg := Cel.other (g' := w.heap.size + 1) (Cel.other (g' := w.heap.size) kg (by omega) 0 (.bool (!(n0 == n1)))) (by omega) 0 (.bool false)
   replace bb := bset (g := w.heap.size + 1) (bset (g := w.heap.size) bb (by omega) 0 (.bool (!(n0 == n1)))) (by omega) 0 (.bool false)
   rw [← hw] at ka kb kr kg bb
   clear hw kb1 kl
   have tq := kr.lt
   have qa : w.heap.size ≠ w.heap.size + 1 + 1 := by omega
   have qb : w.heap.size + 1 ≠ w.heap.size + 1 + 1 := by omega
   have qg : w3.heap.size ≠ w.heap.size + 1 + 1 := by omega
   have gf := fld1 qN qS
   go_region_held3 (fun w' => w'.cell? ⟨w.heap.size, 0, none⟩ = some (.bool (!(n0 == n1))) ∧ w'.cell? ⟨w.heap.size, 1, none⟩ = some (.string s0) ∧ w'.cell? ⟨w.heap.size + 1, 0, none⟩ = some (.bool false) ∧ w'.cell? ⟨w.heap.size + 1, 1, none⟩ = some (.string s1) ∧ w'.cell? ⟨w3.heap.size, 0, none⟩ = some (.bool gN) ∧ w'.cell? ⟨w3.heap.size, 1, none⟩ = some (.string gS)) (first | exact ⟨cel2_0' ka, cel2_1' ka, cel2_0' kb, cel2_1' kb, cel2_0' kg, cel2_1' kg⟩ | exact ⟨cel2_0' (Cel.other (Cel.other (Cel.other ka qa 0 _) qa 1 _) qa 2 _), cel2_1' (Cel.other (Cel.other (Cel.other ka qa 0 _) qa 1 _) qa 2 _), cel2_0' (Cel.other (Cel.other (Cel.other kb qb 0 _) qb 1 _) qb 2 _), cel2_1' (Cel.other (Cel.other (Cel.other kb qb 0 _) qb 1 _) qb 2 _), cel2_0' (Cel.other (Cel.other (Cel.other kg qg 0 _) qg 1 _) qg 2 _), cel2_1' (Cel.other (Cel.other (Cel.other kg qg 0 _) qg 1 _) qg 2 _)⟩) (first | (go_at_call 75; go_fit (H2.out _); rintro e wn ⟨rfl, bn⟩; replace ka := ka.below ⟨bn.os, bn.tape, bn.output, bn.size, bn.block⟩; replace kb := kb.below ⟨bn.os, bn.tape, bn.output, bn.size, bn.block⟩; replace kr := kr.below ⟨bn.os, bn.tape, bn.output, bn.size, bn.block⟩; replace kg := kg.below ⟨bn.os, bn.tape, bn.output, bn.size, bn.block⟩; replace bb := Below.after bb ⟨bn.os, bn.tape, bn.output, bn.size, bn.block⟩) | (go_at_call 75; go_fit (H3.out _); rintro e wn ⟨rfl, bn⟩; replace ka := ka.below ⟨bn.os, bn.tape, bn.output, bn.size, bn.block⟩; replace kb := kb.below ⟨bn.os, bn.tape, bn.output, bn.size, bn.block⟩; replace kr := kr.below ⟨bn.os, bn.tape, bn.output, bn.size, bn.block⟩; replace kg := kg.below ⟨bn.os, bn.tape, bn.output, bn.size, bn.block⟩; replace bb := Below.after bb ⟨bn.os, bn.tape, bn.output, bn.size, bn.block⟩; have e0 := cel3_0 kr; have f0 := Cel.frozen kr 0; have e1 := cel3_1 kr; have f1 := Cel.frozen kr 1; have e2 := cel3_2 kr; have f2 := Cel.frozen kr 2))
   go_wp2
   exact post_q1 (p := 4) (u := 5) (v := .int .i64 0) (by kernel_rfl) rfl rfl rfl (((kr.set 0 _).set 1 _).set 2 _) ⟨rfl, bset (bset (bset bb (by omega) 0 _) (by omega) 1 _) (by omega) 2 _⟩
set_option maxRecDepth 100000 in
set_option maxHeartbeats 4000000 in
theorem make_none (n0 n1 gN pN qN : Bool) (s1 gS pS qS : ByteArray) (w : World) (h1 : s1.toList.isEmpty = false)
  (HL : Hid (∀ (B : Nat) (w : World) (_ : Cel w B [.string ByteArray.empty, .string s1] 22), Calls Tryz.prog 72 #[.slice (some ⟨B, 0, none⟩) 2 2] w fun e w' => e = .returned (.bool false) ∧ Below w.heap.size w w'))
  (C0 : Hid (∀ w1, Calls Tryz.prog 73 #[.agg #[.bool n0, .string ByteArray.empty]] w1 fun e w' => e = .returned (.int .i64 0) ∧ Below w1.heap.size w1 w'))
  (C1 : Hid (∀ w1, Calls Tryz.prog 73 #[.agg #[.bool n1, .string s1]] w1 fun e w' => e = .returned (.int .i64 0) ∧ Below w1.heap.size w1 w'))
  (H1 : Hid (∀ w1, Below w.heap.size w w1 → Calls Tryz.prog 74 #[.agg #[.bool n0, .string ByteArray.empty], .agg #[.bool n1, .string s1]] w1 fun e w' => e = .returned (.agg #[.bool gN, .string gS]) ∧ Below w1.heap.size w1 w'))
  (H2 : Hid (∀ w1, Calls Tryz.prog 75 #[.agg #[.bool false, .string ByteArray.empty], .agg #[.bool gN, .string gS]] w1 fun e w' => e = .returned (.agg #[.bool pN, .string pS]) ∧ Below w1.heap.size w1 w'))
  (H3 : Hid (∀ w1, Calls Tryz.prog 75 #[.agg #[.bool false, .string s1], .agg #[.bool gN, .string gS]] w1 fun e w' => e = .returned (.agg #[.bool qN, .string qS]) ∧ Below w1.heap.size w1 w')) :
  Calls Tryz.prog 36 #[.agg #[.bool n0, .string ByteArray.empty], .agg #[.bool n1, .string s1]] w fun e w' => e = .returned (.tuple #[.agg #[.bool pN, .string pS, .string qS], .int .i64 0]) ∧ Below w.heap.size w w' := by
 go_enter Tryz.func36, Tryz.ntmps36
 go_wp2_with fail
 obtain ⟨w1, hw, ka, kb, kr, kl, b1⟩ := mk4 w [.bool n0, .string ByteArray.empty] [.bool n1, .string s1] [.bool false, .string { data := #[] }, .string { data := #[] }] [.string ByteArray.empty, .string s1] 24 24 26 22
 rw [← hw]
 clear hw
 have sz := b1.size
 have ta := ka.lt
 have tb := kb.lt
 have tr := kr.lt
 have tl := kl.lt
 have bb := b1
 clear b1
 go_fit (HL.out _ _ kl)
 rintro e w2 ⟨rfl, b1⟩
 have sz := b1.size
 replace ka := ka.below b1
 replace kb := kb.below b1
 replace kr := kr.below b1
 replace kl := kl.below b1
 replace bb := Below.after bb b1
 clear b1
 clear kl
 have ca_0 := cel2_0' ka
 have ca_1 := cel2_1' ka
 have cb_2 := cel2_0' kb
 have cb_3 := cel2_1' kb
 go_wp2
 clear ca_0 ca_1 cb_2 cb_3
 go_loopw [21] (fun i wr => (Below w.heap.size w wr ∧ Cel wr w2.heap.size [.bool n0, .string ByteArray.empty, .bool n1, .string s1] 24 ∧ Cel wr w.heap.size [.bool n0, .string ByteArray.empty] 24 ∧ Cel wr (w.heap.size + 1) [.bool n1, .string s1] 24 ∧ Cel wr (w.heap.size + 1 + 1) [.bool false, .string { data := #[] }, .string { data := #[] }] 26) ∧ (i = .int .i64 0 ∨ i = .int .i64 1 ∨ i = .int .i64 2)) (fun i _ => 2 - (intOf i).toNat)
 case atStart => exact ⟨⟨ba bb _, Cel.new w2 _ _, ka.alloc _, kb.alloc _, kr.alloc _⟩, Or.inl rfl⟩
 case round =>
  clear bb ka kb kr
  obtain ⟨⟨bb, kl, ka, kb, kr⟩, hi⟩ := hrel
  have c0 := kl.cell 0
  have c1 := kl.cell 1
  have c2 := kl.cell 2
  have c3 := kl.cell 3
  simp only [List.getElem?_cons_zero, List.getElem?_cons_succ] at c0 c1 c2 c3
  rcases hi with rfl | rfl | rfl
  ·go_wp2_with fail
   go_fit (C0.out _)
   rintro e wn ⟨rfl, b1⟩
   obtain ⟨-, b1⟩ := al1 b1
   clear c0 c1 c2 c3
   replace kl := kl.below b1
   replace ka := ka.below b1
   replace kb := kb.below b1
   replace kr := kr.below b1
   replace bb := Below.after bb b1
   clear b1
   go_wp2
   exact ⟨⟨⟨bb, kl, ka, kb, kr⟩, Or.inr (Or.inl (by go_num))⟩, by simp [intOf]⟩
  ·go_wp2_with fail
   go_fit (C1.out _)
   rintro e wn ⟨rfl, b1⟩
   obtain ⟨-, b1⟩ := al1 b1
   clear c0 c1 c2 c3
   replace kl := kl.below b1
   replace ka := ka.below b1
   replace kb := kb.below b1
   replace kr := kr.below b1
   replace bb := Below.after bb b1
   clear b1
   go_wp2
   exact ⟨⟨⟨bb, kl, ka, kb, kr⟩, Or.inr (Or.inr (by go_num))⟩, by simp [intOf]⟩
  ·clear c0 c1 c2 c3
   have ca_0 := cel2_0' ka
   have ca_1 := cel2_1' ka
   have cb_2 := cel2_0' kb
   have cb_3 := cel2_1' kb
   go_wp2_with fail
   clear ca_0 ca_1 cb_2 cb_3
   go_fit (H1.out _ bb)
   rintro e w3 ⟨rfl, b1⟩
   have sz := b1.size
   replace kl := kl.below b1
   replace ka := ka.below b1
   replace kb := kb.below b1
   replace kr := kr.below b1
   replace bb := Below.after bb b1
   clear b1
   have szz := bb.size
   have tr := kr.lt
   have tb := kb.lt
   have kg := Cel.new w3 [.bool gN, .string gS] 24
   replace ka := ka.alloc (.cells #[.bool gN, .string gS] 24)
   replace kb := kb.alloc (.cells #[.bool gN, .string gS] 24)
   replace kr := kr.alloc (.cells #[.bool gN, .string gS] 24)
   replace kl := kl.alloc (.cells #[.bool gN, .string gS] 24)
   replace bb := ba bb (.cells #[.bool gN, .string gS] 24)
   have e0 := cel2_0' ka
   have e1 := cel2_1' ka
   have e2 := cel2_0' kb
   have e3 := cel2_1' kb
   have f0 := ka.frozen 0
   have kb1 := Cel.other (g' := w.heap.size) kb (by omega) 0 (.bool false)
   have e4 := cel2_0' kb1
   have e5 := cel2_1' kb1
   have f1 := kb1.frozen 0
   go_wp2_with fail
   clear e0 e1 e2 e3 e4 e5 f0 f1
   obtain ⟨w4, hw⟩ : ∃ x, x = ((w3.alloc (.cells #[.bool gN, .string gS] 24)).setCell ⟨w.heap.size, 0, none⟩ (.bool false)).setCell ⟨w.heap.size + 1, 0, none⟩ (.bool false) := ⟨_, rfl⟩
   rw [← hw]
   replace ka := Cel.other (g' := w.heap.size + 1) (ka.set 0 (.bool false)) (by omega) 0 (.bool false)
   replace kb := kb1.set 0 (.bool false)
   replace kr := Cel.other (g' := w.heap.size + 1) (Cel.other (g' := w.heap.size) kr (by omega) 0 (.bool false)) (by omega) 0 (.bool false)
   replace kg := Cel.other (g' := w.heap.size + 1) (Cel.other (g' := w.heap.size) kg (by omega) 0 (.bool false)) (by omega) 0 (.bool false)
   replace bb := bset (g := w.heap.size + 1) (bset (g := w.heap.size) bb (by omega) 0 (.bool false)) (by omega) 0 (.bool false)
   rw [← hw] at ka kb kr kg bb
   clear hw kb1 kl
   have tq := kr.lt
   have qa : w.heap.size ≠ w.heap.size + 1 + 1 := by omega
   have qb : w.heap.size + 1 ≠ w.heap.size + 1 + 1 := by omega
   have qg : w3.heap.size ≠ w.heap.size + 1 + 1 := by omega
   have gf := fld1 qN qS
   go_region_held3 (fun w' => w'.cell? ⟨w.heap.size, 0, none⟩ = some (.bool false) ∧ w'.cell? ⟨w.heap.size, 1, none⟩ = some (.string ByteArray.empty) ∧ w'.cell? ⟨w.heap.size + 1, 0, none⟩ = some (.bool false) ∧ w'.cell? ⟨w.heap.size + 1, 1, none⟩ = some (.string s1) ∧ w'.cell? ⟨w3.heap.size, 0, none⟩ = some (.bool gN) ∧ w'.cell? ⟨w3.heap.size, 1, none⟩ = some (.string gS)) (first | exact ⟨cel2_0' ka, cel2_1' ka, cel2_0' kb, cel2_1' kb, cel2_0' kg, cel2_1' kg⟩ | exact ⟨cel2_0' (Cel.other (Cel.other (Cel.other ka qa 0 _) qa 1 _) qa 2 _), cel2_1' (Cel.other (Cel.other (Cel.other ka qa 0 _) qa 1 _) qa 2 _), cel2_0' (Cel.other (Cel.other (Cel.other kb qb 0 _) qb 1 _) qb 2 _), cel2_1' (Cel.other (Cel.other (Cel.other kb qb 0 _) qb 1 _) qb 2 _), cel2_0' (Cel.other (Cel.other (Cel.other kg qg 0 _) qg 1 _) qg 2 _), cel2_1' (Cel.other (Cel.other (Cel.other kg qg 0 _) qg 1 _) qg 2 _)⟩) (first | (go_at_call 75; go_fit (H2.out _); rintro e wn ⟨rfl, bn⟩; replace ka := ka.below ⟨bn.os, bn.tape, bn.output, bn.size, bn.block⟩; replace kb := kb.below ⟨bn.os, bn.tape, bn.output, bn.size, bn.block⟩; replace kr := kr.below ⟨bn.os, bn.tape, bn.output, bn.size, bn.block⟩; replace kg := kg.below ⟨bn.os, bn.tape, bn.output, bn.size, bn.block⟩; replace bb := Below.after bb ⟨bn.os, bn.tape, bn.output, bn.size, bn.block⟩) | (go_at_call 75; go_fit (H3.out _); rintro e wn ⟨rfl, bn⟩; replace ka := ka.below ⟨bn.os, bn.tape, bn.output, bn.size, bn.block⟩; replace kb := kb.below ⟨bn.os, bn.tape, bn.output, bn.size, bn.block⟩; replace kr := kr.below ⟨bn.os, bn.tape, bn.output, bn.size, bn.block⟩; replace kg := kg.below ⟨bn.os, bn.tape, bn.output, bn.size, bn.block⟩; replace bb := Below.after bb ⟨bn.os, bn.tape, bn.output, bn.size, bn.block⟩; have e0 := cel3_0 kr; have f0 := Cel.frozen kr 0; have e1 := cel3_1 kr; have f1 := Cel.frozen kr 1; have e2 := cel3_2 kr; have f2 := Cel.frozen kr 2))
   go_wp2
   exact post_q1 (p := 4) (u := 5) (v := .int .i64 0) (by kernel_rfl) rfl rfl rfl (((kr.set 0 _).set 1 _).set 2 _) ⟨rfl, bset (bset (bset bb (by omega) 0 _) (by omega) 1 _) (by omega) 2 _⟩
end Go.Proofs.YtdbnkcimcpnpdaaGreatDoor
namespace Go.Proofs.YtdbnkcimcpnpdaaGreatDoor
open Go.RowKit

set_option maxRecDepth 100000 in
set_option maxHeartbeats 2000000 in
theorem reckon_quotient (n0 n1 pN : Bool) (s0 d0 s1 d1 pS qS : ByteArray) (EE : Int) (w : World)
  (HC : Hid (∀ (B : Nat) (w1 : World), Below w.heap.size w w1 → Cel w1 B [.bool n0, .string s0, .string d0, .bool n1, .string s1, .string d1] 26 → Calls Tryz.prog 39 #[.slice (some ⟨B, 0, none⟩) 2 2] w1 fun e w' => e = .returned (.int .i64 0) ∧ Below w1.heap.size w1 w'))
  (H1 : Hid (∀ w1, Below w.heap.size w w1 → Calls Tryz.prog 52 #[.agg #[.bool n0, .string s0, .string d0], .agg #[.bool n1, .string s1, .string d1]] w1 fun e w' => e = .returned (.tuple #[.agg #[.bool pN, .string pS, .string qS], .int .i64 EE]) ∧ Below w1.heap.size w1 w')) :
  Calls Tryz.prog 43 #[.agg #[.bool n0, .string s0, .string d0], .agg #[.bool n1, .string s1, .string d1], .func (.func 52) #[] #[]] w fun e w' => e = .returned (.tuple #[.agg #[.bool pN, .string pS, .string qS], .int .i64 EE]) ∧ Below w.heap.size w w' := by
 go_enter Tryz.func43, Tryz.ntmps43
 go_wp2_with fail
 obtain ⟨w1, hw, ka, kb, kr, kl, b1⟩ := mk4 w [.bool n0, .string s0, .string d0] [.bool n1, .string s1, .string d1] [.bool false, .string { data := #[] }, .string { data := #[] }] [.bool n0, .string s0, .string d0, .bool n1, .string s1, .string d1] 26 26 26 26
 rw [← hw]
 clear hw
 have sz := b1.size
 have ta := ka.lt
 have tb := kb.lt
 have tr := kr.lt
 have tl := kl.lt
 have bb := b1
 clear b1
 go_fit (HC.out _ _ bb kl)
 rintro e w2 ⟨rfl, b1⟩
 have sz := b1.size
 replace ka := ka.below b1
 replace kb := kb.below b1
 replace kr := kr.below b1
 replace kl := kl.below b1
 replace bb := Below.after bb b1
 clear b1
 clear kl
 have ca_0 := cel3_0 ka
 have ca_1 := cel3_1 ka
 have ca_2 := cel3_2 ka
 have cb_3 := cel3_0 kb
 have cb_4 := cel3_1 kb
 have cb_5 := cel3_2 kb
 go_wp2_with fail
 clear ca_0 ca_1 ca_2 cb_3 cb_4 cb_5
 go_fit (H1.out _ bb)
 rintro e w3 ⟨rfl, b1⟩
 have sz := b1.size
 replace ka := ka.below b1
 replace kb := kb.below b1
 replace kr := kr.below b1
 replace bb := Below.after bb b1
 clear b1
 have cr_0 := cel3_0 kr
 have fr_1 := Cel.frozen kr 0
 have cr_2 := cel3_1 kr
 have fr_3 := Cel.frozen kr 1
 have cr_4 := cel3_2 kr
 have fr_5 := Cel.frozen kr 2
 go_wp2
 exact post_q1 (p := 6) (u := 7) (v := .int .i64 EE) (by kernel_rfl) rfl rfl rfl (((kr.set 0 _).set 1 _).set 2 _) ⟨rfl, bset (bset (bset bb (by omega) 0 _) (by omega) 1 _) (by omega) 2 _⟩
set_option maxRecDepth 100000 in
set_option maxHeartbeats 2000000 in
theorem div_walk (n0 n1 pN : Bool) (s0 d0 s1 d1 pS qS : ByteArray) (EE : Int) (w : World)
  (H1 : Hid (∀ w1, Below w.heap.size w w1 → Calls Tryz.prog 43 #[.agg #[.bool n0, .string s0, .string d0], .agg #[.bool n1, .string s1, .string d1], .func (.func 52) #[] #[]] w1 fun e w' => e = .returned (.tuple #[.agg #[.bool pN, .string pS, .string qS], .int .i64 EE]) ∧ Below w1.heap.size w1 w')) :
  Calls Tryz.prog 20 #[.agg #[.bool n0, .string s0, .string d0], .agg #[.bool n1, .string s1, .string d1]] w fun e w' => e = .returned (.tuple #[.agg #[.bool pN, .string pS, .string qS], .int .i64 EE]) ∧ Below w.heap.size w w' := by
 go_enter Tryz.func20, Tryz.ntmps20
 go_wp2_with fail
 go_fit (H1.out _ (ba (ba (ba (Below.refl _ _) _) _) _))
 rintro e w1 ⟨rfl, b1⟩
 obtain ⟨ka, kb, kr, b1⟩ := al3 b1
 have sz := b1.size
 have bb := b1
 clear b1
 have ta := ka.lt
 have tb := kb.lt
 have tr := kr.lt
 have cr_0 := cel3_0 kr
 have fr_1 := Cel.frozen kr 0
 have cr_2 := cel3_1 kr
 have fr_3 := Cel.frozen kr 1
 have cr_4 := cel3_2 kr
 have fr_5 := Cel.frozen kr 2
 go_wp2
 exact post_q1 (p := 4) (u := 5) (v := .int .i64 EE) (by kernel_rfl) rfl rfl rfl (((kr.set 0 _).set 1 _).set 2 _) ⟨rfl, bset (bset (bset bb (by omega) 0 _) (by omega) 1 _) (by omega) 2 _⟩
end Go.Proofs.YtdbnkcimcpnpdaaGreatDoor
namespace Go.Proofs.YtdbnkcimcpnpdaaGreatDoor
open Go.RowKit

/-- What check tells of two. -/
def twoq (n0 : Bool) (s0 d0 : ByteArray) (n1 : Bool) (s1 d1 : ByteArray) : Nat := if chkq n0 s0 d0 = 0 then chkq n1 s1 d1 else chkq n0 s0 d0
theorem twoq_zero {n0 n1 : Bool} {s0 d0 s1 d1 : ByteArray} : twoq n0 s0 d0 n1 s1 d1 = 0 ↔ chkq n0 s0 d0 = 0 ∧ chkq n1 s1 d1 = 0 := by
 unfold twoq
 by_cases h : chkq n0 s0 d0 = 0
 ·rw [if_pos h]; exact ⟨fun e => ⟨h, e⟩, fun e => e.2⟩
 ·rw [if_neg h]; exact ⟨fun e => absurd e h, fun e => absurd e.1 h⟩

set_option maxRecDepth 100000 in
set_option maxHeartbeats 2000000 in
theorem check2_ok (B : Nat) (n0 n1 : Bool) (s0 d0 s1 d1 : ByteArray) (w : World) (hB : Cel w B [.bool n0, .string s0, .string d0, .bool n1, .string s1, .string d1] 26)
  (H0 : Hid (∀ w1, Below w.heap.size w w1 → Calls Tryz.prog 46 #[.agg #[.bool n0, .string s0, .string d0]] w1 fun e w' => e = .returned (.int .i64 0) ∧ Below w1.heap.size w1 w'))
  (H1 : Hid (∀ w1, Below w.heap.size w w1 → Calls Tryz.prog 46 #[.agg #[.bool n1, .string s1, .string d1]] w1 fun e w' => e = .returned (.int .i64 0) ∧ Below w1.heap.size w1 w')) :
  Calls Tryz.prog 39 #[.slice (some ⟨B, 0, none⟩) 2 2] w fun e w' => e = .returned (.int .i64 0) ∧ Below w.heap.size w w' := by
 go_enter Tryz.func39, Tryz.ntmps39
 go_wp2
 go_loopw [8] (fun i wr => Below w.heap.size w wr ∧ (i = .int .i64 0 ∨ i = .int .i64 1 ∨ i = .int .i64 2)) (fun i _ => 2 - (intOf i).toNat)
 case atStart => exact ⟨Below.refl _ _, Or.inl rfl⟩
 case round =>
  obtain ⟨hbel, hi⟩ := hrel
  have kB := hB.below hbel
  have c0 := kB.cell 0
  have c1 := kB.cell 1
  have c2 := kB.cell 2
  have c3 := kB.cell 3
  have c4 := kB.cell 4
  have c5 := kB.cell 5
  simp only [List.getElem?_cons_zero, List.getElem?_cons_succ] at c0 c1 c2 c3 c4 c5
  clear kB
  rcases hi with rfl | rfl | rfl
  ·go_wp2_with fail
   go_fit (H0.out _ (ba hbel _))
   rintro e w1 ⟨rfl, b1⟩
   obtain ⟨-, b1⟩ := al1 b1
   replace hbel := Below.after hbel b1
   clear b1 c0 c1 c2 c3 c4 c5
   go_wp2
   exact ⟨⟨hbel, Or.inr (Or.inl (by go_num))⟩, by simp [intOf]⟩
  ·go_wp2_with fail
   go_fit (H1.out _ (ba hbel _))
   rintro e w1 ⟨rfl, b1⟩
   obtain ⟨-, b1⟩ := al1 b1
   replace hbel := Below.after hbel b1
   clear b1 c0 c1 c2 c3 c4 c5
   go_wp2
   exact ⟨⟨hbel, Or.inr (Or.inr (by go_num))⟩, by simp [intOf]⟩
  ·go_wp2
   go_ret
   exact ⟨rfl, hbel⟩
set_option maxRecDepth 100000 in
set_option maxHeartbeats 2000000 in
theorem check2_bad1 (B : Nat) (n0 n1 : Bool) (s0 d0 s1 d1 : ByteArray) (w : World) (c : Int) (hc : ¬ c = 0) (hB : Cel w B [.bool n0, .string s0, .string d0, .bool n1, .string s1, .string d1] 26)
  (H0 : Hid (∀ w1, Below w.heap.size w w1 → Calls Tryz.prog 46 #[.agg #[.bool n0, .string s0, .string d0]] w1 fun e w' => e = .returned (.int .i64 c) ∧ Below w1.heap.size w1 w')) :
  Calls Tryz.prog 39 #[.slice (some ⟨B, 0, none⟩) 2 2] w fun e w' => e = .returned (.int .i64 c) ∧ Below w.heap.size w w' := by
 go_enter Tryz.func39, Tryz.ntmps39
 go_wp2
 go_loopw [8] (fun i wr => Below w.heap.size w wr ∧ (i = .int .i64 0)) (fun i _ => 2 - (intOf i).toNat)
 case atStart => exact ⟨Below.refl _ _, rfl⟩
 case round =>
  obtain ⟨hbel, hi⟩ := hrel
  have kB := hB.below hbel
  have c0 := kB.cell 0
  have c1 := kB.cell 1
  have c2 := kB.cell 2
  have c3 := kB.cell 3
  have c4 := kB.cell 4
  have c5 := kB.cell 5
  simp only [List.getElem?_cons_zero, List.getElem?_cons_succ] at c0 c1 c2 c3 c4 c5
  clear kB
  subst hi
  ·go_wp2_with fail
   go_fit (H0.out _ (ba hbel _))
   rintro e w1 ⟨rfl, b1⟩
   obtain ⟨-, b1⟩ := al1 b1
   replace hbel := Below.after hbel b1
   clear b1 c0 c1 c2 c3 c4 c5
   go_wp2
   go_ret
   exact ⟨rfl, hbel⟩
set_option maxRecDepth 100000 in
set_option maxHeartbeats 2000000 in
theorem check2_bad2 (B : Nat) (n0 n1 : Bool) (s0 d0 s1 d1 : ByteArray) (w : World) (c : Int) (hc : ¬ c = 0) (hB : Cel w B [.bool n0, .string s0, .string d0, .bool n1, .string s1, .string d1] 26)
  (H0 : Hid (∀ w1, Below w.heap.size w w1 → Calls Tryz.prog 46 #[.agg #[.bool n0, .string s0, .string d0]] w1 fun e w' => e = .returned (.int .i64 0) ∧ Below w1.heap.size w1 w'))
  (H1 : Hid (∀ w1, Below w.heap.size w w1 → Calls Tryz.prog 46 #[.agg #[.bool n1, .string s1, .string d1]] w1 fun e w' => e = .returned (.int .i64 c) ∧ Below w1.heap.size w1 w')) :
  Calls Tryz.prog 39 #[.slice (some ⟨B, 0, none⟩) 2 2] w fun e w' => e = .returned (.int .i64 c) ∧ Below w.heap.size w w' := by
 go_enter Tryz.func39, Tryz.ntmps39
 go_wp2
 go_loopw [8] (fun i wr => Below w.heap.size w wr ∧ (i = .int .i64 0 ∨ i = .int .i64 1)) (fun i _ => 2 - (intOf i).toNat)
 case atStart => exact ⟨Below.refl _ _, Or.inl rfl⟩
 case round =>
  obtain ⟨hbel, hi⟩ := hrel
  have kB := hB.below hbel
  have c0 := kB.cell 0
  have c1 := kB.cell 1
  have c2 := kB.cell 2
  have c3 := kB.cell 3
  have c4 := kB.cell 4
  have c5 := kB.cell 5
  simp only [List.getElem?_cons_zero, List.getElem?_cons_succ] at c0 c1 c2 c3 c4 c5
  clear kB
  rcases hi with rfl | rfl
  ·go_wp2_with fail
   go_fit (H0.out _ (ba hbel _))
   rintro e w1 ⟨rfl, b1⟩
   obtain ⟨-, b1⟩ := al1 b1
   replace hbel := Below.after hbel b1
   clear b1 c0 c1 c2 c3 c4 c5
   go_wp2
   exact ⟨⟨hbel, Or.inr (by go_num)⟩, by simp [intOf]⟩
  ·go_wp2_with fail
   go_fit (H1.out _ (ba hbel _))
   rintro e w1 ⟨rfl, b1⟩
   obtain ⟨-, b1⟩ := al1 b1
   replace hbel := Below.after hbel b1
   clear b1 c0 c1 c2 c3 c4 c5
   go_wp2
   go_ret
   exact ⟨rfl, hbel⟩
theorem check2_any (B : Nat) (n0 n1 : Bool) (s0 d0 s1 d1 : ByteArray) (w : World) (hT : Tab w) (hB : Cel w B [.bool n0, .string s0, .string d0, .bool n1, .string s1, .string d1] 26) :
  Calls Tryz.prog 39 #[.slice (some ⟨B, 0, none⟩) 2 2] w fun e w' => e = .returned (.int .i64 (twoq n0 s0 d0 n1 s1 d1 : Nat)) ∧ Below w.heap.size w w' := by
 have h0 : Hid (∀ w1, Below w.heap.size w w1 → Calls Tryz.prog 46 #[.agg #[.bool n0, .string s0, .string d0]] w1 fun e w' => e = .returned (.int .i64 (chkq n0 s0 d0 : Nat)) ∧ Below w1.heap.size w1 w') := fun w1 b => rchk_any n0 s0 d0 w1 (hT.below b)
 have h1 : Hid (∀ w1, Below w.heap.size w w1 → Calls Tryz.prog 46 #[.agg #[.bool n1, .string s1, .string d1]] w1 fun e w' => e = .returned (.int .i64 (chkq n1 s1 d1 : Nat)) ∧ Below w1.heap.size w1 w') := fun w1 b => rchk_any n1 s1 d1 w1 (hT.below b)
 by_cases e0 : chkq n0 s0 d0 = 0
 ·rw [e0] at h0
  rw [show twoq n0 s0 d0 n1 s1 d1 = chkq n1 s1 d1 by unfold twoq; rw [if_pos e0]]
  by_cases e1 : chkq n1 s1 d1 = 0
  ·rw [e1] at h1 ⊢
   exact check2_ok B n0 n1 s0 d0 s1 d1 w hB h0 h1
  ·exact check2_bad2 B n0 n1 s0 d0 s1 d1 w _ (by omega) hB h0 h1
 ·rw [show twoq n0 s0 d0 n1 s1 d1 = chkq n0 s0 d0 by unfold twoq; rw [if_neg e0]]
  exact check2_bad1 B n0 n1 s0 d0 s1 d1 w _ (by omega) hB h0
end Go.Proofs.YtdbnkcimcpnpdaaGreatDoor
