/-
  Package span: the way from one point to another, walked.
  Package span: products of ways.
  Package span: how three points turn.
  Package geom: how two segments meet.
-/
import Derived.Test.YtafikdacdfkkhaaGreatDoorG38
import Derived.Test.YtafikdacdfkkhaaGreatDoorG39
namespace Go.Proofs.YtafikdacdfkkhaaGreatDoor
open Go.RowKit

set_option maxRecDepth 100000 in
set_option maxHeartbeats 8000000 in
theorem sof_walk (n0 n1 n2 n3 : Bool) (s0 d0 s1 d1 s2 d2 s3 d3 : ByteArray) (x y : Rat) (w : World)
  (H1 : Hid (∀ w1, Calls Tryz.prog 122 #[.agg #[.bool n2, .string s2, .string d2], .agg #[.bool n0, .string s0, .string d0]] w1 fun e w' => ∃ m a l c a' l' c' X U, e = .returned (.tuple #[.agg #[.bool m, .slice a l c], .agg #[.bool false, .slice a' l' c']]) ∧ NV w' m (.slice a l c) X 27 ∧ NV w' false (.slice a' l' c') U 26 ∧ 0 < U ∧ (X : Rat) = (U : Rat) * x ∧ Below w1.heap.size w1 w'))
  (H2 : Hid (∀ w1, Calls Tryz.prog 122 #[.agg #[.bool n3, .string s3, .string d3], .agg #[.bool n1, .string s1, .string d1]] w1 fun e w' => ∃ m a l c a' l' c' X U, e = .returned (.tuple #[.agg #[.bool m, .slice a l c], .agg #[.bool false, .slice a' l' c']]) ∧ NV w' m (.slice a l c) X 27 ∧ NV w' false (.slice a' l' c') U 26 ∧ 0 < U ∧ (X : Rat) = (U : Rat) * y ∧ Below w1.heap.size w1 w')) :
  Calls Tryz.prog 80 #[.agg #[.bool n0, .string s0, .string d0, .bool n1, .string s1, .string d1], .agg #[.bool n2, .string s2, .string d2, .bool n3, .string s3, .string d3]] w fun e w' => ∃ m0 a0 l0 c0 m1 a1 l1 c1 a2 l2 c2 X Y U, e = .returned (.agg #[.bool m0, .slice a0 l0 c0, .bool m1, .slice a1 l1 c1, .bool false, .slice a2 l2 c2]) ∧ NV w' m0 (.slice a0 l0 c0) X 53 ∧ NV w' m1 (.slice a1 l1 c1) Y 53 ∧ NV w' false (.slice a2 l2 c2) U 52 ∧ Gm.Way X Y U x y ∧ Below w.heap.size w w' := by
 go_enter Tryz.func80, Tryz.ntmps80
 go_wp2_with fail
 obtain ⟨w0, hw, ka, kb, kr, bb⟩ := mk3 w [.bool n0, .string s0, .string d0, .bool n1, .string s1, .string d1] [.bool n2, .string s2, .string d2, .bool n3, .string s3, .string d3] [.bool false, .slice none 0 0, .bool false, .slice none 0 0, .bool false, .slice none 0 0] 28 28 82
 rw [← hw]
 clear hw
 have tr := kr.lt
 go_fit (H1.out _)
 rintro e w1 ⟨m1, a1, l1, c1, a2, l2, c2, X, U, rfl, nv1, nv2, hU, hX, b1⟩
 replace ka := ka.below b1
 replace kb := kb.below b1
 replace kr := kr.below b1
 replace bb := Below.after bb b1
 have sq0 := b1.size
 clear b1
 replace hX := shut hX
 replace hU := shut hU
 have ca3 := cel6_3 ((ka.alloc (.cells #[.bool m1, .slice a1 l1 c1] 80)).alloc (.cells #[.bool false, .slice a2 l2 c2] 80))
 have ca4 := cel6_4 ((ka.alloc (.cells #[.bool m1, .slice a1 l1 c1] 80)).alloc (.cells #[.bool false, .slice a2 l2 c2] 80))
 have ca5 := cel6_5 ((ka.alloc (.cells #[.bool m1, .slice a1 l1 c1] 80)).alloc (.cells #[.bool false, .slice a2 l2 c2] 80))
 have cb3 := cel6_3 ((kb.alloc (.cells #[.bool m1, .slice a1 l1 c1] 80)).alloc (.cells #[.bool false, .slice a2 l2 c2] 80))
 have cb4 := cel6_4 ((kb.alloc (.cells #[.bool m1, .slice a1 l1 c1] 80)).alloc (.cells #[.bool false, .slice a2 l2 c2] 80))
 have cb5 := cel6_5 ((kb.alloc (.cells #[.bool m1, .slice a1 l1 c1] 80)).alloc (.cells #[.bool false, .slice a2 l2 c2] 80))
 go_wp2_with fail
 obtain ⟨w2, hw, kx, kv, b1⟩ := mk2 w1 [.bool m1, .slice a1 l1 c1] [.bool false, .slice a2 l2 c2] 80 80
 rw [← hw]
 clear hw ca3 ca4 ca5 cb3 cb4 cb5
 replace ka := ka.below b1
 replace kb := kb.below b1
 replace kr := kr.below b1
 replace nv1 := nv1.below b1
 replace nv2 := nv2.below b1
 replace bb := Below.after bb b1
 have sq1 := b1.size
 clear b1
 have tx := kx.lt
 have tv := kv.lt
 go_fit (H2.out _)
 rintro e w3 ⟨m3, a3, l3, c3, a4, l4, c4, Y, V, rfl, nv3, nv4, hV, hY, b1⟩
 replace kr := kr.below b1
 replace kx := kx.below b1
 replace kv := kv.below b1
 replace nv1 := nv1.below b1
 replace nv2 := nv2.below b1
 replace bb := Below.after bb b1
 have sq2 := b1.size
 clear b1
 replace hY := shut hY
 replace hV := shut hV
 have cv0 := cel2_0 ((kv.alloc (.cells #[.bool m3, .slice a3 l3 c3] 80)).alloc (.cells #[.bool false, .slice a4 l4 c4] 80))
 have cv1 := cel2_1 ((kv.alloc (.cells #[.bool m3, .slice a3 l3 c3] 80)).alloc (.cells #[.bool false, .slice a4 l4 c4] 80))
 go_wp2_with fail
 obtain ⟨w4, hw, ky, ku, b1⟩ := mk2 w3 [.bool m3, .slice a3 l3 c3] [.bool false, .slice a4 l4 c4] 80 80
 rw [← hw]
 clear hw cv0 cv1
 replace kr := kr.below b1
 replace kx := kx.below b1
 replace kv := kv.below b1
 replace nv1 := nv1.below b1
 replace nv2 := nv2.below b1
 replace nv3 := nv3.below b1
 replace nv4 := nv4.below b1
 replace bb := Below.after bb b1
 have sq3 := b1.size
 clear b1
 have ty := ky.lt
 have tu := ku.lt
 go_fit (nsame_nv _ _ U V 26 _ (by omega) nv2 nv4)
 rintro e w5 ⟨rfl, b1⟩
 replace kr := kr.below b1
 replace kx := kx.below b1
 replace ky := ky.below b1
 replace kv := kv.below b1
 replace ku := ku.below b1
 replace nv1 := nv1.below b1
 replace nv2 := nv2.below b1
 replace nv3 := nv3.below b1
 replace nv4 := nv4.below b1
 replace bb := Below.after bb b1
 have sq4 := b1.size
 clear b1
 by_cases hs : U = V
 ·have hd := decide_eq_true hs
  rw [hd]
  clear hd
  have cx0 := cel2_0 kx
  have cx1 := cel2_1 kx
  have cy0 := cel2_0 ky
  have cy1 := cel2_1 ky
  have cv0 := cel2_0 kv
  have cv1 := cel2_1 kv
  have e0 := cel6_0 kr
  have f0 := Cel.frozen kr 0
  have e1 := cel6_1 kr
  have f1 := Cel.frozen kr 1
  have e2 := cel6_2 kr
  have f2 := Cel.frozen kr 2
  have e3 := cel6_3 kr
  have f3 := Cel.frozen kr 3
  have e4 := cel6_4 kr
  have f4 := Cel.frozen kr 4
  have e5 := cel6_5 kr
  have f5 := Cel.frozen kr 5
  replace nv1 := shut nv1
  replace nv2 := shut nv2
  replace nv3 := shut nv3
  go_wp2
  exact post_s (p := 4) (by kernel_rfl) rfl rfl ((((((kr.set 0 _).set 1 _).set 2 _).set 3 _).set 4 _).set 5 _) ⟨_, _, _, _, _, _, _, _, _, _, _, _, _, _, rfl, (nv1.out.mono (by omega)).set6 kr _ _ _ _ _ _, (nv3.out.mono (by omega)).set6 kr _ _ _ _ _ _, (nv2.out.mono (by omega)).set6 kr _ _ _ _ _ _, ⟨hU.out, hX.out, by rw [hs]; exact hY.out⟩, bset (bset (bset (bset (bset (bset bb (by omega) 0 _) (by omega) 1 _) (by omega) 2 _) (by omega) 3 _) (by omega) 4 _) (by omega) 5 _⟩
 ·have hd := decide_eq_false hs
  rw [hd]
  clear hd
  go_wp2_with fail
  have mkS : Hid (∀ w', Cel w' (w1.heap.size) [.bool m1, .slice a1 l1 c1] 80 → Cel w' (w1.heap.size + 1) [.bool false, .slice a2 l2 c2] 80 → Cel w' (w3.heap.size) [.bool m3, .slice a3 l3 c3] 80 → Cel w' (w3.heap.size + 1) [.bool false, .slice a4 l4 c4] 80 → (w'.cell? ⟨w1.heap.size, 0, none⟩ = some (.bool m1) ∧ w'.cell? ⟨w1.heap.size, 1, none⟩ = some (.slice a1 l1 c1) ∧ w'.cell? ⟨w1.heap.size + 1, 0, none⟩ = some (.bool false) ∧ w'.cell? ⟨w1.heap.size + 1, 1, none⟩ = some (.slice a2 l2 c2) ∧ w'.cell? ⟨w3.heap.size, 0, none⟩ = some (.bool m3) ∧ w'.cell? ⟨w3.heap.size, 1, none⟩ = some (.slice a3 l3 c3) ∧ w'.cell? ⟨w3.heap.size + 1, 0, none⟩ = some (.bool false) ∧ w'.cell? ⟨w3.heap.size + 1, 1, none⟩ = some (.slice a4 l4 c4))) := fun w' hx hv hy hu => ⟨cel2_0 hx, cel2_1 hx, cel2_0 hv, cel2_1 hv, cel2_0 hy, cel2_1 hy, cel2_0 hu, cel2_1 hu⟩
  have qxr : w1.heap.size ≠ w.heap.size + 1 + 1 := by omega
  have qvr : w1.heap.size + 1 ≠ w.heap.size + 1 + 1 := by omega
  have qyr : w3.heap.size ≠ w.heap.size + 1 + 1 := by omega
  have qur : w3.heap.size + 1 ≠ w.heap.size + 1 + 1 := by omega
  go_region_held3 (fun w' => w'.cell? ⟨w1.heap.size, 0, none⟩ = some (.bool m1) ∧ w'.cell? ⟨w1.heap.size, 1, none⟩ = some (.slice a1 l1 c1) ∧ w'.cell? ⟨w1.heap.size + 1, 0, none⟩ = some (.bool false) ∧ w'.cell? ⟨w1.heap.size + 1, 1, none⟩ = some (.slice a2 l2 c2) ∧ w'.cell? ⟨w3.heap.size, 0, none⟩ = some (.bool m3) ∧ w'.cell? ⟨w3.heap.size, 1, none⟩ = some (.slice a3 l3 c3) ∧ w'.cell? ⟨w3.heap.size + 1, 0, none⟩ = some (.bool false) ∧ w'.cell? ⟨w3.heap.size + 1, 1, none⟩ = some (.slice a4 l4 c4)) (first | with_reducible exact mkS.out _ kx kv ky ku | with_reducible exact mkS.out _ (Cel.other (Cel.other (Cel.other (Cel.other (Cel.other (Cel.other kx qxr 0 _) qxr 1 _) qxr 2 _) qxr 3 _) qxr 4 _) qxr 5 _) (Cel.other (Cel.other (Cel.other (Cel.other (Cel.other (Cel.other kv qvr 0 _) qvr 1 _) qvr 2 _) qvr 3 _) qvr 4 _) qvr 5 _) (Cel.other (Cel.other (Cel.other (Cel.other (Cel.other (Cel.other ky qyr 0 _) qyr 1 _) qyr 2 _) qyr 3 _) qyr 4 _) qyr 5 _) (Cel.other (Cel.other (Cel.other (Cel.other (Cel.other (Cel.other ku qur 0 _) qur 1 _) qur 2 _) qur 3 _) qur 4 _) qur 5 _) | exact mkS.out _ kx kv ky ku) (first | (go_at_call 84; go_fit (ntimes_any _ _ _ _ X V 27 26 _ (by omega) (by omega) ?_ ?_); (first | exact nv1 | exact nv1.drew); (first | exact nv4 | exact nv4.drew); rintro e wn ⟨m5, v5, rfl, nv5, -, bn⟩; obtain ⟨a5, l5, c5, rfl⟩ := nv5.slice; replace kr := kr.below ⟨bn.os, bn.tape, bn.output, bn.size, bn.block⟩; replace kx := kx.below ⟨bn.os, bn.tape, bn.output, bn.size, bn.block⟩; replace ky := ky.below ⟨bn.os, bn.tape, bn.output, bn.size, bn.block⟩; replace kv := kv.below ⟨bn.os, bn.tape, bn.output, bn.size, bn.block⟩; replace ku := ku.below ⟨bn.os, bn.tape, bn.output, bn.size, bn.block⟩; (try replace nv1 := nv1.below ⟨bn.os, bn.tape, bn.output, bn.size, bn.block⟩); (try replace nv2 := nv2.below ⟨bn.os, bn.tape, bn.output, bn.size, bn.block⟩); (try replace nv3 := nv3.below ⟨bn.os, bn.tape, bn.output, bn.size, bn.block⟩); (try replace nv4 := nv4.below ⟨bn.os, bn.tape, bn.output, bn.size, bn.block⟩); (try replace nv6 := nv6.below ⟨bn.os, bn.tape, bn.output, bn.size, bn.block⟩); replace bb := Below.after bb ⟨bn.os, bn.tape, bn.output, bn.size, bn.block⟩) | (go_at_call 84; go_fit (ntimes_any _ _ _ _ Y U 27 26 _ (by omega) (by omega) ?_ ?_); (first | exact nv3 | exact nv3.drew); (first | exact nv2 | exact nv2.drew); rintro e wn ⟨m6, v6, rfl, nv6, -, bn⟩; obtain ⟨a6, l6, c6, rfl⟩ := nv6.slice; replace kr := kr.below ⟨bn.os, bn.tape, bn.output, bn.size, bn.block⟩; replace kx := kx.below ⟨bn.os, bn.tape, bn.output, bn.size, bn.block⟩; replace ky := ky.below ⟨bn.os, bn.tape, bn.output, bn.size, bn.block⟩; replace kv := kv.below ⟨bn.os, bn.tape, bn.output, bn.size, bn.block⟩; replace ku := ku.below ⟨bn.os, bn.tape, bn.output, bn.size, bn.block⟩; (try replace nv1 := nv1.below ⟨bn.os, bn.tape, bn.output, bn.size, bn.block⟩); (try replace nv2 := nv2.below ⟨bn.os, bn.tape, bn.output, bn.size, bn.block⟩); (try replace nv3 := nv3.below ⟨bn.os, bn.tape, bn.output, bn.size, bn.block⟩); (try replace nv4 := nv4.below ⟨bn.os, bn.tape, bn.output, bn.size, bn.block⟩); (try replace nv5 := nv5.below ⟨bn.os, bn.tape, bn.output, bn.size, bn.block⟩); replace bb := Below.after bb ⟨bn.os, bn.tape, bn.output, bn.size, bn.block⟩) | (go_at_call 84; go_fit (ntimes_any _ _ _ _ U V 26 26 _ (by omega) (by omega) ?_ ?_); (first | exact nv2 | exact nv2.drew); (first | exact nv4 | exact nv4.drew); rintro e wn ⟨m7, v7, rfl, nv7, hm7, bn⟩; obtain ⟨a7, l7, c7, rfl⟩ := nv7.slice; replace kr := kr.below ⟨bn.os, bn.tape, bn.output, bn.size, bn.block⟩; replace kx := kx.below ⟨bn.os, bn.tape, bn.output, bn.size, bn.block⟩; replace ky := ky.below ⟨bn.os, bn.tape, bn.output, bn.size, bn.block⟩; replace kv := kv.below ⟨bn.os, bn.tape, bn.output, bn.size, bn.block⟩; replace ku := ku.below ⟨bn.os, bn.tape, bn.output, bn.size, bn.block⟩; (try replace nv1 := nv1.below ⟨bn.os, bn.tape, bn.output, bn.size, bn.block⟩); (try replace nv2 := nv2.below ⟨bn.os, bn.tape, bn.output, bn.size, bn.block⟩); (try replace nv3 := nv3.below ⟨bn.os, bn.tape, bn.output, bn.size, bn.block⟩); (try replace nv4 := nv4.below ⟨bn.os, bn.tape, bn.output, bn.size, bn.block⟩); (try replace nv5 := nv5.below ⟨bn.os, bn.tape, bn.output, bn.size, bn.block⟩); (try replace nv6 := nv6.below ⟨bn.os, bn.tape, bn.output, bn.size, bn.block⟩); replace bb := Below.after bb ⟨bn.os, bn.tape, bn.output, bn.size, bn.block⟩; have er0 := cel6_0 kr; have fr0 := Cel.frozen kr 0; have er1 := cel6_1 kr; have fr1 := Cel.frozen kr 1; have er2 := cel6_2 kr; have fr2 := Cel.frozen kr 2; have er3 := cel6_3 kr; have fr3 := Cel.frozen kr 3; have er4 := cel6_4 kr; have fr4 := Cel.frozen kr 4; have er5 := cel6_5 kr; have fr5 := Cel.frozen kr 5))
  obtain rfl := hm7 trivial trivial
  clear hm7
  replace nv5 := shut nv5
  replace nv6 := shut nv6
  replace nv7 := shut nv7
  go_wp2
  refine post_s (p := 4) (by kernel_rfl) rfl rfl ((((((kr.set 0 _).set 1 _).set 2 _).set 3 _).set 4 _).set 5 _) ⟨_, _, _, _, _, _, _, _, _, _, _, _, _, _, rfl, nv5.out.set6 kr _ _ _ _ _ _, nv6.out.set6 kr _ _ _ _ _ _, nv7.out.set6 kr _ _ _ _ _ _, ⟨Int.mul_pos hU.out hV.out, ?_, ?_⟩, bset (bset (bset (bset (bset (bset bb (by omega) 0 _) (by omega) 1 _) (by omega) 2 _) (by omega) 3 _) (by omega) 4 _) (by omega) 5 _⟩
  ·rw [Rat.intCast_mul, Rat.intCast_mul, hX.out]; grind
  ·rw [Rat.intCast_mul, Rat.intCast_mul, hY.out]; grind
end Go.Proofs.YtafikdacdfkkhaaGreatDoor
namespace Go.Proofs.YtafikdacdfkkhaaGreatDoor
open Go.RowKit

theorem sof_any (n0 n1 n2 n3 : Bool) (s0 d0 s1 d1 s2 d2 s3 d3 : ByteArray) (w : World) (o0 : OkQ n0 s0 d0) (o1 : OkQ n1 s1 d1) (o2 : OkQ n2 s2 d2) (o3 : OkQ n3 s3 d3) (z0 : s0.size ≤ 100 ∧ d0.size ≤ 100) (z1 : s1.size ≤ 100 ∧ d1.size ≤ 100) (z2 : s2.size ≤ 100 ∧ d2.size ≤ 100) (z3 : s3.size ≤ 100 ∧ d3.size ≤ 100) :
  Calls Tryz.prog 80 #[.agg #[.bool n0, .string s0, .string d0, .bool n1, .string s1, .string d1], .agg #[.bool n2, .string s2, .string d2, .bool n3, .string s3, .string d3]] w fun e w' => ∃ m0 a0 l0 c0 m1 a1 l1 c1 a2 l2 c2 X Y U, e = .returned (.agg #[.bool m0, .slice a0 l0 c0, .bool m1, .slice a1 l1 c1, .bool false, .slice a2 l2 c2]) ∧ NV w' m0 (.slice a0 l0 c0) X 53 ∧ NV w' m1 (.slice a1 l1 c1) Y 53 ∧ NV w' false (.slice a2 l2 c2) U 52 ∧ Gm.Way X Y U (qOf n2 s2 d2 - qOf n0 s0 d0) (qOf n3 s3 d3 - qOf n1 s1 d1) ∧ Below w.heap.size w w' :=
 sof_walk n0 n1 n2 n3 s0 d0 s1 d1 s2 d2 s3 d3 _ _ w (fun w1 => less_any n2 n0 s2 d2 s0 d0 w1 o2 o0 z2 z0) (fun w1 => less_any n3 n1 s3 d3 s1 d1 w1 o3 o1 z3 z1)
set_option maxRecDepth 100000 in
set_option maxHeartbeats 8000000 in
theorem scross_any (m0 m1 m2 m3 m4 m5 : Bool) (a0 a1 a2 a3 a4 a5 : Option Addr) (l0 c0 l1 c1 l2 c2 l3 c3 l4 c4 l5 c5 : Nat) (X Y X' Y' : Int) (L : Nat) (w : World) (hL : L ≤ 200) (nv0 : NV w m0 (.slice a0 l0 c0) X L) (nv1 : NV w m1 (.slice a1 l1 c1) Y L) (nv3 : NV w m3 (.slice a3 l3 c3) X' L) (nv4 : NV w m4 (.slice a4 l4 c4) Y' L) :
  Calls Tryz.prog 83 #[.agg #[.bool m0, .slice a0 l0 c0, .bool m1, .slice a1 l1 c1, .bool m2, .slice a2 l2 c2], .agg #[.bool m3, .slice a3 l3 c3, .bool m4, .slice a4 l4 c4, .bool m5, .slice a5 l5 c5]] w fun e w' => ∃ m u, e = .returned (.agg #[.bool m, u]) ∧ NV w' m u (X * Y' - Y * X') (L + L + 1) ∧ Below w.heap.size w w' := by
 go_enter Tryz.func83, Tryz.ntmps83
 go_wp2_with fail
 obtain ⟨w0, hw, ka, kb, kr, bb⟩ := mk3 w [.bool m0, .slice a0 l0 c0, .bool m1, .slice a1 l1 c1, .bool m2, .slice a2 l2 c2] [.bool m3, .slice a3 l3 c3, .bool m4, .slice a4 l4 c4, .bool m5, .slice a5 l5 c5] [.bool false, .slice none 0 0] 82 82 80
 rw [← hw]
 clear hw
 have tr := kr.lt
 replace nv0 := nv0.below bb
 replace nv1 := nv1.below bb
 replace nv3 := nv3.below bb
 replace nv4 := nv4.below bb
 have mkS : Hid (∀ w', Cel w' (w.heap.size) [.bool m0, .slice a0 l0 c0, .bool m1, .slice a1 l1 c1, .bool m2, .slice a2 l2 c2] 82 → Cel w' (w.heap.size + 1) [.bool m3, .slice a3 l3 c3, .bool m4, .slice a4 l4 c4, .bool m5, .slice a5 l5 c5] 82 → (w'.cell? ⟨w.heap.size, 0, none⟩ = some (.bool m0) ∧ w'.cell? ⟨w.heap.size, 1, none⟩ = some (.slice a0 l0 c0) ∧ w'.cell? ⟨w.heap.size, 2, none⟩ = some (.bool m1) ∧ w'.cell? ⟨w.heap.size, 3, none⟩ = some (.slice a1 l1 c1) ∧ w'.cell? ⟨w.heap.size, 4, none⟩ = some (.bool m2) ∧ w'.cell? ⟨w.heap.size, 5, none⟩ = some (.slice a2 l2 c2) ∧ w'.cell? ⟨w.heap.size + 1, 0, none⟩ = some (.bool m3) ∧ w'.cell? ⟨w.heap.size + 1, 1, none⟩ = some (.slice a3 l3 c3) ∧ w'.cell? ⟨w.heap.size + 1, 2, none⟩ = some (.bool m4) ∧ w'.cell? ⟨w.heap.size + 1, 3, none⟩ = some (.slice a4 l4 c4) ∧ w'.cell? ⟨w.heap.size + 1, 4, none⟩ = some (.bool m5) ∧ w'.cell? ⟨w.heap.size + 1, 5, none⟩ = some (.slice a5 l5 c5))) := fun w' ha hb => ⟨cel6_0 ha, cel6_1 ha, cel6_2 ha, cel6_3 ha, cel6_4 ha, cel6_5 ha, cel6_0 hb, cel6_1 hb, cel6_2 hb, cel6_3 hb, cel6_4 hb, cel6_5 hb⟩
 have qar : w.heap.size ≠ w.heap.size + 1 + 1 := by omega
 have qbr : w.heap.size + 1 ≠ w.heap.size + 1 + 1 := by omega
 go_region_held3 (fun w' => w'.cell? ⟨w.heap.size, 0, none⟩ = some (.bool m0) ∧ w'.cell? ⟨w.heap.size, 1, none⟩ = some (.slice a0 l0 c0) ∧ w'.cell? ⟨w.heap.size, 2, none⟩ = some (.bool m1) ∧ w'.cell? ⟨w.heap.size, 3, none⟩ = some (.slice a1 l1 c1) ∧ w'.cell? ⟨w.heap.size, 4, none⟩ = some (.bool m2) ∧ w'.cell? ⟨w.heap.size, 5, none⟩ = some (.slice a2 l2 c2) ∧ w'.cell? ⟨w.heap.size + 1, 0, none⟩ = some (.bool m3) ∧ w'.cell? ⟨w.heap.size + 1, 1, none⟩ = some (.slice a3 l3 c3) ∧ w'.cell? ⟨w.heap.size + 1, 2, none⟩ = some (.bool m4) ∧ w'.cell? ⟨w.heap.size + 1, 3, none⟩ = some (.slice a4 l4 c4) ∧ w'.cell? ⟨w.heap.size + 1, 4, none⟩ = some (.bool m5) ∧ w'.cell? ⟨w.heap.size + 1, 5, none⟩ = some (.slice a5 l5 c5)) (first | with_reducible exact mkS.out _ ka kb | with_reducible exact mkS.out _ (Cel.other (Cel.other ka qar 0 _) qar 1 _) (Cel.other (Cel.other kb qbr 0 _) qbr 1 _) | exact mkS.out _ ka kb) (first | (go_at_call 84; go_fit (ntimes_any _ _ _ _ X Y' L L _ (by omega) (by omega) ?_ ?_); (first | exact nv0 | exact nv0.drew); (first | exact nv4 | exact nv4.drew); rintro e wn ⟨m6, v6, rfl, nv6, -, bn⟩; obtain ⟨a6, l6, c6, rfl⟩ := nv6.slice; replace ka := ka.below ⟨bn.os, bn.tape, bn.output, bn.size, bn.block⟩; replace kb := kb.below ⟨bn.os, bn.tape, bn.output, bn.size, bn.block⟩; replace kr := kr.below ⟨bn.os, bn.tape, bn.output, bn.size, bn.block⟩; (try replace nv0 := nv0.below ⟨bn.os, bn.tape, bn.output, bn.size, bn.block⟩); (try replace nv1 := nv1.below ⟨bn.os, bn.tape, bn.output, bn.size, bn.block⟩); (try replace nv3 := nv3.below ⟨bn.os, bn.tape, bn.output, bn.size, bn.block⟩); (try replace nv4 := nv4.below ⟨bn.os, bn.tape, bn.output, bn.size, bn.block⟩); (try replace nv7 := nv7.below ⟨bn.os, bn.tape, bn.output, bn.size, bn.block⟩); replace bb := Below.after bb ⟨bn.os, bn.tape, bn.output, bn.size, bn.block⟩) | (go_at_call 84; go_fit (ntimes_any _ _ _ _ Y X' L L _ (by omega) (by omega) ?_ ?_); (first | exact nv1 | exact nv1.drew); (first | exact nv3 | exact nv3.drew); rintro e wn ⟨m7, v7, rfl, nv7, -, bn⟩; obtain ⟨a7, l7, c7, rfl⟩ := nv7.slice; replace ka := ka.below ⟨bn.os, bn.tape, bn.output, bn.size, bn.block⟩; replace kb := kb.below ⟨bn.os, bn.tape, bn.output, bn.size, bn.block⟩; replace kr := kr.below ⟨bn.os, bn.tape, bn.output, bn.size, bn.block⟩; (try replace nv0 := nv0.below ⟨bn.os, bn.tape, bn.output, bn.size, bn.block⟩); (try replace nv1 := nv1.below ⟨bn.os, bn.tape, bn.output, bn.size, bn.block⟩); (try replace nv3 := nv3.below ⟨bn.os, bn.tape, bn.output, bn.size, bn.block⟩); (try replace nv4 := nv4.below ⟨bn.os, bn.tape, bn.output, bn.size, bn.block⟩); (try replace nv6 := nv6.below ⟨bn.os, bn.tape, bn.output, bn.size, bn.block⟩); replace bb := Below.after bb ⟨bn.os, bn.tape, bn.output, bn.size, bn.block⟩) | (go_at_call 91; go_fit (nminus_any _ _ _ _ (X * Y') (Y * X') (L + L) _ (by omega) ?_ ?_); (first | exact nv6 | exact nv6.drew); (first | exact nv7 | exact nv7.drew); rintro e wn ⟨m8, v8, rfl, nv8, bn⟩; obtain ⟨a8, l8, c8, rfl⟩ := nv8.slice; replace ka := ka.below ⟨bn.os, bn.tape, bn.output, bn.size, bn.block⟩; replace kb := kb.below ⟨bn.os, bn.tape, bn.output, bn.size, bn.block⟩; replace kr := kr.below ⟨bn.os, bn.tape, bn.output, bn.size, bn.block⟩; (try replace nv0 := nv0.below ⟨bn.os, bn.tape, bn.output, bn.size, bn.block⟩); (try replace nv1 := nv1.below ⟨bn.os, bn.tape, bn.output, bn.size, bn.block⟩); (try replace nv3 := nv3.below ⟨bn.os, bn.tape, bn.output, bn.size, bn.block⟩); (try replace nv4 := nv4.below ⟨bn.os, bn.tape, bn.output, bn.size, bn.block⟩); (try replace nv6 := nv6.below ⟨bn.os, bn.tape, bn.output, bn.size, bn.block⟩); (try replace nv7 := nv7.below ⟨bn.os, bn.tape, bn.output, bn.size, bn.block⟩); replace bb := Below.after bb ⟨bn.os, bn.tape, bn.output, bn.size, bn.block⟩; have er0 := cel2_0 kr; have fr0 := Cel.frozen kr 0; have er1 := cel2_1 kr; have fr1 := Cel.frozen kr 1))
 replace nv8 := shut nv8
 go_wp2
 exact post_n (p := 4) (by kernel_rfl) rfl rfl ((kr.set 0 _).set 1 _) ⟨_, _, rfl, nv8.out.set2 kr _ _, bset (bset bb (by omega) 0 _) (by omega) 1 _⟩
set_option maxRecDepth 100000 in
set_option maxHeartbeats 8000000 in
theorem sdot_any (m0 m1 m2 m3 m4 m5 : Bool) (a0 a1 a2 a3 a4 a5 : Option Addr) (l0 c0 l1 c1 l2 c2 l3 c3 l4 c4 l5 c5 : Nat) (X Y X' Y' : Int) (L : Nat) (w : World) (hL : L ≤ 200) (nv0 : NV w m0 (.slice a0 l0 c0) X L) (nv1 : NV w m1 (.slice a1 l1 c1) Y L) (nv3 : NV w m3 (.slice a3 l3 c3) X' L) (nv4 : NV w m4 (.slice a4 l4 c4) Y' L) :
  Calls Tryz.prog 81 #[.agg #[.bool m0, .slice a0 l0 c0, .bool m1, .slice a1 l1 c1, .bool m2, .slice a2 l2 c2], .agg #[.bool m3, .slice a3 l3 c3, .bool m4, .slice a4 l4 c4, .bool m5, .slice a5 l5 c5]] w fun e w' => ∃ m u, e = .returned (.agg #[.bool m, u]) ∧ NV w' m u (X * X' + Y * Y') (L + L + 1) ∧ Below w.heap.size w w' := by
 go_enter Tryz.func81, Tryz.ntmps81
 go_wp2_with fail
 obtain ⟨w0, hw, ka, kb, kr, bb⟩ := mk3 w [.bool m0, .slice a0 l0 c0, .bool m1, .slice a1 l1 c1, .bool m2, .slice a2 l2 c2] [.bool m3, .slice a3 l3 c3, .bool m4, .slice a4 l4 c4, .bool m5, .slice a5 l5 c5] [.bool false, .slice none 0 0] 82 82 80
 rw [← hw]
 clear hw
 have tr := kr.lt
 replace nv0 := nv0.below bb
 replace nv1 := nv1.below bb
 replace nv3 := nv3.below bb
 replace nv4 := nv4.below bb
 have mkS : Hid (∀ w', Cel w' (w.heap.size) [.bool m0, .slice a0 l0 c0, .bool m1, .slice a1 l1 c1, .bool m2, .slice a2 l2 c2] 82 → Cel w' (w.heap.size + 1) [.bool m3, .slice a3 l3 c3, .bool m4, .slice a4 l4 c4, .bool m5, .slice a5 l5 c5] 82 → (w'.cell? ⟨w.heap.size, 0, none⟩ = some (.bool m0) ∧ w'.cell? ⟨w.heap.size, 1, none⟩ = some (.slice a0 l0 c0) ∧ w'.cell? ⟨w.heap.size, 2, none⟩ = some (.bool m1) ∧ w'.cell? ⟨w.heap.size, 3, none⟩ = some (.slice a1 l1 c1) ∧ w'.cell? ⟨w.heap.size, 4, none⟩ = some (.bool m2) ∧ w'.cell? ⟨w.heap.size, 5, none⟩ = some (.slice a2 l2 c2) ∧ w'.cell? ⟨w.heap.size + 1, 0, none⟩ = some (.bool m3) ∧ w'.cell? ⟨w.heap.size + 1, 1, none⟩ = some (.slice a3 l3 c3) ∧ w'.cell? ⟨w.heap.size + 1, 2, none⟩ = some (.bool m4) ∧ w'.cell? ⟨w.heap.size + 1, 3, none⟩ = some (.slice a4 l4 c4) ∧ w'.cell? ⟨w.heap.size + 1, 4, none⟩ = some (.bool m5) ∧ w'.cell? ⟨w.heap.size + 1, 5, none⟩ = some (.slice a5 l5 c5))) := fun w' ha hb => ⟨cel6_0 ha, cel6_1 ha, cel6_2 ha, cel6_3 ha, cel6_4 ha, cel6_5 ha, cel6_0 hb, cel6_1 hb, cel6_2 hb, cel6_3 hb, cel6_4 hb, cel6_5 hb⟩
 have qar : w.heap.size ≠ w.heap.size + 1 + 1 := by omega
 have qbr : w.heap.size + 1 ≠ w.heap.size + 1 + 1 := by omega
 go_region_held3 (fun w' => w'.cell? ⟨w.heap.size, 0, none⟩ = some (.bool m0) ∧ w'.cell? ⟨w.heap.size, 1, none⟩ = some (.slice a0 l0 c0) ∧ w'.cell? ⟨w.heap.size, 2, none⟩ = some (.bool m1) ∧ w'.cell? ⟨w.heap.size, 3, none⟩ = some (.slice a1 l1 c1) ∧ w'.cell? ⟨w.heap.size, 4, none⟩ = some (.bool m2) ∧ w'.cell? ⟨w.heap.size, 5, none⟩ = some (.slice a2 l2 c2) ∧ w'.cell? ⟨w.heap.size + 1, 0, none⟩ = some (.bool m3) ∧ w'.cell? ⟨w.heap.size + 1, 1, none⟩ = some (.slice a3 l3 c3) ∧ w'.cell? ⟨w.heap.size + 1, 2, none⟩ = some (.bool m4) ∧ w'.cell? ⟨w.heap.size + 1, 3, none⟩ = some (.slice a4 l4 c4) ∧ w'.cell? ⟨w.heap.size + 1, 4, none⟩ = some (.bool m5) ∧ w'.cell? ⟨w.heap.size + 1, 5, none⟩ = some (.slice a5 l5 c5)) (first | with_reducible exact mkS.out _ ka kb | with_reducible exact mkS.out _ (Cel.other (Cel.other ka qar 0 _) qar 1 _) (Cel.other (Cel.other kb qbr 0 _) qbr 1 _) | exact mkS.out _ ka kb) (first | (go_at_call 84; go_fit (ntimes_any _ _ _ _ X X' L L _ (by omega) (by omega) ?_ ?_); (first | exact nv0 | exact nv0.drew); (first | exact nv3 | exact nv3.drew); rintro e wn ⟨m6, v6, rfl, nv6, -, bn⟩; obtain ⟨a6, l6, c6, rfl⟩ := nv6.slice; replace ka := ka.below ⟨bn.os, bn.tape, bn.output, bn.size, bn.block⟩; replace kb := kb.below ⟨bn.os, bn.tape, bn.output, bn.size, bn.block⟩; replace kr := kr.below ⟨bn.os, bn.tape, bn.output, bn.size, bn.block⟩; (try replace nv0 := nv0.below ⟨bn.os, bn.tape, bn.output, bn.size, bn.block⟩); (try replace nv1 := nv1.below ⟨bn.os, bn.tape, bn.output, bn.size, bn.block⟩); (try replace nv3 := nv3.below ⟨bn.os, bn.tape, bn.output, bn.size, bn.block⟩); (try replace nv4 := nv4.below ⟨bn.os, bn.tape, bn.output, bn.size, bn.block⟩); (try replace nv7 := nv7.below ⟨bn.os, bn.tape, bn.output, bn.size, bn.block⟩); replace bb := Below.after bb ⟨bn.os, bn.tape, bn.output, bn.size, bn.block⟩) | (go_at_call 84; go_fit (ntimes_any _ _ _ _ Y Y' L L _ (by omega) (by omega) ?_ ?_); (first | exact nv1 | exact nv1.drew); (first | exact nv4 | exact nv4.drew); rintro e wn ⟨m7, v7, rfl, nv7, -, bn⟩; obtain ⟨a7, l7, c7, rfl⟩ := nv7.slice; replace ka := ka.below ⟨bn.os, bn.tape, bn.output, bn.size, bn.block⟩; replace kb := kb.below ⟨bn.os, bn.tape, bn.output, bn.size, bn.block⟩; replace kr := kr.below ⟨bn.os, bn.tape, bn.output, bn.size, bn.block⟩; (try replace nv0 := nv0.below ⟨bn.os, bn.tape, bn.output, bn.size, bn.block⟩); (try replace nv1 := nv1.below ⟨bn.os, bn.tape, bn.output, bn.size, bn.block⟩); (try replace nv3 := nv3.below ⟨bn.os, bn.tape, bn.output, bn.size, bn.block⟩); (try replace nv4 := nv4.below ⟨bn.os, bn.tape, bn.output, bn.size, bn.block⟩); (try replace nv6 := nv6.below ⟨bn.os, bn.tape, bn.output, bn.size, bn.block⟩); replace bb := Below.after bb ⟨bn.os, bn.tape, bn.output, bn.size, bn.block⟩) | (go_at_call 90; go_fit (nplus_any _ _ _ _ (X * X') (Y * Y') (L + L) _ (by omega) ?_ ?_); (first | exact nv6 | exact nv6.drew); (first | exact nv7 | exact nv7.drew); rintro e wn ⟨m8, v8, rfl, nv8, bn⟩; obtain ⟨a8, l8, c8, rfl⟩ := nv8.slice; replace ka := ka.below ⟨bn.os, bn.tape, bn.output, bn.size, bn.block⟩; replace kb := kb.below ⟨bn.os, bn.tape, bn.output, bn.size, bn.block⟩; replace kr := kr.below ⟨bn.os, bn.tape, bn.output, bn.size, bn.block⟩; (try replace nv0 := nv0.below ⟨bn.os, bn.tape, bn.output, bn.size, bn.block⟩); (try replace nv1 := nv1.below ⟨bn.os, bn.tape, bn.output, bn.size, bn.block⟩); (try replace nv3 := nv3.below ⟨bn.os, bn.tape, bn.output, bn.size, bn.block⟩); (try replace nv4 := nv4.below ⟨bn.os, bn.tape, bn.output, bn.size, bn.block⟩); (try replace nv6 := nv6.below ⟨bn.os, bn.tape, bn.output, bn.size, bn.block⟩); (try replace nv7 := nv7.below ⟨bn.os, bn.tape, bn.output, bn.size, bn.block⟩); replace bb := Below.after bb ⟨bn.os, bn.tape, bn.output, bn.size, bn.block⟩; have er0 := cel2_0 kr; have fr0 := Cel.frozen kr 0; have er1 := cel2_1 kr; have fr1 := Cel.frozen kr 1))
 replace nv8 := shut nv8
 go_wp2
 exact post_n (p := 4) (by kernel_rfl) rfl rfl ((kr.set 0 _).set 1 _) ⟨_, _, rfl, nv8.out.set2 kr _ _, bset (bset bb (by omega) 0 _) (by omega) 1 _⟩
set_option maxRecDepth 100000 in
set_option maxHeartbeats 8000000 in
theorem ssquare_any (m0 m1 m2 : Bool) (a0 a1 a2 : Option Addr) (l0 c0 l1 c1 l2 c2 : Nat) (X Y : Int) (L : Nat) (w : World) (hL : L ≤ 200) (nv0 : NV w m0 (.slice a0 l0 c0) X L) (nv1 : NV w m1 (.slice a1 l1 c1) Y L) :
  Calls Tryz.prog 86 #[.agg #[.bool m0, .slice a0 l0 c0, .bool m1, .slice a1 l1 c1, .bool m2, .slice a2 l2 c2]] w fun e w' => ∃ m u, e = .returned (.agg #[.bool m, u]) ∧ NV w' m u (X * X + Y * Y) (L + L + 1) ∧ Below w.heap.size w w' := by
 go_enter Tryz.func86, Tryz.ntmps86
 go_wp2_with fail
 obtain ⟨w0, hw, ka, kr, bb⟩ := mk2 w [.bool m0, .slice a0 l0 c0, .bool m1, .slice a1 l1 c1, .bool m2, .slice a2 l2 c2] [.bool false, .slice none 0 0] 82 80
 rw [← hw]
 clear hw
 have tr := kr.lt
 go_fit (sdot_any _ _ _ _ _ _ _ _ _ _ _ _ _ _ _ _ _ _ _ _ _ _ _ _ X Y X Y L _ hL (nv0.below bb) (nv1.below bb) (nv0.below bb) (nv1.below bb))
 rintro e w1 ⟨m8, v8, rfl, nv8, b1⟩
 obtain ⟨a8, l8, c8, rfl⟩ := nv8.slice
 replace kr := kr.below b1
 replace bb := Below.after bb b1
 clear b1
 have e0 := cel2_0 kr
 have e1 := cel2_1 kr
 have f0 := Cel.frozen kr 0
 have f1 := Cel.frozen kr 1
 replace nv8 := shut nv8
 go_wp2
 exact post_n (p := 2) (by kernel_rfl) rfl rfl ((kr.set 0 _).set 1 _) ⟨_, _, rfl, nv8.out.set2 kr _ _, bset (bset bb (by omega) 0 _) (by omega) 1 _⟩
end Go.Proofs.YtafikdacdfkkhaaGreatDoor
namespace Go.Proofs.YtafikdacdfkkhaaGreatDoor
open Go.RowKit

set_option maxRecDepth 100000 in
set_option maxHeartbeats 8000000 in
theorem turn_walk (n0 n1 n2 n3 n4 n5 : Bool) (s0 d0 s1 d1 s2 d2 s3 d3 s4 d4 s5 d5 : ByteArray) (x y x' y' : Rat) (w : World)
  (H1 : Hid (∀ w1, Calls Tryz.prog 80 #[.agg #[.bool n0, .string s0, .string d0, .bool n1, .string s1, .string d1], .agg #[.bool n2, .string s2, .string d2, .bool n3, .string s3, .string d3]] w1 fun e w' => ∃ m0 a0 l0 c0 m1 a1 l1 c1 a2 l2 c2 X Y U, e = .returned (.agg #[.bool m0, .slice a0 l0 c0, .bool m1, .slice a1 l1 c1, .bool false, .slice a2 l2 c2]) ∧ NV w' m0 (.slice a0 l0 c0) X 53 ∧ NV w' m1 (.slice a1 l1 c1) Y 53 ∧ NV w' false (.slice a2 l2 c2) U 52 ∧ Gm.Way X Y U x y ∧ Below w1.heap.size w1 w'))
  (H2 : Hid (∀ w1, Calls Tryz.prog 80 #[.agg #[.bool n0, .string s0, .string d0, .bool n1, .string s1, .string d1], .agg #[.bool n4, .string s4, .string d4, .bool n5, .string s5, .string d5]] w1 fun e w' => ∃ m0 a0 l0 c0 m1 a1 l1 c1 a2 l2 c2 X Y U, e = .returned (.agg #[.bool m0, .slice a0 l0 c0, .bool m1, .slice a1 l1 c1, .bool false, .slice a2 l2 c2]) ∧ NV w' m0 (.slice a0 l0 c0) X 53 ∧ NV w' m1 (.slice a1 l1 c1) Y 53 ∧ NV w' false (.slice a2 l2 c2) U 52 ∧ Gm.Way X Y U x' y' ∧ Below w1.heap.size w1 w')) :
  Calls Tryz.prog 64 #[.agg #[.bool n0, .string s0, .string d0, .bool n1, .string s1, .string d1], .agg #[.bool n2, .string s2, .string d2, .bool n3, .string s3, .string d3], .agg #[.bool n4, .string s4, .string d4, .bool n5, .string s5, .string d5]] w fun e w' => e = .returned (.int .i64 (Gm.sg (x * y' - y * x'))) ∧ Below w.heap.size w w' := by
 go_enter Tryz.func64, Tryz.ntmps64
 go_wp2_with fail
 obtain ⟨w0, hw, ka, kb, kc, bb⟩ := mk3 w [.bool n0, .string s0, .string d0, .bool n1, .string s1, .string d1] [.bool n2, .string s2, .string d2, .bool n3, .string s3, .string d3] [.bool n4, .string s4, .string d4, .bool n5, .string s5, .string d5] 28 28 28
 rw [← hw]
 clear hw
 have mkS : Hid (∀ w', Cel w' (w.heap.size) [.bool n0, .string s0, .string d0, .bool n1, .string s1, .string d1] 28 → Cel w' (w.heap.size + 1) [.bool n2, .string s2, .string d2, .bool n3, .string s3, .string d3] 28 → Cel w' (w.heap.size + 1 + 1) [.bool n4, .string s4, .string d4, .bool n5, .string s5, .string d5] 28 → (w'.cell? ⟨w.heap.size, 0, none⟩ = some (.bool n0) ∧ w'.cell? ⟨w.heap.size, 1, none⟩ = some (.string s0) ∧ w'.cell? ⟨w.heap.size, 2, none⟩ = some (.string d0) ∧ w'.cell? ⟨w.heap.size, 3, none⟩ = some (.bool n1) ∧ w'.cell? ⟨w.heap.size, 4, none⟩ = some (.string s1) ∧ w'.cell? ⟨w.heap.size, 5, none⟩ = some (.string d1) ∧ w'.cell? ⟨w.heap.size + 1, 0, none⟩ = some (.bool n2) ∧ w'.cell? ⟨w.heap.size + 1, 1, none⟩ = some (.string s2) ∧ w'.cell? ⟨w.heap.size + 1, 2, none⟩ = some (.string d2) ∧ w'.cell? ⟨w.heap.size + 1, 3, none⟩ = some (.bool n3) ∧ w'.cell? ⟨w.heap.size + 1, 4, none⟩ = some (.string s3) ∧ w'.cell? ⟨w.heap.size + 1, 5, none⟩ = some (.string d3) ∧ w'.cell? ⟨w.heap.size + 1 + 1, 0, none⟩ = some (.bool n4) ∧ w'.cell? ⟨w.heap.size + 1 + 1, 1, none⟩ = some (.string s4) ∧ w'.cell? ⟨w.heap.size + 1 + 1, 2, none⟩ = some (.string d4) ∧ w'.cell? ⟨w.heap.size + 1 + 1, 3, none⟩ = some (.bool n5) ∧ w'.cell? ⟨w.heap.size + 1 + 1, 4, none⟩ = some (.string s5) ∧ w'.cell? ⟨w.heap.size + 1 + 1, 5, none⟩ = some (.string d5))) := fun w' ha hb hc => ⟨cel6_0 ha, cel6_1 ha, cel6_2 ha, cel6_3 ha, cel6_4 ha, cel6_5 ha, cel6_0 hb, cel6_1 hb, cel6_2 hb, cel6_3 hb, cel6_4 hb, cel6_5 hb, cel6_0 hc, cel6_1 hc, cel6_2 hc, cel6_3 hc, cel6_4 hc, cel6_5 hc⟩
 go_region_held3 (fun w' => w'.cell? ⟨w.heap.size, 0, none⟩ = some (.bool n0) ∧ w'.cell? ⟨w.heap.size, 1, none⟩ = some (.string s0) ∧ w'.cell? ⟨w.heap.size, 2, none⟩ = some (.string d0) ∧ w'.cell? ⟨w.heap.size, 3, none⟩ = some (.bool n1) ∧ w'.cell? ⟨w.heap.size, 4, none⟩ = some (.string s1) ∧ w'.cell? ⟨w.heap.size, 5, none⟩ = some (.string d1) ∧ w'.cell? ⟨w.heap.size + 1, 0, none⟩ = some (.bool n2) ∧ w'.cell? ⟨w.heap.size + 1, 1, none⟩ = some (.string s2) ∧ w'.cell? ⟨w.heap.size + 1, 2, none⟩ = some (.string d2) ∧ w'.cell? ⟨w.heap.size + 1, 3, none⟩ = some (.bool n3) ∧ w'.cell? ⟨w.heap.size + 1, 4, none⟩ = some (.string s3) ∧ w'.cell? ⟨w.heap.size + 1, 5, none⟩ = some (.string d3) ∧ w'.cell? ⟨w.heap.size + 1 + 1, 0, none⟩ = some (.bool n4) ∧ w'.cell? ⟨w.heap.size + 1 + 1, 1, none⟩ = some (.string s4) ∧ w'.cell? ⟨w.heap.size + 1 + 1, 2, none⟩ = some (.string d4) ∧ w'.cell? ⟨w.heap.size + 1 + 1, 3, none⟩ = some (.bool n5) ∧ w'.cell? ⟨w.heap.size + 1 + 1, 4, none⟩ = some (.string s5) ∧ w'.cell? ⟨w.heap.size + 1 + 1, 5, none⟩ = some (.string d5)) (first | with_reducible exact mkS.out _ ka kb kc | exact mkS.out _ ka kb kc) (first | (go_at_call 80; go_fit (H1.out _); rintro e wn ⟨m0, a0, l0, c0, m1, a1, l1, c1, a2, l2, c2, X, Y, U, rfl, nv0, nv1, nv2, hw0, bn⟩; replace ka := ka.below ⟨bn.os, bn.tape, bn.output, bn.size, bn.block⟩; replace kb := kb.below ⟨bn.os, bn.tape, bn.output, bn.size, bn.block⟩; replace kc := kc.below ⟨bn.os, bn.tape, bn.output, bn.size, bn.block⟩; (try replace nv3 := nv3.below ⟨bn.os, bn.tape, bn.output, bn.size, bn.block⟩); (try replace nv4 := nv4.below ⟨bn.os, bn.tape, bn.output, bn.size, bn.block⟩); (try replace nv6 := nv6.below ⟨bn.os, bn.tape, bn.output, bn.size, bn.block⟩); replace bb := Below.after bb ⟨bn.os, bn.tape, bn.output, bn.size, bn.block⟩) | (go_at_call 80; go_fit (H2.out _); rintro e wn ⟨m3, a3, l3, c3, m4, a4, l4, c4, a5, l5, c5, X', Y', U', rfl, nv3, nv4, nv5, hw1, bn⟩; replace ka := ka.below ⟨bn.os, bn.tape, bn.output, bn.size, bn.block⟩; replace kb := kb.below ⟨bn.os, bn.tape, bn.output, bn.size, bn.block⟩; replace kc := kc.below ⟨bn.os, bn.tape, bn.output, bn.size, bn.block⟩; (try replace nv0 := nv0.below ⟨bn.os, bn.tape, bn.output, bn.size, bn.block⟩); (try replace nv1 := nv1.below ⟨bn.os, bn.tape, bn.output, bn.size, bn.block⟩); (try replace nv6 := nv6.below ⟨bn.os, bn.tape, bn.output, bn.size, bn.block⟩); replace bb := Below.after bb ⟨bn.os, bn.tape, bn.output, bn.size, bn.block⟩) | (go_at_call 83; go_fit (scross_any _ _ _ _ _ _ _ _ _ _ _ _ _ _ _ _ _ _ _ _ _ _ _ _ X Y X' Y' 53 _ (by omega) ?_ ?_ ?_ ?_); (first | exact nv0 | exact nv0.drew); (first | exact nv1 | exact nv1.drew); (first | exact nv3 | exact nv3.drew); (first | exact nv4 | exact nv4.drew); rintro e wn ⟨m6, v6, rfl, nv6, bn⟩; obtain ⟨a6, l6, c6, rfl⟩ := nv6.slice; replace ka := ka.below ⟨bn.os, bn.tape, bn.output, bn.size, bn.block⟩; replace kb := kb.below ⟨bn.os, bn.tape, bn.output, bn.size, bn.block⟩; replace kc := kc.below ⟨bn.os, bn.tape, bn.output, bn.size, bn.block⟩; (try replace nv0 := nv0.below ⟨bn.os, bn.tape, bn.output, bn.size, bn.block⟩); (try replace nv1 := nv1.below ⟨bn.os, bn.tape, bn.output, bn.size, bn.block⟩); (try replace nv3 := nv3.below ⟨bn.os, bn.tape, bn.output, bn.size, bn.block⟩); (try replace nv4 := nv4.below ⟨bn.os, bn.tape, bn.output, bn.size, bn.block⟩); replace bb := Below.after bb ⟨bn.os, bn.tape, bn.output, bn.size, bn.block⟩) | (go_at_call 82; go_fit (nsign_any _ _ (X * Y' - Y * X') (53 + 53 + 1) _ ?_); (first | exact nv6 | exact nv6.drew); rintro e wn ⟨rfl, bn⟩; replace ka := ka.below ⟨bn.os, bn.tape, bn.output, bn.size, bn.block⟩; replace kb := kb.below ⟨bn.os, bn.tape, bn.output, bn.size, bn.block⟩; replace kc := kc.below ⟨bn.os, bn.tape, bn.output, bn.size, bn.block⟩; (try replace nv0 := nv0.below ⟨bn.os, bn.tape, bn.output, bn.size, bn.block⟩); (try replace nv1 := nv1.below ⟨bn.os, bn.tape, bn.output, bn.size, bn.block⟩); (try replace nv3 := nv3.below ⟨bn.os, bn.tape, bn.output, bn.size, bn.block⟩); (try replace nv4 := nv4.below ⟨bn.os, bn.tape, bn.output, bn.size, bn.block⟩); (try replace nv6 := nv6.below ⟨bn.os, bn.tape, bn.output, bn.size, bn.block⟩); replace bb := Below.after bb ⟨bn.os, bn.tape, bn.output, bn.size, bn.block⟩))
 rw [Gm.cross_sign hw0 hw1]
 go_wp2
 go_ret
 exact ⟨rfl, bb⟩
theorem load_s {w : World} {g : Nat} {x0 x1 x2 x3 x4 x5 : Value} (h : Cel w g [x0, x1, x2, x3, x4, x5] 82) : (loadVar 82 ⟨g, 0, none⟩).run Tryz.prog w = .ok (.agg #[x0, x1, x2, x3, x4, x5]) w :=
 run_loadVar_row w g 82 82 #[x0, x1, x2, x3, x4, x5] (0, 0) _ h Tryz.underlying82 rfl (by kernel_rfl)
theorem post_sn {fn : Func} {p q : Tmp} {R : Ending → World → Prop} {a : Act} {w : World} {g g' : Nat} {x0 x1 x2 x3 x4 x5 x' y' : Value} (h : fn.results = #[.cell p 82, .cell q 80]) (hp : a.tmps.getD p undef = .pointer (some ⟨g, 0, none⟩)) (hq : a.tmps.getD q undef = .pointer (some ⟨g', 0, none⟩)) (hd : a.defers = [])
  (hc : Cel w g [x0, x1, x2, x3, x4, x5] 82) (hc' : Cel w g' [x', y'] 80) (hR : R (.returned (.tuple #[.agg #[x0, x1, x2, x3, x4, x5], .agg #[x', y']])) w) : bodyPost Tryz.prog fn R .ret a w := by
 refine ⟨hd, .tuple #[.agg #[x0, x1, x2, x3, x4, x5], .agg #[x', y']], ?_, hR⟩
 have hp' : a.tmps[p]?.getD undef = .pointer (some ⟨g, 0, none⟩) := by simpa using hp
 have hq' : a.tmps[q]?.getD undef = .pointer (some ⟨g', 0, none⟩) := by simpa using hq
 simp only [results, h]
 simp [Sem.run_bind, Result.andThen, hp', hq', asAddr, load_s hc, load_n hc']
set_option maxRecDepth 100000 in
set_option maxHeartbeats 8000000 in
theorem lifted_any (m0 m1 m2 : Bool) (a0 a1 a2 : Option Addr) (l0 c0 l1 c1 l2 c2 : Nat) (X Y U : Int) (w : World) (nv0 : NV w m0 (.slice a0 l0 c0) X 53) (nv1 : NV w m1 (.slice a1 l1 c1) Y 53) (nv2 : NV w m2 (.slice a2 l2 c2) U 52) :
  Calls Tryz.prog 112 #[.agg #[.bool m0, .slice a0 l0 c0, .bool m1, .slice a1 l1 c1, .bool m2, .slice a2 l2 c2]] w fun e w' => ∃ m a l c m' a' l' c' m'' a'' l'' c'', e = .returned (.tuple #[.agg #[.bool m, .slice a l c, .bool m', .slice a' l' c', .bool false, .slice none 0 0], .agg #[.bool m'', .slice a'' l'' c'']]) ∧ NV w' m (.slice a l c) (X * U) 105 ∧ NV w' m' (.slice a' l' c') (Y * U) 105 ∧ NV w' m'' (.slice a'' l'' c'') (X * X + Y * Y) 107 ∧ Below w.heap.size w w' := by
 go_enter Tryz.func112, Tryz.ntmps112
 go_wp2_with fail
 obtain ⟨w0, hw, ka, kr, ks, bb⟩ := mk3 w [.bool m0, .slice a0 l0 c0, .bool m1, .slice a1 l1 c1, .bool m2, .slice a2 l2 c2] [.bool false, .slice none 0 0, .bool false, .slice none 0 0, .bool false, .slice none 0 0] [.bool false, .slice none 0 0] 82 82 80
 rw [← hw]
 clear hw
 have tr := kr.lt
 have ts := ks.lt
 replace nv0 := nv0.below bb
 replace nv1 := nv1.below bb
 replace nv2 := nv2.below bb
 have mkS : Hid (∀ w', Cel w' (w.heap.size) [.bool m0, .slice a0 l0 c0, .bool m1, .slice a1 l1 c1, .bool m2, .slice a2 l2 c2] 82 → (w'.cell? ⟨w.heap.size, 0, none⟩ = some (.bool m0) ∧ w'.cell? ⟨w.heap.size, 1, none⟩ = some (.slice a0 l0 c0) ∧ w'.cell? ⟨w.heap.size, 2, none⟩ = some (.bool m1) ∧ w'.cell? ⟨w.heap.size, 3, none⟩ = some (.slice a1 l1 c1) ∧ w'.cell? ⟨w.heap.size, 4, none⟩ = some (.bool m2) ∧ w'.cell? ⟨w.heap.size, 5, none⟩ = some (.slice a2 l2 c2))) := fun w' ha => ⟨cel6_0 ha, cel6_1 ha, cel6_2 ha, cel6_3 ha, cel6_4 ha, cel6_5 ha⟩
 have qar : w.heap.size ≠ w.heap.size + 1 := by omega
 have qas : w.heap.size ≠ w.heap.size + 1 + 1 := by omega
 go_region_held3 (fun w' => w'.cell? ⟨w.heap.size, 0, none⟩ = some (.bool m0) ∧ w'.cell? ⟨w.heap.size, 1, none⟩ = some (.slice a0 l0 c0) ∧ w'.cell? ⟨w.heap.size, 2, none⟩ = some (.bool m1) ∧ w'.cell? ⟨w.heap.size, 3, none⟩ = some (.slice a1 l1 c1) ∧ w'.cell? ⟨w.heap.size, 4, none⟩ = some (.bool m2) ∧ w'.cell? ⟨w.heap.size, 5, none⟩ = some (.slice a2 l2 c2)) (first | with_reducible exact mkS.out _ ka | with_reducible exact mkS.out _ (Cel.other (Cel.other (Cel.other (Cel.other (Cel.other (Cel.other ka qar 0 _) qar 1 _) qar 2 _) qar 3 _) qar 4 _) qar 5 _) | with_reducible exact mkS.out _ (Cel.other (Cel.other (Cel.other (Cel.other (Cel.other (Cel.other (Cel.other (Cel.other ka qar 0 _) qar 1 _) qar 2 _) qar 3 _) qar 4 _) qar 5 _) qas 0 _) qas 1 _) | exact mkS.out _ ka) (first | (go_at_call 84; go_fit (ntimes_any _ _ _ _ X U 53 52 _ (by omega) (by omega) ?_ ?_); (first | exact nv0 | exact nv0.drew); (first | exact nv2 | exact nv2.drew); rintro e wn ⟨m6, v6, rfl, nv6, -, bn⟩; obtain ⟨a6, l6, c6, rfl⟩ := nv6.slice; replace ka := ka.below ⟨bn.os, bn.tape, bn.output, bn.size, bn.block⟩; replace kr := kr.below ⟨bn.os, bn.tape, bn.output, bn.size, bn.block⟩; replace ks := ks.below ⟨bn.os, bn.tape, bn.output, bn.size, bn.block⟩; (try replace nv0 := nv0.below ⟨bn.os, bn.tape, bn.output, bn.size, bn.block⟩); (try replace nv1 := nv1.below ⟨bn.os, bn.tape, bn.output, bn.size, bn.block⟩); (try replace nv2 := nv2.below ⟨bn.os, bn.tape, bn.output, bn.size, bn.block⟩); (try replace nv7 := nv7.below ⟨bn.os, bn.tape, bn.output, bn.size, bn.block⟩); (try replace nv8 := nv8.below ⟨bn.os, bn.tape, bn.output, bn.size, bn.block⟩); replace bb := Below.after bb ⟨bn.os, bn.tape, bn.output, bn.size, bn.block⟩) | (go_at_call 84; go_fit (ntimes_any _ _ _ _ Y U 53 52 _ (by omega) (by omega) ?_ ?_); (first | exact nv1 | exact nv1.drew); (first | exact nv2 | exact nv2.drew); rintro e wn ⟨m7, v7, rfl, nv7, -, bn⟩; obtain ⟨a7, l7, c7, rfl⟩ := nv7.slice; replace ka := ka.below ⟨bn.os, bn.tape, bn.output, bn.size, bn.block⟩; replace kr := kr.below ⟨bn.os, bn.tape, bn.output, bn.size, bn.block⟩; replace ks := ks.below ⟨bn.os, bn.tape, bn.output, bn.size, bn.block⟩; (try replace nv0 := nv0.below ⟨bn.os, bn.tape, bn.output, bn.size, bn.block⟩); (try replace nv1 := nv1.below ⟨bn.os, bn.tape, bn.output, bn.size, bn.block⟩); (try replace nv2 := nv2.below ⟨bn.os, bn.tape, bn.output, bn.size, bn.block⟩); (try replace nv6 := nv6.below ⟨bn.os, bn.tape, bn.output, bn.size, bn.block⟩); (try replace nv8 := nv8.below ⟨bn.os, bn.tape, bn.output, bn.size, bn.block⟩); replace bb := Below.after bb ⟨bn.os, bn.tape, bn.output, bn.size, bn.block⟩) | (go_at_call 86; go_fit (ssquare_any _ _ _ _ _ _ _ _ _ _ _ _ X Y 53 _ (by omega) ?_ ?_); (first | exact nv0 | exact nv0.drew); (first | exact nv1 | exact nv1.drew); rintro e wn ⟨m8, v8, rfl, nv8, bn⟩; obtain ⟨a8, l8, c8, rfl⟩ := nv8.slice; replace ka := ka.below ⟨bn.os, bn.tape, bn.output, bn.size, bn.block⟩; replace kr := kr.below ⟨bn.os, bn.tape, bn.output, bn.size, bn.block⟩; replace ks := ks.below ⟨bn.os, bn.tape, bn.output, bn.size, bn.block⟩; (try replace nv0 := nv0.below ⟨bn.os, bn.tape, bn.output, bn.size, bn.block⟩); (try replace nv1 := nv1.below ⟨bn.os, bn.tape, bn.output, bn.size, bn.block⟩); (try replace nv2 := nv2.below ⟨bn.os, bn.tape, bn.output, bn.size, bn.block⟩); (try replace nv6 := nv6.below ⟨bn.os, bn.tape, bn.output, bn.size, bn.block⟩); (try replace nv7 := nv7.below ⟨bn.os, bn.tape, bn.output, bn.size, bn.block⟩); replace bb := Below.after bb ⟨bn.os, bn.tape, bn.output, bn.size, bn.block⟩; have er0 := cel6_0 kr; have fr0 := Cel.frozen kr 0; have er1 := cel6_1 kr; have fr1 := Cel.frozen kr 1; have er2 := cel6_2 kr; have fr2 := Cel.frozen kr 2; have er3 := cel6_3 kr; have fr3 := Cel.frozen kr 3; have er4 := cel6_4 kr; have fr4 := Cel.frozen kr 4; have er5 := cel6_5 kr; have fr5 := Cel.frozen kr 5; have es0 := cel2_0 ks; have fs0 := Cel.frozen ks 0; have es1 := cel2_1 ks; have fs1 := Cel.frozen ks 1))
 replace nv6 := shut nv6
 replace nv7 := shut nv7
 replace nv8 := shut nv8
 go_wp2
 exact post_sn (p := 2) (q := 3) (by kernel_rfl) rfl rfl rfl (Cel.other (Cel.other ((((((kr.set 0 _).set 1 _).set 2 _).set 3 _).set 4 _).set 5 _) (by omega) _ _) (by omega) _ _) (((Cel.other (Cel.other (Cel.other (Cel.other (Cel.other (Cel.other ks (by omega) _ _) (by omega) _ _) (by omega) _ _) (by omega) _ _) (by omega) _ _) (by omega) _ _).set 0 _).set 1 _) ⟨_, _, _, _, _, _, _, _, _, _, _, _, rfl, (nv6.out.set6 kr _ _ _ _ _ _).set2 (Cel.other (Cel.other (Cel.other (Cel.other (Cel.other (Cel.other ks (by omega) _ _) (by omega) _ _) (by omega) _ _) (by omega) _ _) (by omega) _ _) (by omega) _ _) _ _, (nv7.out.set6 kr _ _ _ _ _ _).set2 (Cel.other (Cel.other (Cel.other (Cel.other (Cel.other (Cel.other ks (by omega) _ _) (by omega) _ _) (by omega) _ _) (by omega) _ _) (by omega) _ _) (by omega) _ _) _ _, (nv8.out.set6 kr _ _ _ _ _ _).set2 (Cel.other (Cel.other (Cel.other (Cel.other (Cel.other (Cel.other ks (by omega) _ _) (by omega) _ _) (by omega) _ _) (by omega) _ _) (by omega) _ _) (by omega) _ _) _ _, bset (bset (bset (bset (bset (bset (bset (bset bb (by omega) 0 _) (by omega) 1 _) (by omega) 2 _) (by omega) 3 _) (by omega) 4 _) (by omega) 5 _) (by omega) 0 _) (by omega) 1 _⟩
end Go.Proofs.YtafikdacdfkkhaaGreatDoor
namespace Go.Proofs.YtafikdacdfkkhaaGreatDoor
open Go.RowKit

/-- What is told of two segments, by signs. -/
def mt (C D A B tC tD tA tB : Int) : Int := if 0 < C * D then 0 else if (C = 0 ∧ 0 ≤ tC) ∨ (D = 0 ∧ 0 ≤ tD) ∨ (A = 0 ∧ 0 ≤ tA) ∨ (B = 0 ∧ 0 ≤ tB) then 2 else if C * D < 0 ∧ A * B < 0 then 1 else 0
set_option maxRecDepth 100000 in
set_option maxHeartbeats 32000000 in
theorem meeting_walk (n0 n1 n2 n3 n4 n5 n6 n7 : Bool) (s0 d0 s1 d1 s2 d2 s3 d3 s4 d4 s5 d5 s6 d6 s7 d7 : ByteArray) (C D A B tC tD tA tB : Int) (w : World) (w1 : IntKind.i64.wrap (C * D) = C * D) (w2 : IntKind.i64.wrap (A * B) = A * B)
  (H1 : Hid (∀ w1, Calls Tryz.prog 64 #[.agg #[.bool n0, .string s0, .string d0, .bool n1, .string s1, .string d1], .agg #[.bool n2, .string s2, .string d2, .bool n3, .string s3, .string d3], .agg #[.bool n4, .string s4, .string d4, .bool n5, .string s5, .string d5]] w1 fun e w' => e = .returned (.int .i64 (C)) ∧ Below w1.heap.size w1 w'))
  (H2 : Hid (∀ w1, Calls Tryz.prog 64 #[.agg #[.bool n0, .string s0, .string d0, .bool n1, .string s1, .string d1], .agg #[.bool n2, .string s2, .string d2, .bool n3, .string s3, .string d3], .agg #[.bool n6, .string s6, .string d6, .bool n7, .string s7, .string d7]] w1 fun e w' => e = .returned (.int .i64 (D)) ∧ Below w1.heap.size w1 w'))
  (H3 : Hid (∀ w1, Calls Tryz.prog 64 #[.agg #[.bool n4, .string s4, .string d4, .bool n5, .string s5, .string d5], .agg #[.bool n6, .string s6, .string d6, .bool n7, .string s7, .string d7], .agg #[.bool n0, .string s0, .string d0, .bool n1, .string s1, .string d1]] w1 fun e w' => e = .returned (.int .i64 (A)) ∧ Below w1.heap.size w1 w'))
  (H4 : Hid (∀ w1, Calls Tryz.prog 64 #[.agg #[.bool n4, .string s4, .string d4, .bool n5, .string s5, .string d5], .agg #[.bool n6, .string s6, .string d6, .bool n7, .string s7, .string d7], .agg #[.bool n2, .string s2, .string d2, .bool n3, .string s3, .string d3]] w1 fun e w' => e = .returned (.int .i64 (B)) ∧ Below w1.heap.size w1 w'))
  (A1 : Hid (∀ w1, Calls Tryz.prog 67 #[.agg #[.bool n0, .string s0, .string d0, .bool n1, .string s1, .string d1], .agg #[.bool n2, .string s2, .string d2, .bool n3, .string s3, .string d3], .agg #[.bool n4, .string s4, .string d4, .bool n5, .string s5, .string d5]] w1 fun e w' => e = .returned (.int .i64 (tC)) ∧ Below w1.heap.size w1 w'))
  (A2 : Hid (∀ w1, Calls Tryz.prog 67 #[.agg #[.bool n0, .string s0, .string d0, .bool n1, .string s1, .string d1], .agg #[.bool n2, .string s2, .string d2, .bool n3, .string s3, .string d3], .agg #[.bool n6, .string s6, .string d6, .bool n7, .string s7, .string d7]] w1 fun e w' => e = .returned (.int .i64 (tD)) ∧ Below w1.heap.size w1 w'))
  (A3 : Hid (∀ w1, Calls Tryz.prog 67 #[.agg #[.bool n4, .string s4, .string d4, .bool n5, .string s5, .string d5], .agg #[.bool n6, .string s6, .string d6, .bool n7, .string s7, .string d7], .agg #[.bool n0, .string s0, .string d0, .bool n1, .string s1, .string d1]] w1 fun e w' => e = .returned (.int .i64 (tA)) ∧ Below w1.heap.size w1 w'))
  (A4 : Hid (∀ w1, Calls Tryz.prog 67 #[.agg #[.bool n4, .string s4, .string d4, .bool n5, .string s5, .string d5], .agg #[.bool n6, .string s6, .string d6, .bool n7, .string s7, .string d7], .agg #[.bool n2, .string s2, .string d2, .bool n3, .string s3, .string d3]] w1 fun e w' => e = .returned (.int .i64 (tB)) ∧ Below w1.heap.size w1 w')) :
  Calls Tryz.prog 47 #[.agg #[.bool n0, .string s0, .string d0, .bool n1, .string s1, .string d1], .agg #[.bool n2, .string s2, .string d2, .bool n3, .string s3, .string d3], .agg #[.bool n4, .string s4, .string d4, .bool n5, .string s5, .string d5], .agg #[.bool n6, .string s6, .string d6, .bool n7, .string s7, .string d7]] w fun e w' => e = .returned (.int .i64 (mt C D A B tC tD tA tB)) ∧ Below w.heap.size w w' := by
 obtain ⟨R, hR⟩ : ∃ R, R = mt C D A B tC tD tA tB := ⟨_, rfl⟩
 rw [← hR]
 replace hR := shut hR
 go_enter Tryz.func47, Tryz.ntmps47
 go_wp2_with fail
 obtain ⟨w0, hw, ka, kb, kc, kd, bb⟩ := mk4 w [.bool n0, .string s0, .string d0, .bool n1, .string s1, .string d1] [.bool n2, .string s2, .string d2, .bool n3, .string s3, .string d3] [.bool n4, .string s4, .string d4, .bool n5, .string s5, .string d5] [.bool n6, .string s6, .string d6, .bool n7, .string s7, .string d7] 28 28 28 28
 rw [← hw]
 clear hw
 have mkS : Hid (∀ w', Cel w' (w.heap.size) [.bool n0, .string s0, .string d0, .bool n1, .string s1, .string d1] 28 → Cel w' (w.heap.size + 1) [.bool n2, .string s2, .string d2, .bool n3, .string s3, .string d3] 28 → Cel w' (w.heap.size + 1 + 1) [.bool n4, .string s4, .string d4, .bool n5, .string s5, .string d5] 28 → Cel w' (w.heap.size + 1 + 1 + 1) [.bool n6, .string s6, .string d6, .bool n7, .string s7, .string d7] 28 → (w'.cell? ⟨w.heap.size, 0, none⟩ = some (.bool n0) ∧ w'.cell? ⟨w.heap.size, 1, none⟩ = some (.string s0) ∧ w'.cell? ⟨w.heap.size, 2, none⟩ = some (.string d0) ∧ w'.cell? ⟨w.heap.size, 3, none⟩ = some (.bool n1) ∧ w'.cell? ⟨w.heap.size, 4, none⟩ = some (.string s1) ∧ w'.cell? ⟨w.heap.size, 5, none⟩ = some (.string d1) ∧ w'.cell? ⟨w.heap.size + 1, 0, none⟩ = some (.bool n2) ∧ w'.cell? ⟨w.heap.size + 1, 1, none⟩ = some (.string s2) ∧ w'.cell? ⟨w.heap.size + 1, 2, none⟩ = some (.string d2) ∧ w'.cell? ⟨w.heap.size + 1, 3, none⟩ = some (.bool n3) ∧ w'.cell? ⟨w.heap.size + 1, 4, none⟩ = some (.string s3) ∧ w'.cell? ⟨w.heap.size + 1, 5, none⟩ = some (.string d3) ∧ w'.cell? ⟨w.heap.size + 1 + 1, 0, none⟩ = some (.bool n4) ∧ w'.cell? ⟨w.heap.size + 1 + 1, 1, none⟩ = some (.string s4) ∧ w'.cell? ⟨w.heap.size + 1 + 1, 2, none⟩ = some (.string d4) ∧ w'.cell? ⟨w.heap.size + 1 + 1, 3, none⟩ = some (.bool n5) ∧ w'.cell? ⟨w.heap.size + 1 + 1, 4, none⟩ = some (.string s5) ∧ w'.cell? ⟨w.heap.size + 1 + 1, 5, none⟩ = some (.string d5) ∧ w'.cell? ⟨w.heap.size + 1 + 1 + 1, 0, none⟩ = some (.bool n6) ∧ w'.cell? ⟨w.heap.size + 1 + 1 + 1, 1, none⟩ = some (.string s6) ∧ w'.cell? ⟨w.heap.size + 1 + 1 + 1, 2, none⟩ = some (.string d6) ∧ w'.cell? ⟨w.heap.size + 1 + 1 + 1, 3, none⟩ = some (.bool n7) ∧ w'.cell? ⟨w.heap.size + 1 + 1 + 1, 4, none⟩ = some (.string s7) ∧ w'.cell? ⟨w.heap.size + 1 + 1 + 1, 5, none⟩ = some (.string d7))) := fun w' ha hb hc hd => ⟨cel6_0 ha, cel6_1 ha, cel6_2 ha, cel6_3 ha, cel6_4 ha, cel6_5 ha, cel6_0 hb, cel6_1 hb, cel6_2 hb, cel6_3 hb, cel6_4 hb, cel6_5 hb, cel6_0 hc, cel6_1 hc, cel6_2 hc, cel6_3 hc, cel6_4 hc, cel6_5 hc, cel6_0 hd, cel6_1 hd, cel6_2 hd, cel6_3 hd, cel6_4 hd, cel6_5 hd⟩
 go_region_held3 (fun w' => w'.cell? ⟨w.heap.size, 0, none⟩ = some (.bool n0) ∧ w'.cell? ⟨w.heap.size, 1, none⟩ = some (.string s0) ∧ w'.cell? ⟨w.heap.size, 2, none⟩ = some (.string d0) ∧ w'.cell? ⟨w.heap.size, 3, none⟩ = some (.bool n1) ∧ w'.cell? ⟨w.heap.size, 4, none⟩ = some (.string s1) ∧ w'.cell? ⟨w.heap.size, 5, none⟩ = some (.string d1) ∧ w'.cell? ⟨w.heap.size + 1, 0, none⟩ = some (.bool n2) ∧ w'.cell? ⟨w.heap.size + 1, 1, none⟩ = some (.string s2) ∧ w'.cell? ⟨w.heap.size + 1, 2, none⟩ = some (.string d2) ∧ w'.cell? ⟨w.heap.size + 1, 3, none⟩ = some (.bool n3) ∧ w'.cell? ⟨w.heap.size + 1, 4, none⟩ = some (.string s3) ∧ w'.cell? ⟨w.heap.size + 1, 5, none⟩ = some (.string d3) ∧ w'.cell? ⟨w.heap.size + 1 + 1, 0, none⟩ = some (.bool n4) ∧ w'.cell? ⟨w.heap.size + 1 + 1, 1, none⟩ = some (.string s4) ∧ w'.cell? ⟨w.heap.size + 1 + 1, 2, none⟩ = some (.string d4) ∧ w'.cell? ⟨w.heap.size + 1 + 1, 3, none⟩ = some (.bool n5) ∧ w'.cell? ⟨w.heap.size + 1 + 1, 4, none⟩ = some (.string s5) ∧ w'.cell? ⟨w.heap.size + 1 + 1, 5, none⟩ = some (.string d5) ∧ w'.cell? ⟨w.heap.size + 1 + 1 + 1, 0, none⟩ = some (.bool n6) ∧ w'.cell? ⟨w.heap.size + 1 + 1 + 1, 1, none⟩ = some (.string s6) ∧ w'.cell? ⟨w.heap.size + 1 + 1 + 1, 2, none⟩ = some (.string d6) ∧ w'.cell? ⟨w.heap.size + 1 + 1 + 1, 3, none⟩ = some (.bool n7) ∧ w'.cell? ⟨w.heap.size + 1 + 1 + 1, 4, none⟩ = some (.string s7) ∧ w'.cell? ⟨w.heap.size + 1 + 1 + 1, 5, none⟩ = some (.string d7)) (first | with_reducible exact mkS.out _ ka kb kc kd | exact mkS.out _ ka kb kc kd) (first | (go_at_call 64; go_fit (H1.out _); rintro e wn ⟨rfl, bn⟩; replace ka := ka.below ⟨bn.os, bn.tape, bn.output, bn.size, bn.block⟩; replace kb := kb.below ⟨bn.os, bn.tape, bn.output, bn.size, bn.block⟩; replace kc := kc.below ⟨bn.os, bn.tape, bn.output, bn.size, bn.block⟩; replace kd := kd.below ⟨bn.os, bn.tape, bn.output, bn.size, bn.block⟩; replace bb := Below.after bb ⟨bn.os, bn.tape, bn.output, bn.size, bn.block⟩) | (go_at_call 64; go_fit (H2.out _); rintro e wn ⟨rfl, bn⟩; replace ka := ka.below ⟨bn.os, bn.tape, bn.output, bn.size, bn.block⟩; replace kb := kb.below ⟨bn.os, bn.tape, bn.output, bn.size, bn.block⟩; replace kc := kc.below ⟨bn.os, bn.tape, bn.output, bn.size, bn.block⟩; replace kd := kd.below ⟨bn.os, bn.tape, bn.output, bn.size, bn.block⟩; replace bb := Below.after bb ⟨bn.os, bn.tape, bn.output, bn.size, bn.block⟩))
 clear mkS
 by_cases h0 : 0 < C * D
 ·have G0 := shut h0
  go_wp2
  go_ret
  exact ⟨by rw [hR.out, show mt C D A B tC tD tA tB = 0 from by unfold mt; exact if_pos (by have := G0.out; omega)]; rfl, bb⟩
 have G0 := shut h0
 go_wp2_with fail
 have mkS : Hid (∀ w', Cel w' (w.heap.size) [.bool n0, .string s0, .string d0, .bool n1, .string s1, .string d1] 28 → Cel w' (w.heap.size + 1) [.bool n2, .string s2, .string d2, .bool n3, .string s3, .string d3] 28 → Cel w' (w.heap.size + 1 + 1) [.bool n4, .string s4, .string d4, .bool n5, .string s5, .string d5] 28 → Cel w' (w.heap.size + 1 + 1 + 1) [.bool n6, .string s6, .string d6, .bool n7, .string s7, .string d7] 28 → (w'.cell? ⟨w.heap.size, 0, none⟩ = some (.bool n0) ∧ w'.cell? ⟨w.heap.size, 1, none⟩ = some (.string s0) ∧ w'.cell? ⟨w.heap.size, 2, none⟩ = some (.string d0) ∧ w'.cell? ⟨w.heap.size, 3, none⟩ = some (.bool n1) ∧ w'.cell? ⟨w.heap.size, 4, none⟩ = some (.string s1) ∧ w'.cell? ⟨w.heap.size, 5, none⟩ = some (.string d1) ∧ w'.cell? ⟨w.heap.size + 1, 0, none⟩ = some (.bool n2) ∧ w'.cell? ⟨w.heap.size + 1, 1, none⟩ = some (.string s2) ∧ w'.cell? ⟨w.heap.size + 1, 2, none⟩ = some (.string d2) ∧ w'.cell? ⟨w.heap.size + 1, 3, none⟩ = some (.bool n3) ∧ w'.cell? ⟨w.heap.size + 1, 4, none⟩ = some (.string s3) ∧ w'.cell? ⟨w.heap.size + 1, 5, none⟩ = some (.string d3) ∧ w'.cell? ⟨w.heap.size + 1 + 1, 0, none⟩ = some (.bool n4) ∧ w'.cell? ⟨w.heap.size + 1 + 1, 1, none⟩ = some (.string s4) ∧ w'.cell? ⟨w.heap.size + 1 + 1, 2, none⟩ = some (.string d4) ∧ w'.cell? ⟨w.heap.size + 1 + 1, 3, none⟩ = some (.bool n5) ∧ w'.cell? ⟨w.heap.size + 1 + 1, 4, none⟩ = some (.string s5) ∧ w'.cell? ⟨w.heap.size + 1 + 1, 5, none⟩ = some (.string d5) ∧ w'.cell? ⟨w.heap.size + 1 + 1 + 1, 0, none⟩ = some (.bool n6) ∧ w'.cell? ⟨w.heap.size + 1 + 1 + 1, 1, none⟩ = some (.string s6) ∧ w'.cell? ⟨w.heap.size + 1 + 1 + 1, 2, none⟩ = some (.string d6) ∧ w'.cell? ⟨w.heap.size + 1 + 1 + 1, 3, none⟩ = some (.bool n7) ∧ w'.cell? ⟨w.heap.size + 1 + 1 + 1, 4, none⟩ = some (.string s7) ∧ w'.cell? ⟨w.heap.size + 1 + 1 + 1, 5, none⟩ = some (.string d7))) := fun w' ha hb hc hd => ⟨cel6_0 ha, cel6_1 ha, cel6_2 ha, cel6_3 ha, cel6_4 ha, cel6_5 ha, cel6_0 hb, cel6_1 hb, cel6_2 hb, cel6_3 hb, cel6_4 hb, cel6_5 hb, cel6_0 hc, cel6_1 hc, cel6_2 hc, cel6_3 hc, cel6_4 hc, cel6_5 hc, cel6_0 hd, cel6_1 hd, cel6_2 hd, cel6_3 hd, cel6_4 hd, cel6_5 hd⟩
 go_region_held3 (fun w' => w'.cell? ⟨w.heap.size, 0, none⟩ = some (.bool n0) ∧ w'.cell? ⟨w.heap.size, 1, none⟩ = some (.string s0) ∧ w'.cell? ⟨w.heap.size, 2, none⟩ = some (.string d0) ∧ w'.cell? ⟨w.heap.size, 3, none⟩ = some (.bool n1) ∧ w'.cell? ⟨w.heap.size, 4, none⟩ = some (.string s1) ∧ w'.cell? ⟨w.heap.size, 5, none⟩ = some (.string d1) ∧ w'.cell? ⟨w.heap.size + 1, 0, none⟩ = some (.bool n2) ∧ w'.cell? ⟨w.heap.size + 1, 1, none⟩ = some (.string s2) ∧ w'.cell? ⟨w.heap.size + 1, 2, none⟩ = some (.string d2) ∧ w'.cell? ⟨w.heap.size + 1, 3, none⟩ = some (.bool n3) ∧ w'.cell? ⟨w.heap.size + 1, 4, none⟩ = some (.string s3) ∧ w'.cell? ⟨w.heap.size + 1, 5, none⟩ = some (.string d3) ∧ w'.cell? ⟨w.heap.size + 1 + 1, 0, none⟩ = some (.bool n4) ∧ w'.cell? ⟨w.heap.size + 1 + 1, 1, none⟩ = some (.string s4) ∧ w'.cell? ⟨w.heap.size + 1 + 1, 2, none⟩ = some (.string d4) ∧ w'.cell? ⟨w.heap.size + 1 + 1, 3, none⟩ = some (.bool n5) ∧ w'.cell? ⟨w.heap.size + 1 + 1, 4, none⟩ = some (.string s5) ∧ w'.cell? ⟨w.heap.size + 1 + 1, 5, none⟩ = some (.string d5) ∧ w'.cell? ⟨w.heap.size + 1 + 1 + 1, 0, none⟩ = some (.bool n6) ∧ w'.cell? ⟨w.heap.size + 1 + 1 + 1, 1, none⟩ = some (.string s6) ∧ w'.cell? ⟨w.heap.size + 1 + 1 + 1, 2, none⟩ = some (.string d6) ∧ w'.cell? ⟨w.heap.size + 1 + 1 + 1, 3, none⟩ = some (.bool n7) ∧ w'.cell? ⟨w.heap.size + 1 + 1 + 1, 4, none⟩ = some (.string s7) ∧ w'.cell? ⟨w.heap.size + 1 + 1 + 1, 5, none⟩ = some (.string d7)) (first | with_reducible exact mkS.out _ ka kb kc kd | exact mkS.out _ ka kb kc kd) (first | (go_at_call 64; go_fit (H3.out _); rintro e wn ⟨rfl, bn⟩; replace ka := ka.below ⟨bn.os, bn.tape, bn.output, bn.size, bn.block⟩; replace kb := kb.below ⟨bn.os, bn.tape, bn.output, bn.size, bn.block⟩; replace kc := kc.below ⟨bn.os, bn.tape, bn.output, bn.size, bn.block⟩; replace kd := kd.below ⟨bn.os, bn.tape, bn.output, bn.size, bn.block⟩; replace bb := Below.after bb ⟨bn.os, bn.tape, bn.output, bn.size, bn.block⟩) | (go_at_call 64; go_fit (H4.out _); rintro e wn ⟨rfl, bn⟩; replace ka := ka.below ⟨bn.os, bn.tape, bn.output, bn.size, bn.block⟩; replace kb := kb.below ⟨bn.os, bn.tape, bn.output, bn.size, bn.block⟩; replace kc := kc.below ⟨bn.os, bn.tape, bn.output, bn.size, bn.block⟩; replace kd := kd.below ⟨bn.os, bn.tape, bn.output, bn.size, bn.block⟩; replace bb := Below.after bb ⟨bn.os, bn.tape, bn.output, bn.size, bn.block⟩))
 clear mkS
 by_cases e0 : C = 0
 ·have E0 := shut e0
  have ca0 := cel6_0 ka
  have ca1 := cel6_1 ka
  have ca2 := cel6_2 ka
  have ca3 := cel6_3 ka
  have ca4 := cel6_4 ka
  have ca5 := cel6_5 ka
  have cb0 := cel6_0 kb
  have cb1 := cel6_1 kb
  have cb2 := cel6_2 kb
  have cb3 := cel6_3 kb
  have cb4 := cel6_4 kb
  have cb5 := cel6_5 kb
  have cc0 := cel6_0 kc
  have cc1 := cel6_1 kc
  have cc2 := cel6_2 kc
  have cc3 := cel6_3 kc
  have cc4 := cel6_4 kc
  have cc5 := cel6_5 kc
  go_wp2_with fail
  go_fit (A1.out _)
  rintro e y0 ⟨rfl, b1⟩
  replace ka := ka.below b1
  replace kb := kb.below b1
  replace kc := kc.below b1
  replace kd := kd.below b1
  replace bb := Below.after bb b1
  clear b1
  clear ca0 ca1 ca2 ca3 ca4 ca5 cb0 cb1 cb2 cb3 cb4 cb5 cc0 cc1 cc2 cc3 cc4 cc5
  by_cases f0 : 0 ≤ tC
  ·have F0 := shut f0
   go_wp2
   go_ret
   exact ⟨by rw [hR.out, show mt C D A B tC tD tA tB = 2 from by have g0 := E0.out; have g1 := F0.out; unfold mt; rw [if_neg (by have := G0.out; omega)]; exact if_pos (by omega)]; rfl, bb⟩
  have F0 := shut f0
  by_cases e1 : D = 0
  ·have E1 := shut e1
   have ca0 := cel6_0 ka
   have ca1 := cel6_1 ka
   have ca2 := cel6_2 ka
   have ca3 := cel6_3 ka
   have ca4 := cel6_4 ka
   have ca5 := cel6_5 ka
   have cb0 := cel6_0 kb
   have cb1 := cel6_1 kb
   have cb2 := cel6_2 kb
   have cb3 := cel6_3 kb
   have cb4 := cel6_4 kb
   have cb5 := cel6_5 kb
   have cd0 := cel6_0 kd
   have cd1 := cel6_1 kd
   have cd2 := cel6_2 kd
   have cd3 := cel6_3 kd
   have cd4 := cel6_4 kd
   have cd5 := cel6_5 kd
   go_wp2_with fail
   go_fit (A2.out _)
   rintro e y1 ⟨rfl, b1⟩
   replace ka := ka.below b1
   replace kb := kb.below b1
   replace kc := kc.below b1
   replace kd := kd.below b1
   replace bb := Below.after bb b1
   clear b1
   clear ca0 ca1 ca2 ca3 ca4 ca5 cb0 cb1 cb2 cb3 cb4 cb5 cd0 cd1 cd2 cd3 cd4 cd5
   by_cases f1 : 0 ≤ tD
   ·have F1 := shut f1
    go_wp2
    go_ret
    exact ⟨by rw [hR.out, show mt C D A B tC tD tA tB = 2 from by have g0 := F0.out; have g1 := E1.out; have g2 := F1.out; unfold mt; rw [if_neg (by have := G0.out; omega)]; exact if_pos (by omega)]; rfl, bb⟩
   have F1 := shut f1
   by_cases e2 : A = 0
   ·have E2 := shut e2
    have cc0 := cel6_0 kc
    have cc1 := cel6_1 kc
    have cc2 := cel6_2 kc
    have cc3 := cel6_3 kc
    have cc4 := cel6_4 kc
    have cc5 := cel6_5 kc
    have cd0 := cel6_0 kd
    have cd1 := cel6_1 kd
    have cd2 := cel6_2 kd
    have cd3 := cel6_3 kd
    have cd4 := cel6_4 kd
    have cd5 := cel6_5 kd
    have ca0 := cel6_0 ka
    have ca1 := cel6_1 ka
    have ca2 := cel6_2 ka
    have ca3 := cel6_3 ka
    have ca4 := cel6_4 ka
    have ca5 := cel6_5 ka
    go_wp2_with fail
    go_fit (A3.out _)
    rintro e y2 ⟨rfl, b1⟩
    replace ka := ka.below b1
    replace kb := kb.below b1
    replace kc := kc.below b1
    replace kd := kd.below b1
    replace bb := Below.after bb b1
    clear b1
    clear cc0 cc1 cc2 cc3 cc4 cc5 cd0 cd1 cd2 cd3 cd4 cd5 ca0 ca1 ca2 ca3 ca4 ca5
    by_cases f2 : 0 ≤ tA
    ·have F2 := shut f2
     go_wp2
     go_ret
     exact ⟨by rw [hR.out, show mt C D A B tC tD tA tB = 2 from by have g0 := F0.out; have g1 := F1.out; have g2 := E2.out; have g3 := F2.out; unfold mt; rw [if_neg (by have := G0.out; omega)]; exact if_pos (by omega)]; rfl, bb⟩
    have F2 := shut f2
    by_cases e3 : B = 0
    ·have E3 := shut e3
     have cc0 := cel6_0 kc
     have cc1 := cel6_1 kc
     have cc2 := cel6_2 kc
     have cc3 := cel6_3 kc
     have cc4 := cel6_4 kc
     have cc5 := cel6_5 kc
     have cd0 := cel6_0 kd
     have cd1 := cel6_1 kd
     have cd2 := cel6_2 kd
     have cd3 := cel6_3 kd
     have cd4 := cel6_4 kd
     have cd5 := cel6_5 kd
     have cb0 := cel6_0 kb
     have cb1 := cel6_1 kb
     have cb2 := cel6_2 kb
     have cb3 := cel6_3 kb
     have cb4 := cel6_4 kb
     have cb5 := cel6_5 kb
     go_wp2_with fail
     go_fit (A4.out _)
     rintro e y3 ⟨rfl, b1⟩
     replace ka := ka.below b1
     replace kb := kb.below b1
     replace kc := kc.below b1
     replace kd := kd.below b1
     replace bb := Below.after bb b1
     clear b1
     clear cc0 cc1 cc2 cc3 cc4 cc5 cd0 cd1 cd2 cd3 cd4 cd5 cb0 cb1 cb2 cb3 cb4 cb5
     by_cases f3 : 0 ≤ tB
     ·have F3 := shut f3
      go_wp2
      go_ret
      exact ⟨by rw [hR.out, show mt C D A B tC tD tA tB = 2 from by have g0 := F0.out; have g1 := F1.out; have g2 := F2.out; have g3 := E3.out; have g4 := F3.out; unfold mt; rw [if_neg (by have := G0.out; omega)]; exact if_pos (by omega)]; rfl, bb⟩
     have F3 := shut f3
     have X1 : Hid (¬ C * D < 0) := by show ¬ C * D < 0; rw [E0.out, Int.zero_mul]; omega
     go_wp2
     go_ret
     exact ⟨by rw [hR.out, show mt C D A B tC tD tA tB = 0 from by have g0 := F0.out; have g1 := F1.out; have g2 := F2.out; have g3 := F3.out; have x1 := X1.out; unfold mt; rw [if_neg (by have := G0.out; omega), if_neg (by omega)]; exact if_neg (by omega)]; rfl, bb⟩
    have E3 := shut e3
    have X1 : Hid (¬ C * D < 0) := by show ¬ C * D < 0; rw [E0.out, Int.zero_mul]; omega
    go_wp2
    go_ret
    exact ⟨by rw [hR.out, show mt C D A B tC tD tA tB = 0 from by have g0 := F0.out; have g1 := F1.out; have g2 := F2.out; have g3 := E3.out; have x1 := X1.out; unfold mt; rw [if_neg (by have := G0.out; omega), if_neg (by omega)]; exact if_neg (by omega)]; rfl, bb⟩
   have E2 := shut e2
   by_cases e3 : B = 0
   ·have E3 := shut e3
    have cc0 := cel6_0 kc
    have cc1 := cel6_1 kc
    have cc2 := cel6_2 kc
    have cc3 := cel6_3 kc
    have cc4 := cel6_4 kc
    have cc5 := cel6_5 kc
    have cd0 := cel6_0 kd
    have cd1 := cel6_1 kd
    have cd2 := cel6_2 kd
    have cd3 := cel6_3 kd
    have cd4 := cel6_4 kd
    have cd5 := cel6_5 kd
    have cb0 := cel6_0 kb
    have cb1 := cel6_1 kb
    have cb2 := cel6_2 kb
    have cb3 := cel6_3 kb
    have cb4 := cel6_4 kb
    have cb5 := cel6_5 kb
    go_wp2_with fail
    go_fit (A4.out _)
    rintro e y3 ⟨rfl, b1⟩
    replace ka := ka.below b1
    replace kb := kb.below b1
    replace kc := kc.below b1
    replace kd := kd.below b1
    replace bb := Below.after bb b1
    clear b1
    clear cc0 cc1 cc2 cc3 cc4 cc5 cd0 cd1 cd2 cd3 cd4 cd5 cb0 cb1 cb2 cb3 cb4 cb5
    by_cases f3 : 0 ≤ tB
    ·have F3 := shut f3
     go_wp2
     go_ret
     exact ⟨by rw [hR.out, show mt C D A B tC tD tA tB = 2 from by have g0 := F0.out; have g1 := F1.out; have g2 := E2.out; have g3 := E3.out; have g4 := F3.out; unfold mt; rw [if_neg (by have := G0.out; omega)]; exact if_pos (by omega)]; rfl, bb⟩
    have F3 := shut f3
    have X1 : Hid (¬ C * D < 0) := by show ¬ C * D < 0; rw [E0.out, Int.zero_mul]; omega
    go_wp2
    go_ret
    exact ⟨by rw [hR.out, show mt C D A B tC tD tA tB = 0 from by have g0 := F0.out; have g1 := F1.out; have g2 := E2.out; have g3 := F3.out; have x1 := X1.out; unfold mt; rw [if_neg (by have := G0.out; omega), if_neg (by omega)]; exact if_neg (by omega)]; rfl, bb⟩
   have E3 := shut e3
   have X1 : Hid (¬ C * D < 0) := by show ¬ C * D < 0; rw [E0.out, Int.zero_mul]; omega
   go_wp2
   go_ret
   exact ⟨by rw [hR.out, show mt C D A B tC tD tA tB = 0 from by have g0 := F0.out; have g1 := F1.out; have g2 := E2.out; have g3 := E3.out; have x1 := X1.out; unfold mt; rw [if_neg (by have := G0.out; omega), if_neg (by omega)]; exact if_neg (by omega)]; rfl, bb⟩
  have E1 := shut e1
  by_cases e2 : A = 0
  ·have E2 := shut e2
   have cc0 := cel6_0 kc
   have cc1 := cel6_1 kc
   have cc2 := cel6_2 kc
   have cc3 := cel6_3 kc
   have cc4 := cel6_4 kc
   have cc5 := cel6_5 kc
   have cd0 := cel6_0 kd
   have cd1 := cel6_1 kd
   have cd2 := cel6_2 kd
   have cd3 := cel6_3 kd
   have cd4 := cel6_4 kd
   have cd5 := cel6_5 kd
   have ca0 := cel6_0 ka
   have ca1 := cel6_1 ka
   have ca2 := cel6_2 ka
   have ca3 := cel6_3 ka
   have ca4 := cel6_4 ka
   have ca5 := cel6_5 ka
   go_wp2_with fail
   go_fit (A3.out _)
   rintro e y2 ⟨rfl, b1⟩
   replace ka := ka.below b1
   replace kb := kb.below b1
   replace kc := kc.below b1
   replace kd := kd.below b1
   replace bb := Below.after bb b1
   clear b1
   clear cc0 cc1 cc2 cc3 cc4 cc5 cd0 cd1 cd2 cd3 cd4 cd5 ca0 ca1 ca2 ca3 ca4 ca5
   by_cases f2 : 0 ≤ tA
   ·have F2 := shut f2
    go_wp2
    go_ret
    exact ⟨by rw [hR.out, show mt C D A B tC tD tA tB = 2 from by have g0 := F0.out; have g1 := E1.out; have g2 := E2.out; have g3 := F2.out; unfold mt; rw [if_neg (by have := G0.out; omega)]; exact if_pos (by omega)]; rfl, bb⟩
   have F2 := shut f2
   by_cases e3 : B = 0
   ·have E3 := shut e3
    have cc0 := cel6_0 kc
    have cc1 := cel6_1 kc
    have cc2 := cel6_2 kc
    have cc3 := cel6_3 kc
    have cc4 := cel6_4 kc
    have cc5 := cel6_5 kc
    have cd0 := cel6_0 kd
    have cd1 := cel6_1 kd
    have cd2 := cel6_2 kd
    have cd3 := cel6_3 kd
    have cd4 := cel6_4 kd
    have cd5 := cel6_5 kd
    have cb0 := cel6_0 kb
    have cb1 := cel6_1 kb
    have cb2 := cel6_2 kb
    have cb3 := cel6_3 kb
    have cb4 := cel6_4 kb
    have cb5 := cel6_5 kb
    go_wp2_with fail
    go_fit (A4.out _)
    rintro e y3 ⟨rfl, b1⟩
    replace ka := ka.below b1
    replace kb := kb.below b1
    replace kc := kc.below b1
    replace kd := kd.below b1
    replace bb := Below.after bb b1
    clear b1
    clear cc0 cc1 cc2 cc3 cc4 cc5 cd0 cd1 cd2 cd3 cd4 cd5 cb0 cb1 cb2 cb3 cb4 cb5
    by_cases f3 : 0 ≤ tB
    ·have F3 := shut f3
     go_wp2
     go_ret
     exact ⟨by rw [hR.out, show mt C D A B tC tD tA tB = 2 from by have g0 := F0.out; have g1 := E1.out; have g2 := F2.out; have g3 := E3.out; have g4 := F3.out; unfold mt; rw [if_neg (by have := G0.out; omega)]; exact if_pos (by omega)]; rfl, bb⟩
    have F3 := shut f3
    have X1 : Hid (¬ C * D < 0) := by show ¬ C * D < 0; rw [E0.out, Int.zero_mul]; omega
    go_wp2
    go_ret
    exact ⟨by rw [hR.out, show mt C D A B tC tD tA tB = 0 from by have g0 := F0.out; have g1 := E1.out; have g2 := F2.out; have g3 := F3.out; have x1 := X1.out; unfold mt; rw [if_neg (by have := G0.out; omega), if_neg (by omega)]; exact if_neg (by omega)]; rfl, bb⟩
   have E3 := shut e3
   have X1 : Hid (¬ C * D < 0) := by show ¬ C * D < 0; rw [E0.out, Int.zero_mul]; omega
   go_wp2
   go_ret
   exact ⟨by rw [hR.out, show mt C D A B tC tD tA tB = 0 from by have g0 := F0.out; have g1 := E1.out; have g2 := F2.out; have g3 := E3.out; have x1 := X1.out; unfold mt; rw [if_neg (by have := G0.out; omega), if_neg (by omega)]; exact if_neg (by omega)]; rfl, bb⟩
  have E2 := shut e2
  by_cases e3 : B = 0
  ·have E3 := shut e3
   have cc0 := cel6_0 kc
   have cc1 := cel6_1 kc
   have cc2 := cel6_2 kc
   have cc3 := cel6_3 kc
   have cc4 := cel6_4 kc
   have cc5 := cel6_5 kc
   have cd0 := cel6_0 kd
   have cd1 := cel6_1 kd
   have cd2 := cel6_2 kd
   have cd3 := cel6_3 kd
   have cd4 := cel6_4 kd
   have cd5 := cel6_5 kd
   have cb0 := cel6_0 kb
   have cb1 := cel6_1 kb
   have cb2 := cel6_2 kb
   have cb3 := cel6_3 kb
   have cb4 := cel6_4 kb
   have cb5 := cel6_5 kb
   go_wp2_with fail
   go_fit (A4.out _)
   rintro e y3 ⟨rfl, b1⟩
   replace ka := ka.below b1
   replace kb := kb.below b1
   replace kc := kc.below b1
   replace kd := kd.below b1
   replace bb := Below.after bb b1
   clear b1
   clear cc0 cc1 cc2 cc3 cc4 cc5 cd0 cd1 cd2 cd3 cd4 cd5 cb0 cb1 cb2 cb3 cb4 cb5
   by_cases f3 : 0 ≤ tB
   ·have F3 := shut f3
    go_wp2
    go_ret
    exact ⟨by rw [hR.out, show mt C D A B tC tD tA tB = 2 from by have g0 := F0.out; have g1 := E1.out; have g2 := E2.out; have g3 := E3.out; have g4 := F3.out; unfold mt; rw [if_neg (by have := G0.out; omega)]; exact if_pos (by omega)]; rfl, bb⟩
   have F3 := shut f3
   have X1 : Hid (¬ C * D < 0) := by show ¬ C * D < 0; rw [E0.out, Int.zero_mul]; omega
   go_wp2
   go_ret
   exact ⟨by rw [hR.out, show mt C D A B tC tD tA tB = 0 from by have g0 := F0.out; have g1 := E1.out; have g2 := E2.out; have g3 := F3.out; have x1 := X1.out; unfold mt; rw [if_neg (by have := G0.out; omega), if_neg (by omega)]; exact if_neg (by omega)]; rfl, bb⟩
  have E3 := shut e3
  have X1 : Hid (¬ C * D < 0) := by show ¬ C * D < 0; rw [E0.out, Int.zero_mul]; omega
  go_wp2
  go_ret
  exact ⟨by rw [hR.out, show mt C D A B tC tD tA tB = 0 from by have g0 := F0.out; have g1 := E1.out; have g2 := E2.out; have g3 := E3.out; have x1 := X1.out; unfold mt; rw [if_neg (by have := G0.out; omega), if_neg (by omega)]; exact if_neg (by omega)]; rfl, bb⟩
 have E0 := shut e0
 by_cases e1 : D = 0
 ·have E1 := shut e1
  have ca0 := cel6_0 ka
  have ca1 := cel6_1 ka
  have ca2 := cel6_2 ka
  have ca3 := cel6_3 ka
  have ca4 := cel6_4 ka
  have ca5 := cel6_5 ka
  have cb0 := cel6_0 kb
  have cb1 := cel6_1 kb
  have cb2 := cel6_2 kb
  have cb3 := cel6_3 kb
  have cb4 := cel6_4 kb
  have cb5 := cel6_5 kb
  have cd0 := cel6_0 kd
  have cd1 := cel6_1 kd
  have cd2 := cel6_2 kd
  have cd3 := cel6_3 kd
  have cd4 := cel6_4 kd
  have cd5 := cel6_5 kd
  go_wp2_with fail
  go_fit (A2.out _)
  rintro e y1 ⟨rfl, b1⟩
  replace ka := ka.below b1
  replace kb := kb.below b1
  replace kc := kc.below b1
  replace kd := kd.below b1
  replace bb := Below.after bb b1
  clear b1
  clear ca0 ca1 ca2 ca3 ca4 ca5 cb0 cb1 cb2 cb3 cb4 cb5 cd0 cd1 cd2 cd3 cd4 cd5
  by_cases f1 : 0 ≤ tD
  ·have F1 := shut f1
   go_wp2
   go_ret
   exact ⟨by rw [hR.out, show mt C D A B tC tD tA tB = 2 from by have g0 := E0.out; have g1 := E1.out; have g2 := F1.out; unfold mt; rw [if_neg (by have := G0.out; omega)]; exact if_pos (by omega)]; rfl, bb⟩
  have F1 := shut f1
  by_cases e2 : A = 0
  ·have E2 := shut e2
   have cc0 := cel6_0 kc
   have cc1 := cel6_1 kc
   have cc2 := cel6_2 kc
   have cc3 := cel6_3 kc
   have cc4 := cel6_4 kc
   have cc5 := cel6_5 kc
   have cd0 := cel6_0 kd
   have cd1 := cel6_1 kd
   have cd2 := cel6_2 kd
   have cd3 := cel6_3 kd
   have cd4 := cel6_4 kd
   have cd5 := cel6_5 kd
   have ca0 := cel6_0 ka
   have ca1 := cel6_1 ka
   have ca2 := cel6_2 ka
   have ca3 := cel6_3 ka
   have ca4 := cel6_4 ka
   have ca5 := cel6_5 ka
   go_wp2_with fail
   go_fit (A3.out _)
   rintro e y2 ⟨rfl, b1⟩
   replace ka := ka.below b1
   replace kb := kb.below b1
   replace kc := kc.below b1
   replace kd := kd.below b1
   replace bb := Below.after bb b1
   clear b1
   clear cc0 cc1 cc2 cc3 cc4 cc5 cd0 cd1 cd2 cd3 cd4 cd5 ca0 ca1 ca2 ca3 ca4 ca5
   by_cases f2 : 0 ≤ tA
   ·have F2 := shut f2
    go_wp2
    go_ret
    exact ⟨by rw [hR.out, show mt C D A B tC tD tA tB = 2 from by have g0 := E0.out; have g1 := F1.out; have g2 := E2.out; have g3 := F2.out; unfold mt; rw [if_neg (by have := G0.out; omega)]; exact if_pos (by omega)]; rfl, bb⟩
   have F2 := shut f2
   by_cases e3 : B = 0
   ·have E3 := shut e3
    have cc0 := cel6_0 kc
    have cc1 := cel6_1 kc
    have cc2 := cel6_2 kc
    have cc3 := cel6_3 kc
    have cc4 := cel6_4 kc
    have cc5 := cel6_5 kc
    have cd0 := cel6_0 kd
    have cd1 := cel6_1 kd
    have cd2 := cel6_2 kd
    have cd3 := cel6_3 kd
    have cd4 := cel6_4 kd
    have cd5 := cel6_5 kd
    have cb0 := cel6_0 kb
    have cb1 := cel6_1 kb
    have cb2 := cel6_2 kb
    have cb3 := cel6_3 kb
    have cb4 := cel6_4 kb
    have cb5 := cel6_5 kb
    go_wp2_with fail
    go_fit (A4.out _)
    rintro e y3 ⟨rfl, b1⟩
    replace ka := ka.below b1
    replace kb := kb.below b1
    replace kc := kc.below b1
    replace kd := kd.below b1
    replace bb := Below.after bb b1
    clear b1
    clear cc0 cc1 cc2 cc3 cc4 cc5 cd0 cd1 cd2 cd3 cd4 cd5 cb0 cb1 cb2 cb3 cb4 cb5
    by_cases f3 : 0 ≤ tB
    ·have F3 := shut f3
     go_wp2
     go_ret
     exact ⟨by rw [hR.out, show mt C D A B tC tD tA tB = 2 from by have g0 := E0.out; have g1 := F1.out; have g2 := F2.out; have g3 := E3.out; have g4 := F3.out; unfold mt; rw [if_neg (by have := G0.out; omega)]; exact if_pos (by omega)]; rfl, bb⟩
    have F3 := shut f3
    have X1 : Hid (¬ C * D < 0) := by show ¬ C * D < 0; rw [E1.out, Int.mul_zero]; omega
    go_wp2
    go_ret
    exact ⟨by rw [hR.out, show mt C D A B tC tD tA tB = 0 from by have g0 := E0.out; have g1 := F1.out; have g2 := F2.out; have g3 := F3.out; have x1 := X1.out; unfold mt; rw [if_neg (by have := G0.out; omega), if_neg (by omega)]; exact if_neg (by omega)]; rfl, bb⟩
   have E3 := shut e3
   have X1 : Hid (¬ C * D < 0) := by show ¬ C * D < 0; rw [E1.out, Int.mul_zero]; omega
   go_wp2
   go_ret
   exact ⟨by rw [hR.out, show mt C D A B tC tD tA tB = 0 from by have g0 := E0.out; have g1 := F1.out; have g2 := F2.out; have g3 := E3.out; have x1 := X1.out; unfold mt; rw [if_neg (by have := G0.out; omega), if_neg (by omega)]; exact if_neg (by omega)]; rfl, bb⟩
  have E2 := shut e2
  by_cases e3 : B = 0
  ·have E3 := shut e3
   have cc0 := cel6_0 kc
   have cc1 := cel6_1 kc
   have cc2 := cel6_2 kc
   have cc3 := cel6_3 kc
   have cc4 := cel6_4 kc
   have cc5 := cel6_5 kc
   have cd0 := cel6_0 kd
   have cd1 := cel6_1 kd
   have cd2 := cel6_2 kd
   have cd3 := cel6_3 kd
   have cd4 := cel6_4 kd
   have cd5 := cel6_5 kd
   have cb0 := cel6_0 kb
   have cb1 := cel6_1 kb
   have cb2 := cel6_2 kb
   have cb3 := cel6_3 kb
   have cb4 := cel6_4 kb
   have cb5 := cel6_5 kb
   go_wp2_with fail
   go_fit (A4.out _)
   rintro e y3 ⟨rfl, b1⟩
   replace ka := ka.below b1
   replace kb := kb.below b1
   replace kc := kc.below b1
   replace kd := kd.below b1
   replace bb := Below.after bb b1
   clear b1
   clear cc0 cc1 cc2 cc3 cc4 cc5 cd0 cd1 cd2 cd3 cd4 cd5 cb0 cb1 cb2 cb3 cb4 cb5
   by_cases f3 : 0 ≤ tB
   ·have F3 := shut f3
    go_wp2
    go_ret
    exact ⟨by rw [hR.out, show mt C D A B tC tD tA tB = 2 from by have g0 := E0.out; have g1 := F1.out; have g2 := E2.out; have g3 := E3.out; have g4 := F3.out; unfold mt; rw [if_neg (by have := G0.out; omega)]; exact if_pos (by omega)]; rfl, bb⟩
   have F3 := shut f3
   have X1 : Hid (¬ C * D < 0) := by show ¬ C * D < 0; rw [E1.out, Int.mul_zero]; omega
   go_wp2
   go_ret
   exact ⟨by rw [hR.out, show mt C D A B tC tD tA tB = 0 from by have g0 := E0.out; have g1 := F1.out; have g2 := E2.out; have g3 := F3.out; have x1 := X1.out; unfold mt; rw [if_neg (by have := G0.out; omega), if_neg (by omega)]; exact if_neg (by omega)]; rfl, bb⟩
  have E3 := shut e3
  have X1 : Hid (¬ C * D < 0) := by show ¬ C * D < 0; rw [E1.out, Int.mul_zero]; omega
  go_wp2
  go_ret
  exact ⟨by rw [hR.out, show mt C D A B tC tD tA tB = 0 from by have g0 := E0.out; have g1 := F1.out; have g2 := E2.out; have g3 := E3.out; have x1 := X1.out; unfold mt; rw [if_neg (by have := G0.out; omega), if_neg (by omega)]; exact if_neg (by omega)]; rfl, bb⟩
 have E1 := shut e1
 by_cases e2 : A = 0
 ·have E2 := shut e2
  have cc0 := cel6_0 kc
  have cc1 := cel6_1 kc
  have cc2 := cel6_2 kc
  have cc3 := cel6_3 kc
  have cc4 := cel6_4 kc
  have cc5 := cel6_5 kc
  have cd0 := cel6_0 kd
  have cd1 := cel6_1 kd
  have cd2 := cel6_2 kd
  have cd3 := cel6_3 kd
  have cd4 := cel6_4 kd
  have cd5 := cel6_5 kd
  have ca0 := cel6_0 ka
  have ca1 := cel6_1 ka
  have ca2 := cel6_2 ka
  have ca3 := cel6_3 ka
  have ca4 := cel6_4 ka
  have ca5 := cel6_5 ka
  go_wp2_with fail
  go_fit (A3.out _)
  rintro e y2 ⟨rfl, b1⟩
  replace ka := ka.below b1
  replace kb := kb.below b1
  replace kc := kc.below b1
  replace kd := kd.below b1
  replace bb := Below.after bb b1
  clear b1
  clear cc0 cc1 cc2 cc3 cc4 cc5 cd0 cd1 cd2 cd3 cd4 cd5 ca0 ca1 ca2 ca3 ca4 ca5
  by_cases f2 : 0 ≤ tA
  ·have F2 := shut f2
   go_wp2
   go_ret
   exact ⟨by rw [hR.out, show mt C D A B tC tD tA tB = 2 from by have g0 := E0.out; have g1 := E1.out; have g2 := E2.out; have g3 := F2.out; unfold mt; rw [if_neg (by have := G0.out; omega)]; exact if_pos (by omega)]; rfl, bb⟩
  have F2 := shut f2
  by_cases e3 : B = 0
  ·have E3 := shut e3
   have cc0 := cel6_0 kc
   have cc1 := cel6_1 kc
   have cc2 := cel6_2 kc
   have cc3 := cel6_3 kc
   have cc4 := cel6_4 kc
   have cc5 := cel6_5 kc
   have cd0 := cel6_0 kd
   have cd1 := cel6_1 kd
   have cd2 := cel6_2 kd
   have cd3 := cel6_3 kd
   have cd4 := cel6_4 kd
   have cd5 := cel6_5 kd
   have cb0 := cel6_0 kb
   have cb1 := cel6_1 kb
   have cb2 := cel6_2 kb
   have cb3 := cel6_3 kb
   have cb4 := cel6_4 kb
   have cb5 := cel6_5 kb
   go_wp2_with fail
   go_fit (A4.out _)
   rintro e y3 ⟨rfl, b1⟩
   replace ka := ka.below b1
   replace kb := kb.below b1
   replace kc := kc.below b1
   replace kd := kd.below b1
   replace bb := Below.after bb b1
   clear b1
   clear cc0 cc1 cc2 cc3 cc4 cc5 cd0 cd1 cd2 cd3 cd4 cd5 cb0 cb1 cb2 cb3 cb4 cb5
   by_cases f3 : 0 ≤ tB
   ·have F3 := shut f3
    go_wp2
    go_ret
    exact ⟨by rw [hR.out, show mt C D A B tC tD tA tB = 2 from by have g0 := E0.out; have g1 := E1.out; have g2 := F2.out; have g3 := E3.out; have g4 := F3.out; unfold mt; rw [if_neg (by have := G0.out; omega)]; exact if_pos (by omega)]; rfl, bb⟩
   have F3 := shut f3
   by_cases x1 : C * D < 0
   ·have X1 := shut x1
    have X2 : Hid (¬ A * B < 0) := by show ¬ A * B < 0; rw [E2.out, Int.zero_mul]; omega
    go_wp2
    go_ret
    exact ⟨by rw [hR.out, show mt C D A B tC tD tA tB = 0 from by have g0 := E0.out; have g1 := E1.out; have g2 := F2.out; have g3 := F3.out; have x2 := X2.out; unfold mt; rw [if_neg (by have := G0.out; omega), if_neg (by omega)]; exact if_neg (by omega)]; rfl, bb⟩
   ·have X1 := shut x1
    go_wp2
    go_ret
    exact ⟨by rw [hR.out, show mt C D A B tC tD tA tB = 0 from by have g0 := E0.out; have g1 := E1.out; have g2 := F2.out; have g3 := F3.out; have x1 := X1.out; unfold mt; rw [if_neg (by have := G0.out; omega), if_neg (by omega)]; exact if_neg (by omega)]; rfl, bb⟩
  have E3 := shut e3
  by_cases x1 : C * D < 0
  ·have X1 := shut x1
   have X2 : Hid (¬ A * B < 0) := by show ¬ A * B < 0; rw [E2.out, Int.zero_mul]; omega
   go_wp2
   go_ret
   exact ⟨by rw [hR.out, show mt C D A B tC tD tA tB = 0 from by have g0 := E0.out; have g1 := E1.out; have g2 := F2.out; have g3 := E3.out; have x2 := X2.out; unfold mt; rw [if_neg (by have := G0.out; omega), if_neg (by omega)]; exact if_neg (by omega)]; rfl, bb⟩
  ·have X1 := shut x1
   go_wp2
   go_ret
   exact ⟨by rw [hR.out, show mt C D A B tC tD tA tB = 0 from by have g0 := E0.out; have g1 := E1.out; have g2 := F2.out; have g3 := E3.out; have x1 := X1.out; unfold mt; rw [if_neg (by have := G0.out; omega), if_neg (by omega)]; exact if_neg (by omega)]; rfl, bb⟩
 have E2 := shut e2
 by_cases e3 : B = 0
 ·have E3 := shut e3
  have cc0 := cel6_0 kc
  have cc1 := cel6_1 kc
  have cc2 := cel6_2 kc
  have cc3 := cel6_3 kc
  have cc4 := cel6_4 kc
  have cc5 := cel6_5 kc
  have cd0 := cel6_0 kd
  have cd1 := cel6_1 kd
  have cd2 := cel6_2 kd
  have cd3 := cel6_3 kd
  have cd4 := cel6_4 kd
  have cd5 := cel6_5 kd
  have cb0 := cel6_0 kb
  have cb1 := cel6_1 kb
  have cb2 := cel6_2 kb
  have cb3 := cel6_3 kb
  have cb4 := cel6_4 kb
  have cb5 := cel6_5 kb
  go_wp2_with fail
  go_fit (A4.out _)
  rintro e y3 ⟨rfl, b1⟩
  replace ka := ka.below b1
  replace kb := kb.below b1
  replace kc := kc.below b1
  replace kd := kd.below b1
  replace bb := Below.after bb b1
  clear b1
  clear cc0 cc1 cc2 cc3 cc4 cc5 cd0 cd1 cd2 cd3 cd4 cd5 cb0 cb1 cb2 cb3 cb4 cb5
  by_cases f3 : 0 ≤ tB
  ·have F3 := shut f3
   go_wp2
   go_ret
   exact ⟨by rw [hR.out, show mt C D A B tC tD tA tB = 2 from by have g0 := E0.out; have g1 := E1.out; have g2 := E2.out; have g3 := E3.out; have g4 := F3.out; unfold mt; rw [if_neg (by have := G0.out; omega)]; exact if_pos (by omega)]; rfl, bb⟩
  have F3 := shut f3
  by_cases x1 : C * D < 0
  ·have X1 := shut x1
   have X2 : Hid (¬ A * B < 0) := by show ¬ A * B < 0; rw [E3.out, Int.mul_zero]; omega
   go_wp2
   go_ret
   exact ⟨by rw [hR.out, show mt C D A B tC tD tA tB = 0 from by have g0 := E0.out; have g1 := E1.out; have g2 := E2.out; have g3 := F3.out; have x2 := X2.out; unfold mt; rw [if_neg (by have := G0.out; omega), if_neg (by omega)]; exact if_neg (by omega)]; rfl, bb⟩
  ·have X1 := shut x1
   go_wp2
   go_ret
   exact ⟨by rw [hR.out, show mt C D A B tC tD tA tB = 0 from by have g0 := E0.out; have g1 := E1.out; have g2 := E2.out; have g3 := F3.out; have x1 := X1.out; unfold mt; rw [if_neg (by have := G0.out; omega), if_neg (by omega)]; exact if_neg (by omega)]; rfl, bb⟩
 have E3 := shut e3
 by_cases x1 : C * D < 0
 ·have X1 := shut x1
  by_cases x2 : A * B < 0
  ·have X2 := shut x2
   go_wp2
   go_ret
   exact ⟨by rw [hR.out, show mt C D A B tC tD tA tB = 1 from by have g0 := E0.out; have g1 := E1.out; have g2 := E2.out; have g3 := E3.out; have := X1.out; have := X2.out; unfold mt; rw [if_neg (by have := G0.out; omega), if_neg (by omega)]; exact if_pos (by omega)]; rfl, bb⟩
  ·have X2 := shut x2
   go_wp2
   go_ret
   exact ⟨by rw [hR.out, show mt C D A B tC tD tA tB = 0 from by have g0 := E0.out; have g1 := E1.out; have g2 := E2.out; have g3 := E3.out; have x2 := X2.out; unfold mt; rw [if_neg (by have := G0.out; omega), if_neg (by omega)]; exact if_neg (by omega)]; rfl, bb⟩
 ·have X1 := shut x1
  go_wp2
  go_ret
  exact ⟨by rw [hR.out, show mt C D A B tC tD tA tB = 0 from by have g0 := E0.out; have g1 := E1.out; have g2 := E2.out; have g3 := E3.out; have x1 := X1.out; unfold mt; rw [if_neg (by have := G0.out; omega), if_neg (by omega)]; exact if_neg (by omega)]; rfl, bb⟩
end Go.Proofs.YtafikdacdfkkhaaGreatDoor
