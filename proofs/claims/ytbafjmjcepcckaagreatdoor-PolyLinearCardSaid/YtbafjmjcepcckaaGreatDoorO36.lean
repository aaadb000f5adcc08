/-
  Package span: the way from one point to another, walked.
  Package poly: Check, clearedOf, walked.
  Package span: products of ways.
  Package span: Shared, walked.
  Package span: Shared of any numbers.
  gussetref05: Orient, Disc, Circle, walked.
  Package poly: (cleared).at over a row of six; small.
-/
import Derived.Test.YtbafjmjcepcckaaGreatDoorO33
import Derived.Test.YtbafjmjcepcckaaGreatDoorO34
set_option maxRecDepth 100000
set_option maxHeartbeats 16000000
namespace Go.Proofs.YtbafjmjcepcckaaGreatDoor
open Go.RowKit
theorem sof_walk (n0 n1 n2 n3 : Bool) (s0 d0 s1 d1 s2 d2 s3 d3 : ByteArray) (x y : Rat) (w : World)
  (H1 : Hid (∀ w1, Calls Tryz.prog 142 #[.agg #[.bool n2, .string s2, .string d2], .agg #[.bool n0, .string s0, .string d0]] w1 fun e w' => ∃ m a l c a' l' c' X U, e = .returned (.tuple #[.agg #[.bool m, .slice a l c], .agg #[.bool false, .slice a' l' c']]) ∧ NV w' m (.slice a l c) X 27 ∧ NV w' false (.slice a' l' c') U 26 ∧ 0 < U ∧ (X : Rat) = (U : Rat) * x ∧ Below w1.heap.size w1 w'))
  (H2 : Hid (∀ w1, Calls Tryz.prog 142 #[.agg #[.bool n3, .string s3, .string d3], .agg #[.bool n1, .string s1, .string d1]] w1 fun e w' => ∃ m a l c a' l' c' X U, e = .returned (.tuple #[.agg #[.bool m, .slice a l c], .agg #[.bool false, .slice a' l' c']]) ∧ NV w' m (.slice a l c) X 27 ∧ NV w' false (.slice a' l' c') U 26 ∧ 0 < U ∧ (X : Rat) = (U : Rat) * y ∧ Below w1.heap.size w1 w')) :
  Calls Tryz.prog 107 #[.agg #[.bool n0, .string s0, .string d0, .bool n1, .string s1, .string d1], .agg #[.bool n2, .string s2, .string d2, .bool n3, .string s3, .string d3]] w fun e w' => ∃ m0 a0 l0 c0 m1 a1 l1 c1 a2 l2 c2 X Y U, e = .returned (.agg #[.bool m0, .slice a0 l0 c0, .bool m1, .slice a1 l1 c1, .bool false, .slice a2 l2 c2]) ∧ NV w' m0 (.slice a0 l0 c0) X 53 ∧ NV w' m1 (.slice a1 l1 c1) Y 53 ∧ NV w' false (.slice a2 l2 c2) U 52 ∧ Gm.Way X Y U x y ∧ Below w.heap.size w w' := by
 go_enter Tryz.func107, Tryz.ntmps107
 go_wp2_with fail
 obtain ⟨w0, hw, ka, kb, kr, bb⟩ := mk3 w [.bool n0, .string s0, .string d0, .bool n1, .string s1, .string d1] [.bool n2, .string s2, .string d2, .bool n3, .string s3, .string d3] [.bool false, .slice none 0 0, .bool false, .slice none 0 0, .bool false, .slice none 0 0] 30 30 149
 rw [← hw]
 clear hw
 have tr := kr.lt
 go_fit (H1.out _)
 rintro e w1 ⟨m1, a1, l1, c1, a2, l2, c2, X, U, rfl, nv1, nv2, hU, hX, b1⟩
 replace ka := ka.below b1
 replace kb := kb.below b1
 replace kr := kr.below b1
 replace bb := Below.after bb b1
 have sq0 := b1.size
 clear b1
 replace hX := shut hX
 replace hU := shut hU
 have ca3 := cel6_3 ((ka.alloc (.cells #[.bool m1, .slice a1 l1 c1] 68)).alloc (.cells #[.bool false, .slice a2 l2 c2] 68))
 have ca4 := cel6_4 ((ka.alloc (.cells #[.bool m1, .slice a1 l1 c1] 68)).alloc (.cells #[.bool false, .slice a2 l2 c2] 68))
 have ca5 := cel6_5 ((ka.alloc (.cells #[.bool m1, .slice a1 l1 c1] 68)).alloc (.cells #[.bool false, .slice a2 l2 c2] 68))
 have cb3 := cel6_3 ((kb.alloc (.cells #[.bool m1, .slice a1 l1 c1] 68)).alloc (.cells #[.bool false, .slice a2 l2 c2] 68))
 have cb4 := cel6_4 ((kb.alloc (.cells #[.bool m1, .slice a1 l1 c1] 68)).alloc (.cells #[.bool false, .slice a2 l2 c2] 68))
 have cb5 := cel6_5 ((kb.alloc (.cells #[.bool m1, .slice a1 l1 c1] 68)).alloc (.cells #[.bool false, .slice a2 l2 c2] 68))
 go_wp2_with fail
 obtain ⟨w2, hw, kx, kv, b1⟩ := mk2 w1 [.bool m1, .slice a1 l1 c1] [.bool false, .slice a2 l2 c2] 68 68
 rw [← hw]
 clear hw ca3 ca4 ca5 cb3 cb4 cb5
 replace ka := ka.below b1
 replace kb := kb.below b1
 replace kr := kr.below b1
 replace nv1 := nv1.below b1
 replace nv2 := nv2.below b1
 replace bb := Below.after bb b1
 have sq1 := b1.size
 clear b1
 have tx := kx.lt
 have tv := kv.lt
 go_fit (H2.out _)
 rintro e w3 ⟨m3, a3, l3, c3, a4, l4, c4, Y, V, rfl, nv3, nv4, hV, hY, b1⟩
 replace kr := kr.below b1
 replace kx := kx.below b1
 replace kv := kv.below b1
 replace nv1 := nv1.below b1
 replace nv2 := nv2.below b1
 replace bb := Below.after bb b1
 have sq2 := b1.size
 clear b1
 replace hY := shut hY
 replace hV := shut hV
 obtain ⟨cv0, cv1⟩ := xk2 ((kv.alloc (.cells #[.bool m3, .slice a3 l3 c3] 68)).alloc (.cells #[.bool false, .slice a4 l4 c4] 68))
 go_wp2_with fail
 obtain ⟨w4, hw, ky, ku, b1⟩ := mk2 w3 [.bool m3, .slice a3 l3 c3] [.bool false, .slice a4 l4 c4] 68 68
 rw [← hw]
 clear hw cv0 cv1
 replace kr := kr.below b1
 replace kx := kx.below b1
 replace kv := kv.below b1
 replace nv1 := nv1.below b1
 replace nv2 := nv2.below b1
 replace nv3 := nv3.below b1
 replace nv4 := nv4.below b1
 replace bb := Below.after bb b1
 have sq3 := b1.size
 clear b1
 have ty := ky.lt
 have tu := ku.lt
 go_fit (nsame_nv _ _ U V 26 _ (by omega) nv2 nv4)
 rintro e w5 ⟨rfl, b1⟩
 replace kr := kr.below b1
 replace kx := kx.below b1
 replace ky := ky.below b1
 replace kv := kv.below b1
 replace ku := ku.below b1
 replace nv1 := nv1.below b1
 replace nv2 := nv2.below b1
 replace nv3 := nv3.below b1
 replace nv4 := nv4.below b1
 replace bb := Below.after bb b1
 have sq4 := b1.size
 clear b1
 by_cases hs : U = V
 ·have hd := decide_eq_true hs
  rw [hd]
  clear hd
  obtain ⟨cx0, cx1⟩ := xk2 kx
  obtain ⟨cy0, cy1⟩ := xk2 ky
  obtain ⟨cv0, cv1⟩ := xk2 kv
  have e0 := cel6_0 kr
  have f0 := Cel.frozen kr 0
  have e1 := cel6_1 kr
  have f1 := Cel.frozen kr 1
  have e2 := cel6_2 kr
  have f2 := Cel.frozen kr 2
  have e3 := cel6_3 kr
  have f3 := Cel.frozen kr 3
  have e4 := cel6_4 kr
  have f4 := Cel.frozen kr 4
  have e5 := cel6_5 kr
  have f5 := Cel.frozen kr 5
  replace nv1 := shut nv1
  replace nv2 := shut nv2
  replace nv3 := shut nv3
  go_wp2
  exact post_s (p := 4) (by kernel_rfl) rfl rfl ((((((kr.set 0 _).set 1 _).set 2 _).set 3 _).set 4 _).set 5 _) ⟨_, _, _, _, _, _, _, _, _, _, _, _, _, _, rfl, (nv1.out.mono (by omega)).set6 kr _ _ _ _ _ _, (nv3.out.mono (by omega)).set6 kr _ _ _ _ _ _, (nv2.out.mono (by omega)).set6 kr _ _ _ _ _ _, ⟨hU.out, hX.out, by rw [hs]; exact hY.out⟩, bset (bset (bset (bset (bset (bset bb (by omega) 0 _) (by omega) 1 _) (by omega) 2 _) (by omega) 3 _) (by omega) 4 _) (by omega) 5 _⟩
 ·have hd := decide_eq_false hs
  rw [hd]
  clear hd
  go_wp2_with fail
  have mkS : Hid (∀ w', Cel w' (w1.heap.size) [.bool m1, .slice a1 l1 c1] 68 → Cel w' (w1.heap.size + 1) [.bool false, .slice a2 l2 c2] 68 → Cel w' (w3.heap.size) [.bool m3, .slice a3 l3 c3] 68 → Cel w' (w3.heap.size + 1) [.bool false, .slice a4 l4 c4] 68 → (xc2 w' w1.heap.size (.bool m1) (.slice a1 l1 c1) ∧ xc2 w' (w1.heap.size + 1) (.bool false) (.slice a2 l2 c2) ∧ xc2 w' w3.heap.size (.bool m3) (.slice a3 l3 c3) ∧ xc2 w' (w3.heap.size + 1) (.bool false) (.slice a4 l4 c4))) := fun w' hx hv hy hu => ⟨xk2 hx, xk2 hv, xk2 hy, xk2 hu⟩
  have qxr : w1.heap.size ≠ w.heap.size + 1 + 1 := by omega
  have qvr : w1.heap.size + 1 ≠ w.heap.size + 1 + 1 := by omega
  have qyr : w3.heap.size ≠ w.heap.size + 1 + 1 := by omega
  have qur : w3.heap.size + 1 ≠ w.heap.size + 1 + 1 := by omega
  go_region_held3 (fun w' => xc2 w' w1.heap.size (.bool m1) (.slice a1 l1 c1) ∧ xc2 w' (w1.heap.size + 1) (.bool false) (.slice a2 l2 c2) ∧ xc2 w' w3.heap.size (.bool m3) (.slice a3 l3 c3) ∧ xc2 w' (w3.heap.size + 1) (.bool false) (.slice a4 l4 c4)) (first | with_reducible exact mkS.out _ kx kv ky ku | with_reducible exact mkS.out _ (Cel.other (Cel.other (Cel.other (Cel.other (Cel.other (Cel.other kx qxr 0 _) qxr 1 _) qxr 2 _) qxr 3 _) qxr 4 _) qxr 5 _) (Cel.other (Cel.other (Cel.other (Cel.other (Cel.other (Cel.other kv qvr 0 _) qvr 1 _) qvr 2 _) qvr 3 _) qvr 4 _) qvr 5 _) (Cel.other (Cel.other (Cel.other (Cel.other (Cel.other (Cel.other ky qyr 0 _) qyr 1 _) qyr 2 _) qyr 3 _) qyr 4 _) qyr 5 _) (Cel.other (Cel.other (Cel.other (Cel.other (Cel.other (Cel.other ku qur 0 _) qur 1 _) qur 2 _) qur 3 _) qur 4 _) qur 5 _) | exact mkS.out _ kx kv ky ku) (first | (go_at_call 59; go_fit (ntimes_any _ _ _ _ X V 27 26 _ (by omega) (by omega) ?_ ?_); (first | exact nv1 | exact nv1.drew); (first | exact nv4 | exact nv4.drew); rintro e wn ⟨m5, v5, rfl, nv5, -, bn⟩; obtain ⟨a5, l5, c5, rfl⟩ := nv5.slice; replace kr := kr.below (un bn); replace kx := kx.below (un bn); replace ky := ky.below (un bn); replace kv := kv.below (un bn); replace ku := ku.below (un bn); (try replace nv1 := nv1.below (un bn)); (try replace nv2 := nv2.below (un bn)); (try replace nv3 := nv3.below (un bn)); (try replace nv4 := nv4.below (un bn)); (try replace nv6 := nv6.below (un bn)); replace bb := Below.after bb (un bn)) | (go_at_call 59; go_fit (ntimes_any _ _ _ _ Y U 27 26 _ (by omega) (by omega) ?_ ?_); (first | exact nv3 | exact nv3.drew); (first | exact nv2 | exact nv2.drew); rintro e wn ⟨m6, v6, rfl, nv6, -, bn⟩; obtain ⟨a6, l6, c6, rfl⟩ := nv6.slice; replace kr := kr.below (un bn); replace kx := kx.below (un bn); replace ky := ky.below (un bn); replace kv := kv.below (un bn); replace ku := ku.below (un bn); (try replace nv1 := nv1.below (un bn)); (try replace nv2 := nv2.below (un bn)); (try replace nv3 := nv3.below (un bn)); (try replace nv4 := nv4.below (un bn)); (try replace nv5 := nv5.below (un bn)); replace bb := Below.after bb (un bn)) | (go_at_call 59; go_fit (ntimes_any _ _ _ _ U V 26 26 _ (by omega) (by omega) ?_ ?_); (first | exact nv2 | exact nv2.drew); (first | exact nv4 | exact nv4.drew); rintro e wn ⟨m7, v7, rfl, nv7, hm7, bn⟩; obtain ⟨a7, l7, c7, rfl⟩ := nv7.slice; replace kr := kr.below (un bn); replace kx := kx.below (un bn); replace ky := ky.below (un bn); replace kv := kv.below (un bn); replace ku := ku.below (un bn); (try replace nv1 := nv1.below (un bn)); (try replace nv2 := nv2.below (un bn)); (try replace nv3 := nv3.below (un bn)); (try replace nv4 := nv4.below (un bn)); (try replace nv5 := nv5.below (un bn)); (try replace nv6 := nv6.below (un bn)); replace bb := Below.after bb (un bn); have er0 := cel6_0 kr; have fr0 := Cel.frozen kr 0; have er1 := cel6_1 kr; have fr1 := Cel.frozen kr 1; have er2 := cel6_2 kr; have fr2 := Cel.frozen kr 2; have er3 := cel6_3 kr; have fr3 := Cel.frozen kr 3; have er4 := cel6_4 kr; have fr4 := Cel.frozen kr 4; have er5 := cel6_5 kr; have fr5 := Cel.frozen kr 5))
  obtain rfl := hm7 trivial trivial
  clear hm7
  replace nv5 := shut nv5
  replace nv6 := shut nv6
  replace nv7 := shut nv7
  go_wp2
  refine post_s (p := 4) (by kernel_rfl) rfl rfl ((((((kr.set 0 _).set 1 _).set 2 _).set 3 _).set 4 _).set 5 _) ⟨_, _, _, _, _, _, _, _, _, _, _, _, _, _, rfl, nv5.out.set6 kr _ _ _ _ _ _, nv6.out.set6 kr _ _ _ _ _ _, nv7.out.set6 kr _ _ _ _ _ _, ⟨Int.mul_pos hU.out hV.out, ?_, ?_⟩, bset (bset (bset (bset (bset (bset bb (by omega) 0 _) (by omega) 1 _) (by omega) 2 _) (by omega) 3 _) (by omega) 4 _) (by omega) 5 _⟩
  ·rw [Rat.intCast_mul, Rat.intCast_mul, hX.out]; grind
  ·rw [Rat.intCast_mul, Rat.intCast_mul, hY.out]; grind
theorem pCheck_walk (n0 n1 n2 n3 n4 n5 : Bool) (s0 d0 s1 d1 s2 d2 s3 d3 s4 d4 s5 d5 : ByteArray) (E : Int) (w : World)
  (HC : Hid (∀ (w1 : World) (B : Nat), Below w.heap.size w w1 → Cel w1 B [.bool n0, .string s0, .string d0, .bool n1, .string s1, .string d1, .bool n2, .string s2, .string d2, .bool n3, .string s3, .string d3, .bool n4, .string s4, .string d4, .bool n5, .string s5, .string d5] 28 → Calls Tryz.prog 38 #[.slice (some ⟨B, 0, none⟩) 6 6] w1 (Re w1 (.int .i64 E)))) :
  Calls Tryz.prog 12 #[.agg #[.bool n0, .string s0, .string d0, .bool n1, .string s1, .string d1, .bool n2, .string s2, .string d2, .bool n3, .string s3, .string d3, .bool n4, .string s4, .string d4, .bool n5, .string s5, .string d5]] w (Re w (.int .i64 E)) := by
 go_enter Tryz.func12, Tryz.ntmps12
 go_wp2_with fail
 obtain ⟨w0, hw, kf, bb⟩ := mk1 w [.bool n0, .string s0, .string d0, .bool n1, .string s1, .string d1, .bool n2, .string s2, .string d2, .bool n3, .string s3, .string d3, .bool n4, .string s4, .string d4, .bool n5, .string s5, .string d5] 28
 rw [← hw]
 clear hw
 go_fit (HC.out _ _ bb kf)
 rintro e w1 ⟨rfl, b1⟩
 replace bb := Below.after bb b1
 clear b1 kf
 go_wp2
 go_ret
 exact ⟨rfl, bb⟩
theorem load_c3 {w : World} {g : Nat} {x y z : Value} (h : Cel w g [x, y, z] 70) : (loadVar 70 ⟨g, 0, none⟩).run Tryz.prog w = .ok (.agg #[x, y, z]) w :=
 run_loadVar_row w g 70 70 #[x, y, z] (0, 0) _ h Tryz.underlying70 rfl (by kernel_rfl)
theorem post_c3 {fn : Func} {p : Tmp} {R : Ending → World → Prop} {a : Act} {w : World} {g : Nat} {x y z : Value} (h : fn.results = #[.cell p 70]) (hp : a.tmps.getD p undef = .pointer (some ⟨g, 0, none⟩)) (hd : a.defers = [])
  (hc : Cel w g [x, y, z] 70) (hR : R (.returned (.agg #[x, y, z])) w) : bodyPost Tryz.prog fn R .ret a w := by
 refine ⟨hd, .agg #[x, y, z], ?_, hR⟩
 have hp' : a.tmps[p]?.getD undef = .pointer (some ⟨g, 0, none⟩) := by simpa using hp
 simp only [results, h]
 simp [hp', asAddr, load_c3 hc]
theorem no_c3 : ∀ (j : Nat) (k : IntKind) (i : Int), [Value.slice none 0 0, .bool false, .slice none 0 0][j]? ≠ some (.int k i) := by
 intro j k i
 match j with
 | 0 => simp
 | 1 => simp
 | 2 => simp
 | j + 3 => simp
theorem NV.setK {w : World} {n : Bool} {v : Value} {z : Int} {L g : Nat} {t : TypeId} (h : NV w n v z L) (hc : Cel w g [.slice none 0 0, .bool false, .slice none 0 0] t) (x y u : Value) : NV (((w.setCell ⟨g, 0, none⟩ x).setCell ⟨g, 1, none⟩ y).setCell ⟨g, 2, none⟩ u) n v z L := by
 obtain ⟨k, r, h1, h2⟩ := h
 exact ⟨k, ((((rdx_of_cel r hc no_c3).setX 0 x).setX 1 y).setX 2 u).rd, h1, h2⟩
theorem cleared_walk (n0 n1 n2 n3 n4 n5 : Bool) (s0 d0 s1 d1 s2 d2 s3 d3 s4 d4 s5 d5 : ByteArray) (Z : Nat → Int) (Q : Int) (L M' : Nat) (w : World)
  (HS : Hid (∀ (w1 : World) (B : Nat), Below w.heap.size w w1 → Cel w1 B [.bool n0, .string s0, .string d0, .bool n1, .string s1, .string d1, .bool n2, .string s2, .string d2, .bool n3, .string s3, .string d3, .bool n4, .string s4, .string d4, .bool n5, .string s5, .string d5] 28 → Calls Tryz.prog 34 #[.slice (some ⟨B, 0, none⟩) 6 6] w1 fun e w' => ∃ g m v a l c, w1.heap.size ≤ g ∧ e = .returned (.tuple #[.slice (some ⟨g, 0, none⟩) 6 6, .agg #[.bool false, .slice a l c]]) ∧ Cells w' g 68 (6 * 2) (fnn m v 6) ∧ NVs w' m v Z L 6 ∧ NV w' false (.slice a l c) Q M' ∧ Below w1.heap.size w1 w')) :
  Calls Tryz.prog 33 #[.agg #[.bool n0, .string s0, .string d0, .bool n1, .string s1, .string d1, .bool n2, .string s2, .string d2, .bool n3, .string s3, .string d3, .bool n4, .string s4, .string d4, .bool n5, .string s5, .string d5]] w fun e w' => ∃ g m v a l c, e = .returned (.agg #[.slice (some ⟨g, 0, none⟩) 6 6, .bool false, .slice a l c]) ∧ Cells w' g 68 (6 * 2) (fnn m v 6) ∧ NVs w' m v Z L 6 ∧ NV w' false (.slice a l c) Q M' ∧ Below w.heap.size w w' := by
 go_enter Tryz.func33, Tryz.ntmps33
 go_wp2_with fail
 obtain ⟨w0, hw, kf, kr, bb⟩ := mk2 w [.bool n0, .string s0, .string d0, .bool n1, .string s1, .string d1, .bool n2, .string s2, .string d2, .bool n3, .string s3, .string d3, .bool n4, .string s4, .string d4, .bool n5, .string s5, .string d5] [.slice none 0 0, .bool false, .slice none 0 0] 28 70
 rw [← hw]
 clear hw
 have t0 := kr.lt
 go_fit (HS.out _ _ bb kf)
 rintro e w1 ⟨g, m, v, a, l, c, gl, rfl, kg, hv, hq, b1⟩
 replace kr := kr.below b1
 replace bb := Below.after bb b1
 clear b1 kf
 have ob := bel_al w1 (.cells #[.bool false, .slice a l c] 68)
 replace kr := kr.below ob
 replace bb := Below.after bb ob
 replace kg := kg.below ob
 replace hv := hv.below ob
 replace hq := hq.below ob
 have tr := kr.lt
 have tg := kg.lt
 obtain ⟨e0, e1, e2⟩ := xk3 kr
 have f0 := Cel.frozen kr 0
 have f1 := Cel.frozen kr 1
 have f2 := Cel.frozen kr 2
 have ne : g ≠ w.heap.size + 1 := by omega
 clear ob
 go_wp2
 exact post_c3 (p := 2) (by kernel_rfl) rfl rfl (((kr.set 0 _).set 1 _).set 2 _) ⟨g, m, v, a, l, c, rfl, ((kg.other ne 0 _).other ne 1 _).other ne 2 _, fun q hq' => ⟨(hv q hq').1.setK kr _ _ _, (hv q hq').2⟩, hq.setK kr _ _ _, bset (bset (bset bb (by omega) 0 _) (by omega) 1 _) (by omega) 2 _⟩
theorem sof_any (n0 n1 n2 n3 : Bool) (s0 d0 s1 d1 s2 d2 s3 d3 : ByteArray) (w : World) (o0 : OkQ n0 s0 d0) (o1 : OkQ n1 s1 d1) (o2 : OkQ n2 s2 d2) (o3 : OkQ n3 s3 d3) (z0 : s0.size ≤ 100 ∧ d0.size ≤ 100) (z1 : s1.size ≤ 100 ∧ d1.size ≤ 100) (z2 : s2.size ≤ 100 ∧ d2.size ≤ 100) (z3 : s3.size ≤ 100 ∧ d3.size ≤ 100) :
  Calls Tryz.prog 107 #[.agg #[.bool n0, .string s0, .string d0, .bool n1, .string s1, .string d1], .agg #[.bool n2, .string s2, .string d2, .bool n3, .string s3, .string d3]] w fun e w' => ∃ m0 a0 l0 c0 m1 a1 l1 c1 a2 l2 c2 X Y U, e = .returned (.agg #[.bool m0, .slice a0 l0 c0, .bool m1, .slice a1 l1 c1, .bool false, .slice a2 l2 c2]) ∧ NV w' m0 (.slice a0 l0 c0) X 53 ∧ NV w' m1 (.slice a1 l1 c1) Y 53 ∧ NV w' false (.slice a2 l2 c2) U 52 ∧ Gm.Way X Y U (qOf n2 s2 d2 - qOf n0 s0 d0) (qOf n3 s3 d3 - qOf n1 s1 d1) ∧ Below w.heap.size w w' :=
 sof_walk n0 n1 n2 n3 s0 d0 s1 d1 s2 d2 s3 d3 _ _ w (fun w1 => less_any n2 n0 s2 d2 s0 d0 w1 o2 o0 z2 z0) (fun w1 => less_any n3 n1 s3 d3 s1 d1 w1 o3 o1 z3 z1)
theorem scross_any (m0 m1 m2 m3 m4 m5 : Bool) (a0 a1 a2 a3 a4 a5 : Option Addr) (l0 c0 l1 c1 l2 c2 l3 c3 l4 c4 l5 c5 : Nat) (X Y X' Y' : Int) (L : Nat) (w : World) (hL : L ≤ 200) (nv0 : NV w m0 (.slice a0 l0 c0) X L) (nv1 : NV w m1 (.slice a1 l1 c1) Y L) (nv3 : NV w m3 (.slice a3 l3 c3) X' L) (nv4 : NV w m4 (.slice a4 l4 c4) Y' L) :
  Calls Tryz.prog 108 #[.agg #[.bool m0, .slice a0 l0 c0, .bool m1, .slice a1 l1 c1, .bool m2, .slice a2 l2 c2], .agg #[.bool m3, .slice a3 l3 c3, .bool m4, .slice a4 l4 c4, .bool m5, .slice a5 l5 c5]] w fun e w' => ∃ m u, e = .returned (.agg #[.bool m, u]) ∧ NV w' m u (X * Y' - Y * X') (L + L + 1) ∧ Below w.heap.size w w' := by
 go_enter Tryz.func108, Tryz.ntmps108
 go_wp2_with fail
 obtain ⟨w0, hw, ka, kb, kr, bb⟩ := mk3 w [.bool m0, .slice a0 l0 c0, .bool m1, .slice a1 l1 c1, .bool m2, .slice a2 l2 c2] [.bool m3, .slice a3 l3 c3, .bool m4, .slice a4 l4 c4, .bool m5, .slice a5 l5 c5] [.bool false, .slice none 0 0] 149 149 68
 rw [← hw]
 clear hw
 have tr := kr.lt
 replace nv0 := nv0.below bb
 replace nv1 := nv1.below bb
 replace nv3 := nv3.below bb
 replace nv4 := nv4.below bb
 have mkS : Hid (∀ w', Cel w' (w.heap.size) [.bool m0, .slice a0 l0 c0, .bool m1, .slice a1 l1 c1, .bool m2, .slice a2 l2 c2] 149 → Cel w' (w.heap.size + 1) [.bool m3, .slice a3 l3 c3, .bool m4, .slice a4 l4 c4, .bool m5, .slice a5 l5 c5] 149 → (xc6 w' w.heap.size (.bool m0) (.slice a0 l0 c0) (.bool m1) (.slice a1 l1 c1) (.bool m2) (.slice a2 l2 c2) ∧ xc6 w' (w.heap.size + 1) (.bool m3) (.slice a3 l3 c3) (.bool m4) (.slice a4 l4 c4) (.bool m5) (.slice a5 l5 c5))) := fun w' ha hb => ⟨xk6 ha, xk6 hb⟩
 have qar : w.heap.size ≠ w.heap.size + 1 + 1 := by omega
 have qbr : w.heap.size + 1 ≠ w.heap.size + 1 + 1 := by omega
 go_region_held3 (fun w' => xc6 w' w.heap.size (.bool m0) (.slice a0 l0 c0) (.bool m1) (.slice a1 l1 c1) (.bool m2) (.slice a2 l2 c2) ∧ xc6 w' (w.heap.size + 1) (.bool m3) (.slice a3 l3 c3) (.bool m4) (.slice a4 l4 c4) (.bool m5) (.slice a5 l5 c5)) (first | with_reducible exact mkS.out _ ka kb | with_reducible exact mkS.out _ (Cel.other (Cel.other ka qar 0 _) qar 1 _) (Cel.other (Cel.other kb qbr 0 _) qbr 1 _) | exact mkS.out _ ka kb) (first | (go_at_call 59; go_fit (ntimes_any _ _ _ _ X Y' L L _ (by omega) (by omega) ?_ ?_); (first | exact nv0 | exact nv0.drew); (first | exact nv4 | exact nv4.drew); rintro e wn ⟨m6, v6, rfl, nv6, -, bn⟩; obtain ⟨a6, l6, c6, rfl⟩ := nv6.slice; replace ka := ka.below (un bn); replace kb := kb.below (un bn); replace kr := kr.below (un bn); (try replace nv0 := nv0.below (un bn)); (try replace nv1 := nv1.below (un bn)); (try replace nv3 := nv3.below (un bn)); (try replace nv4 := nv4.below (un bn)); (try replace nv7 := nv7.below (un bn)); replace bb := Below.after bb (un bn)) | (go_at_call 59; go_fit (ntimes_any _ _ _ _ Y X' L L _ (by omega) (by omega) ?_ ?_); (first | exact nv1 | exact nv1.drew); (first | exact nv3 | exact nv3.drew); rintro e wn ⟨m7, v7, rfl, nv7, -, bn⟩; obtain ⟨a7, l7, c7, rfl⟩ := nv7.slice; replace ka := ka.below (un bn); replace kb := kb.below (un bn); replace kr := kr.below (un bn); (try replace nv0 := nv0.below (un bn)); (try replace nv1 := nv1.below (un bn)); (try replace nv3 := nv3.below (un bn)); (try replace nv4 := nv4.below (un bn)); (try replace nv6 := nv6.below (un bn)); replace bb := Below.after bb (un bn)) | (go_at_call 144; go_fit (nminus_any _ _ _ _ (X * Y') (Y * X') (L + L) _ (by omega) ?_ ?_); (first | exact nv6 | exact nv6.drew); (first | exact nv7 | exact nv7.drew); rintro e wn ⟨m8, v8, rfl, nv8, bn⟩; obtain ⟨a8, l8, c8, rfl⟩ := nv8.slice; replace ka := ka.below (un bn); replace kb := kb.below (un bn); replace kr := kr.below (un bn); (try replace nv0 := nv0.below (un bn)); (try replace nv1 := nv1.below (un bn)); (try replace nv3 := nv3.below (un bn)); (try replace nv4 := nv4.below (un bn)); (try replace nv6 := nv6.below (un bn)); (try replace nv7 := nv7.below (un bn)); replace bb := Below.after bb (un bn); have er0 := cel2_0 kr; have fr0 := Cel.frozen kr 0; have er1 := cel2_1 kr; have fr1 := Cel.frozen kr 1))
 replace nv8 := shut nv8
 go_wp2
 exact post_n (p := 4) (by kernel_rfl) rfl rfl ((kr.set 0 _).set 1 _) ⟨_, _, rfl, nv8.out.set2 kr _ _, bset (bset bb (by omega) 0 _) (by omega) 1 _⟩
theorem shared_walk (a : Option Addr) (n cap : Nat) (N : Nat → Bool) (S D U G F E C E' : Nat → ByteArray) (X Y : Nat → Int) (Q : Int) (L : Nat) (w : World) (hn : n ≤ 1000) (hL : L ≤ 1000) (h : RdQ w a n N S D)
  (H0 : Hid (∀ w1, Calls Tryz.prog 54 #[.int .i64 1] w1 (Re w1 (.agg #[.bool false, .string (U 0)]))))
  (H1 : Hid (∀ (k : Nat) (w1 : World), k < n → Below w.heap.size w w1 → Calls Tryz.prog 55 #[.agg #[.bool false, .string (U k)], .agg #[.bool false, .string (D k)]] w1 (Re w1 (.tuple #[.agg #[.bool false, .string (G k)], .int .i64 0]))))
  (H2 : Hid (∀ (k : Nat) (w1 : World), k < n → Below w.heap.size w w1 → Calls Tryz.prog 56 #[.agg #[.bool false, .string (D k)], .agg #[.bool false, .string (G k)]] w1 (Re w1 (.tuple #[.agg #[.bool false, .string (F k)], .agg #[.bool false, .string (E k)], .int .i64 0]))))
  (H3 : Hid (∀ (k : Nat) (w1 : World), k < n → Below w.heap.size w w1 → Calls Tryz.prog 57 #[.agg #[.bool false, .string (U k)], .agg #[.bool false, .string (F k)]] w1 (Re w1 (.tuple #[.agg #[.bool false, .string (U (k + 1))], .int .i64 0]))))
  (H4 : Hid (∀ (k : Nat) (w1 : World), k < n → Below w.heap.size w w1 → Calls Tryz.prog 56 #[.agg #[.bool false, .string (U n)], .agg #[.bool false, .string (D k)]] w1 (Re w1 (.tuple #[.agg #[.bool false, .string (C k)], .agg #[.bool false, .string (E' k)], .int .i64 0]))))
  (H5 : Hid (∀ (k : Nat) (w1 : World), k < n → Below w.heap.size w w1 → Calls Tryz.prog 58 #[.agg #[.bool (N k), .string (S k)]] w1 fun e w' => ∃ v, e = .returned (.agg #[.bool (N k), v]) ∧ NV w' (N k) v (X k) L ∧ Below w1.heap.size w1 w'))
  (H6 : Hid (∀ (k : Nat) (w1 : World), k < n → Below w.heap.size w w1 → Calls Tryz.prog 58 #[.agg #[.bool false, .string (C k)]] w1 fun e w' => ∃ v, e = .returned (.agg #[.bool false, v]) ∧ NV w' false v (Y k) L ∧ Below w1.heap.size w1 w'))
  (H7 : Hid (∀ (w1 : World), Below w.heap.size w w1 → Calls Tryz.prog 58 #[.agg #[.bool false, .string (U n)]] w1 fun e w' => ∃ v, e = .returned (.agg #[.bool false, v]) ∧ NV w' false v Q L ∧ Below w1.heap.size w1 w')) :
  Calls Tryz.prog 34 #[.slice a n cap] w fun e w' => ∃ g m v a l c, w.heap.size ≤ g ∧ e = .returned (.tuple #[.slice (some ⟨g, 0, none⟩) n n, .agg #[.bool false, .slice a l c]]) ∧ Cells w' g 68 (n * 2) (fnn m v n) ∧ NVs w' m v (fun q => X q * Y q) (L + L) n ∧ NV w' false (.slice a l c) Q L ∧ Below w.heap.size w w' := by
 replace h := shut h
 go_enter Tryz.func34, Tryz.ntmps34
 go_wp2_with fail
 obtain ⟨w0, hw, kr, bb⟩ := mk1 w [.bool false, .slice none 0 0] 68
 rw [← hw]
 clear hw
 go_fit (H0.out _)
 rintro e w1 ⟨rfl, b1⟩
 have sz := b1.size
 replace kr := kr.below b1
 replace bb := Below.after bb b1
 clear b1
 go_wp2_with fail
 obtain ⟨w2, hw, kU, b1⟩ := mk1 w1 [.bool false, .string (U 0)] 24
 rw [← hw]
 clear hw
 have tr := kr.lt
 replace kr := kr.below b1
 replace bb := Below.after bb b1
 clear b1
 go_loopw [22] (fun i wr => Below w.heap.size w wr ∧ ∃ k : Nat, k ≤ n ∧ i = .int .i64 k ∧ Cel wr w1.heap.size [.bool false, .string (U k)] 24 ∧ Cel wr w.heap.size [.bool false, .slice none 0 0] 68) (fun i _ => n - (intOf i).toNat)
 case atStart => exact ⟨bb, 0, by omega, rfl, kU, kr⟩
 case round =>
  clear bb kU kr
  obtain ⟨bb, k, hk, rfl, kU, kr⟩ := hrel
  by_cases hkn : k < n
  ·obtain ⟨b, off, rfl, h0, h1, h2⟩ := h.out.below bb k hkn
   obtain ⟨u0, u1⟩ := xk2 ((kU.alloc (.cells #[.bool (N k), .string (S k), .string (D k)] 26)).alloc (.cells #[.bool false, .string (D k)] 24))
   go_wp2_with fail
   obtain ⟨w3, hw, k6, k7, b1⟩ := mk2 wr [.bool (N k), .string (S k), .string (D k)] [.bool false, .string (D k)] 26 24
   rw [← hw]
   clear hw u0 u1 h0 h1 h2
   replace kU := kU.below b1
   replace kr := kr.below b1
   replace bb := Below.after bb b1
   clear b1
   go_fit (H1.out k _ hkn bb)
   rintro e w4 ⟨rfl, b1⟩
   replace kU := kU.below b1
   replace kr := kr.below b1
   replace k7 := k7.below b1
   replace bb := Below.after bb b1
   clear b1
   obtain ⟨x0, x1⟩ := xk2 (k7.alloc (.cells #[.bool false, .string (G k)] 24))
   obtain ⟨y0, y1⟩ := xk2 (Cel.new w4 [.bool false, .string (G k)] 24)
   go_wp2_with fail
   obtain ⟨w5, hw, k8, b1⟩ := mk1 w4 [.bool false, .string (G k)] 24
   rw [← hw]
   clear hw x0 x1 y0 y1 k6
   replace kU := kU.below b1
   replace kr := kr.below b1
   replace bb := Below.after bb b1
   clear b1
   go_fit (H2.out k _ hkn bb)
   rintro e w6 ⟨rfl, b1⟩
   replace kU := kU.below b1
   replace kr := kr.below b1
   replace bb := Below.after bb b1
   clear b1
   obtain ⟨u0, u1⟩ := xk2 ((kU.alloc (.cells #[.bool false, .string (F k)] 24)).alloc (.cells #[.bool false, .string (E k)] 24))
   obtain ⟨y0, y1⟩ := xk2 ((Cel.new w6 [.bool false, .string (F k)] 24).alloc (.cells #[.bool false, .string (E k)] 24))
   go_wp2_with fail
   obtain ⟨w7, hw, k10, k11, b1⟩ := mk2 w6 [.bool false, .string (F k)] [.bool false, .string (E k)] 24 24
   rw [← hw]
   clear hw u0 u1 y0 y1 k7 k8
   replace kU := kU.below b1
   replace kr := kr.below b1
   replace bb := Below.after bb b1
   clear b1
   go_fit (H3.out k _ hkn bb)
   rintro e w8 ⟨rfl, b1⟩
   replace kU := kU.below b1
   replace kr := kr.below b1
   replace bb := Below.after bb b1
   clear b1
   clear k10 k11
   obtain ⟨u0, u1⟩ := xk2 kU
   have f0 := Cel.frozen kU 0
   have f1 := Cel.frozen kU 1
   go_wp2
   exact ⟨⟨bset (bset bb (by omega) 0 _) (by omega) 1 _, k + 1, by omega, by go_num, (kU.set 0 _).set 1 _, (kr.other (by omega) 0 _).other (by omega) 1 _⟩, by simp [intOf]; omega⟩
  ·obtain rfl : k = n := by omega
   clear hkn hk
   have tU := kU.lt
   have tr2 := kr.lt
   have sb := bb.size
   go_wp2_with (at_make; refine wpList_mkN rfl _ _ rfl _ k rfl rfl rfl (by omega) ?_; intro w3 kg b1)
   replace kU := kU.below b1
   replace kr := kr.below b1
   replace bb := Below.after bb b1
   clear b1
   generalize wr.heap.size = gO at *
   go_loopw [54] (fun i wx => Below w.heap.size w wx ∧ ∃ (j : Nat) (m : Nat → Bool) (v : Nat → Value), j ≤ k ∧ i = .int .i64 j ∧ Cells wx gO 68 (k * 2) (fnn m v j) ∧ NVs wx m v (fun q => X q * Y q) (L + L) j ∧ Cel wx w1.heap.size [.bool false, .string (U k)] 24 ∧ Cel wx w.heap.size [.bool false, .slice none 0 0] 68) (fun i _ => k - (intOf i).toNat)
   case atStart => exact ⟨bb, 0, _, _, by omega, rfl, kg, fun q hq => absurd hq (by omega), kU, kr⟩
   case round =>
    clear bb kU kr kg
    obtain ⟨bb, j, m, v, hj, rfl, kg, hv, kU, kr⟩ := hrel
    have tg := kg.lt
    by_cases hjn : j < k
    ·obtain ⟨b, off, rfl, h0, h1, h2⟩ := h.out.below bb j hjn
     obtain ⟨u0, u1⟩ := xk2 (kU.alloc (.cells #[.bool (N j), .string (S j), .string (D j)] 26))
     go_wp2_with fail
     obtain ⟨w4, hw, k15, b1⟩ := mk1 wr [.bool (N j), .string (S j), .string (D j)] 26
     rw [← hw]
     clear hw u0 u1 h0 h1 h2
     replace kU := kU.below b1
     replace kr := kr.below b1
     replace kg := kg.below b1
     replace hv := hv.below b1
     replace bb := Below.after bb b1
     clear b1
     go_fit (H4.out j _ hjn bb)
     rintro e w5 ⟨rfl, b1⟩
     replace kU := kU.below b1
     replace kr := kr.below b1
     replace kg := kg.below b1
     replace k15 := k15.below b1
     replace hv := hv.below b1
     replace bb := Below.after bb b1
     clear b1
     have tg5 := kg.lt
     go_wp2_with fail
     obtain ⟨w6, hw, k16, k17, b1⟩ := mk2 w5 [.bool false, .string (C j)] [.bool false, .string (E' j)] 24 24
     rw [← hw]
     clear hw
     replace kU := kU.below b1
     replace kr := kr.below b1
     replace kg := kg.below b1
     replace k15 := k15.below b1
     replace hv := hv.below b1
     replace bb := Below.after bb b1
     clear b1
     have t15 := k15.lt
     have t16 := k16.lt
     have ne15 : wr.heap.size ≠ gO := by omega
     have ne16 : w5.heap.size ≠ gO := by omega
     have bd := bdrew w6
     replace kU := kU.below bd
     replace kr := kr.below bd
     replace kg := kg.below bd
     replace k15 := k15.below bd
     replace k16 := k16.below bd
     replace hv := hv.below bd
     replace bb := Below.after bb bd
     clear bd
     refine wp_region_held_drew (S := fun w' => xc3 w' wr.heap.size (.bool (N j)) (.string (S j)) (.string (D j)) ∧ xc2 w' w5.heap.size (.bool false) (.string (C j))) (by kernel_rfl) ⟨xk3 k15, xk2 k16⟩ (fun hS => ?_)
     generalize w6.drew = wd at *
     refine WA.start (n := 10) (by kernel_rfl) ?_
     refine WA.tp 0 rfl ?_
     refine WA.tp 1 rfl ?_
     refine WA.tp 2 rfl ?_
     refine WA.tp 3 rfl ?_
     refine WA.tp 5 rfl ?_
     refine WA.cal 4 rfl (fun K hK => ?_)
     simp only [List.getElem_toArray, List.getElem_cons_succ, List.getElem_cons_zero]
     go_simp
     go_fit (H5.out j _ hjn bb)
     rintro e wn ⟨v1, rfl, n1, b1⟩
     obtain ⟨a1, l1, c1, rfl⟩ := n1.slice
     replace kU := kU.below b1
     replace kr := kr.below b1
     replace kg := kg.below b1
     replace k15 := k15.below b1
     replace k16 := k16.below b1
     replace hv := hv.below b1
     replace bb := Below.after bb b1
     clear b1
     try go_wp2_with fail
     clear hS
     refine hK.out _ _ ⟨xk3 k15, xk2 k16⟩ (fun hS => ?_)
     clear hK K
     refine WA.cal 6 rfl (fun K hK => ?_)
     simp only [List.getElem_toArray, List.getElem_cons_succ, List.getElem_cons_zero]
     go_simp
     go_fit (H6.out j _ hjn bb)
     rintro e wm ⟨v2, rfl, n2, b1⟩
     obtain ⟨a2, l2, c2, rfl⟩ := n2.slice
     replace kU := kU.below b1
     replace kr := kr.below b1
     replace kg := kg.below b1
     replace k15 := k15.below b1
     replace k16 := k16.below b1
     replace n1 := n1.below b1
     replace hv := hv.below b1
     replace bb := Below.after bb b1
     clear b1
     try go_wp2_with fail
     clear hS
     refine hK.out _ _ ⟨xk3 k15, xk2 k16⟩ (fun hS => ?_)
     clear hK K
     refine WA.cal 7 rfl (fun K hK => ?_)
     simp only [List.getElem_toArray, List.getElem_cons_succ, List.getElem_cons_zero]
     go_simp
     go_fit (ntimes_any _ _ _ _ (X j) (Y j) L L _ hL hL n1 n2)
     rintro e wp ⟨m3, v3, rfl, n3, -, b1⟩
     obtain ⟨a3, l3, c3, rfl⟩ := n3.slice
     replace kU := kU.below b1
     replace kr := kr.below b1
     replace kg := kg.below b1
     replace k15 := k15.below b1
     replace k16 := k16.below b1
     replace hv := hv.below b1
     replace bb := Below.after bb b1
     clear b1
     clear n1 n2
     try go_wp2_with fail
     clear hS
     refine hK.out _ _ ⟨xk3 k15, xk2 k16⟩ (fun hS => ?_)
     clear hK K
     have i1 : (j : Int) < (k : Int) := by omega
     have i2 : ¬ (j : Int) < 0 := by omega
     refine WA.tp 8 rfl ?_
     have q0 := kg.cell (i := j * 2) (by omega)
     have q1 := kg.cell (i := j * 2 + 1) (by omega)
     have f0 := kg.frozen (j * 2)
     have f1 := kg.frozen (j * 2 + 1)
     refine WA.cal 9 rfl (fun K hK => ?_)
     simp only [List.getElem_toArray, List.getElem_cons_succ, List.getElem_cons_zero]
     go_simp
     try go_wp2_with fail
     clear q0 q1 f0 f1
     refine hK.out _ _ ⟨xk3 ((k15.other ne15 _ _).other ne15 _ _), xk2 ((k16.other ne16 _ _).other ne16 _ _)⟩ (fun _ => ?_)
     clear hK K hS
     refine WA.done (by kernel_rfl) ?_
     go_wp2
     exact ⟨⟨bset (bset bb (by omega) _ _) (by omega) _ _, j + 1, _, _, by omega, by go_num, kg.fill _ _, hv.fill kg n3 _, (kU.other (by omega) _ _).other (by omega) _ _, (kr.other (by omega) _ _).other (by omega) _ _⟩, by simp [intOf]; omega⟩
    ·obtain rfl : j = k := by omega
     obtain ⟨u0, u1⟩ := xk2 kU
     go_wp2_with fail
     clear u0 u1
     go_fit (H7.out _ bb)
     rintro e w9 ⟨v9, rfl, n9, b1⟩
     obtain ⟨a9, l9, c9, rfl⟩ := n9.slice
     replace kr := kr.below b1
     replace kg := kg.below b1
     replace hv := hv.below b1
     replace bb := Below.after bb b1
     clear b1
     obtain ⟨e0, e1⟩ := xk2 kr
     have f0 := Cel.frozen kr 0
     have f1 := Cel.frozen kr 1
     go_wp2
     exact post_tn (p := 3) (u := 2) (by kernel_rfl) rfl rfl rfl ((kr.set 0 _).set 1 _) ⟨gO, m, v, a9, l9, c9, sb, rfl, (kg.other (by omega) 0 _).other (by omega) 1 _, fun q hq => ⟨(hv q hq).1.set2 kr _ _, (hv q hq).2⟩, n9.set2 kr _ _, bset (bset bb (by omega) 0 _) (by omega) 1 _⟩
def um (r : Nat → Rat) : Nat → Nat
 | 0 => 1
 | k + 1 => um r k * ((r k).den / Nat.gcd (um r k) (r k).den)
theorem um_pos (r : Nat → Rat) : ∀ k, 0 < um r k
 | 0 => Nat.one_pos
 | k + 1 => Nat.mul_pos (um_pos r k) (Nat.div_pos (Nat.le_of_dvd (r k).den_pos (Nat.gcd_dvd_right _ _)) (Nat.gcd_pos_of_pos_right _ (r k).den_pos))
theorem um_dvd (r : Nat → Rat) (k : Nat) : (r k).den ∣ um r (k + 1) := by
 obtain ⟨c, hc⟩ := Nat.gcd_dvd_left (um r k) (r k).den
 refine ⟨c, ?_⟩
 show um r k * ((r k).den / Nat.gcd (um r k) (r k).den) = _
 have e := Nat.div_mul_cancel (Nat.gcd_dvd_right (um r k) (r k).den)
 generalize (r k).den / Nat.gcd (um r k) (r k).den = q at *
 generalize Nat.gcd (um r k) (r k).den = g at *
 rw [hc, ← e, Nat.mul_assoc, Nat.mul_comm c q, ← Nat.mul_assoc, Nat.mul_comm g q]
theorem um_all (r : Nat → Rat) {j : Nat} : ∀ {n : Nat}, j < n → (r j).den ∣ um r n
 | 0, h => absurd h (by omega)
 | n + 1, h => by
  by_cases e : j = n
  ·subst e; exact um_dvd r j
  ·exact Nat.dvd_trans (um_all r (by omega : j < n)) (Nat.dvd_mul_right _ _)
theorem um_bd {r : Nat → Rat} {K : Nat} : ∀ {n : Nat}, (∀ k, k < n → Bq (r k) K) → Bd ((um r n : Nat) : Int) (K * n + 1)
 | 0, _ => by unfold Bd; show 1 < _; rw [Nat.mul_zero, Nat.zero_add]; decide
 | n + 1, h => by
  have h1 := um_bd (n := n) (fun k hk => h k (by omega))
  have h2 : Bd (((r n).den / Nat.gcd (um r n) (r n).den : Nat) : Int) K := (h n (by omega)).2.nat (Nat.div_le_self _ _)
  have := h1.mul h2
  show Bd ((um r n * ((r n).den / Nat.gcd (um r n) (r n).den) : Nat) : Int) _
  rw [Int.natCast_mul]
  exact this.mono (by rw [Nat.mul_add]; omega)
theorem okn (m : Nat) : OkZ false (strOf m) := by
 have := okZ_zI (m : Int)
 rwa [decide_eq_false (by omega), Int.natAbs_natCast] at this
theorem zon (m : Nat) : zOf false (strOf m) = (m : Int) := by
 have := zOf_zI (m : Int)
 rwa [decide_eq_false (by omega), Int.natAbs_natCast] at this
theorem zIn (m : Nat) : zI ((m : Nat) : Int) = .agg #[.bool false, .string (strOf m)] := by
 unfold zI zV
 simp
theorem szn {m K : Nat} (h : Bd ((m : Nat) : Int) K) : (strOf m).size ≤ K := by
 have := h.size
 simpa using this
theorem shared_any (a : Option Addr) (n cap : Nat) (r : Nat → Rat) {K : Nat} (hK : K ≤ 100) (hn : n ≤ 6) (w : World) (hT : Tab w) (h : RdQ w a n (fun k => nfZ (r k).num) (fun k => sfZ (r k).num) (fun k => strOf (r k).den)) (hb : ∀ k, k < n → Bq (r k) K) :
  Calls Tryz.prog 34 #[.slice a n cap] w fun e w' => ∃ g m v a' l c, w.heap.size ≤ g ∧ e = .returned (.tuple #[.slice (some ⟨g, 0, none⟩) n n, .agg #[.bool false, .slice a' l c]]) ∧ Cells w' g 68 (n * 2) (fnn m v n) ∧ NVs w' m v (fun q => (r q).num * ((um r n / (r q).den : Nat) : Int)) (80 + 80) n ∧ NV w' false (.slice a' l c) ((um r n : Nat) : Int) 80 ∧ Below w.heap.size w w' := by
 have bu : ∀ k, k ≤ n → Bd ((um r k : Nat) : Int) 601 := fun k hk => (um_bd (fun j hj => hb j (by omega))).mono (by have : K * k ≤ 100 * 6 := Nat.mul_le_mul hK (by omega); omega)
 have bd : ∀ k, k < n → Bd (((r k).den : Nat) : Int) 601 := fun k hk => (hb k hk).2.mono (by omega)
 have bnum : ∀ k, k < n → (sfZ (r k).num).size ≤ 601 := fun k hk => Nat.le_trans (bd_sf (hb k hk).1) (by omega)
 refine shared_walk a n cap _ _ _ (fun k => strOf (um r k)) (fun k => strOf (Nat.gcd (um r k) (r k).den)) (fun k => strOf ((r k).den / Nat.gcd (um r k) (r k).den)) (fun k => strOf ((r k).den % Nat.gcd (um r k) (r k).den)) (fun k => strOf (um r n / (r k).den)) (fun k => strOf (um r n % (r k).den)) (fun k => (r k).num) (fun k => ((um r n / (r k).den : Nat) : Int)) _ 80 w (by omega) (by omega) h ?_ ?_ ?_ ?_ ?_ ?_ ?_ ?_
 ·intro w1
  have := zof_any 1 (by omega) (by omega) w1
  rwa [show (1 : Int) = ((1 : Nat) : Int) from rfl, zIn] at this
 ·intro k w1 hk b
  have := zgcd_ok false false (strOf (um r k)) (strOf (r k).den) w1 (okn _) (okn _) (Nat.le_trans (szn (bu k (by omega))) (by omega)) (Nat.le_trans (szn (bd k hk)) (by omega)) (hT.below b)
  rwa [natOf_strOf, natOf_strOf, zIn] at this
 ·intro k w1 hk b
  have hg : Nat.gcd (um r k) (r k).den ≤ (r k).den := Nat.le_of_dvd (r k).den_pos (Nat.gcd_dvd_right _ _)
  have := zdiv_ok false false (strOf (r k).den) (strOf (Nat.gcd (um r k) (r k).den)) w1 (okn _) (okn _) (Nat.le_trans (szn (bd k hk)) (by omega)) (Nat.le_trans (szn ((bd k hk).nat hg)) (by omega)) (by rw [natOf_strOf]; exact Nat.gcd_pos_of_pos_right _ (r k).den_pos)
  rwa [zon, zon, ← Int.natCast_ediv, ← Int.natCast_emod, zIn, zIn] at this
 ·intro k w1 hk b
  have := zmul_ok false false (strOf (um r k)) (strOf ((r k).den / Nat.gcd (um r k) (r k).den)) w1 (okn _) (okn _) (Nat.le_trans (szn (bu k (by omega))) (by omega)) (Nat.le_trans (szn ((bd k hk).nat (Nat.div_le_self _ _))) (by omega))
  rwa [zon, zon, ← Int.natCast_mul, zIn] at this
 ·intro k w1 hk b
  have := zdiv_ok false false (strOf (um r n)) (strOf (r k).den) w1 (okn _) (okn _) (Nat.le_trans (szn (bu n (Nat.le_refl _))) (by omega)) (Nat.le_trans (szn (bd k hk)) (by omega)) (by rw [natOf_strOf]; exact (r k).den_pos)
  rwa [zon, zon, ← Int.natCast_ediv, ← Int.natCast_emod, zIn, zIn] at this
 ·intro k w1 hk b
  have := numOf_any (nfZ (r k).num) (sfZ (r k).num) w1 (Nat.le_trans (bnum k hk) (by omega)) (okZ_nz (r k).num).1 80 (natOf_lt8 80 (Nat.le_trans (bnum k hk) (by omega)))
  rwa [show sgn (nfZ (r k).num) (natOf (sfZ (r k).num)) = (r k).num from zOf_nz _] at this
 ·intro k w1 hk b
  have hz := szn ((bu n (Nat.le_refl _)).nat (Nat.div_le_self (um r n) (r k).den))
  have := numOf_any false (strOf (um r n / (r k).den)) w1 (Nat.le_trans hz (by omega)) (okn _).1 80 (natOf_lt8 80 (Nat.le_trans hz (by omega)))
  rwa [show sgn false (natOf (strOf (um r n / (r k).den))) = ((um r n / (r k).den : Nat) : Int) from zon _] at this
 ·intro w1 b
  have hz := szn (bu n (Nat.le_refl _))
  have := numOf_any false (strOf (um r n)) w1 (Nat.le_trans hz (by omega)) (okn _).1 80 (natOf_lt8 80 (Nat.le_trans hz (by omega)))
  rwa [show sgn false (natOf (strOf (um r n))) = ((um r n : Nat) : Int) from zon _] at this
theorem um_num (r : Nat → Rat) {j n : Nat} (h : j < n) : (((r j).num * ((um r n / (r j).den : Nat) : Int) : Int) : Rat) = ((um r n : Nat) : Rat) * r j := by
 obtain ⟨c, hc⟩ := um_all r h
 rw [hc, Nat.mul_div_cancel_left _ (r j).den_pos]
 have e := Rat.mkRat_self (r j)
 rw [Rat.mkRat_eq_div] at e
 have hd : ((r j).den : Rat) ≠ 0 := fun q => by
  have q' : ((r j).den : Rat) = ((0 : Nat) : Rat) := q
  rw [Rat.natCast_inj] at q'
  have := (r j).den_pos
  omega
 rw [Rat.div_def] at e
 have k := Rat.mul_inv_cancel _ hd
 push_cast
 generalize ((r j).den : Rat)⁻¹ = i at *
 generalize ((r j).den : Rat) = d at *
 generalize ((r j).num : Rat) = m at *
 generalize r j = x at *
 grind
theorem rorient_walk (n0 n1 n2 n3 n4 n5 n10 n11 n12 n13 n14 : Bool) (s0 d0 s1 d1 s2 d2 s3 d3 s4 d4 s5 d5 s10 d10 s11 d11 s12 d12 s13 d13 s14 d14 : ByteArray) (G : Int) (w : World)
  (H1 : Hid (∀ w1, Calls Tryz.prog 71 #[.agg #[.bool n2, .string s2, .string d2, .bool n3, .string s3, .string d3], .agg #[.bool n0, .string s0, .string d0, .bool n1, .string s1, .string d1]] w1 (Re w1 (.agg #[.bool n10, .string s10, .string d10, .bool n11, .string s11, .string d11]))))
  (H2 : Hid (∀ w1, Calls Tryz.prog 71 #[.agg #[.bool n4, .string s4, .string d4, .bool n5, .string s5, .string d5], .agg #[.bool n0, .string s0, .string d0, .bool n1, .string s1, .string d1]] w1 (Re w1 (.agg #[.bool n12, .string s12, .string d12, .bool n13, .string s13, .string d13]))))
  (H3 : Hid (∀ w1, Calls Tryz.prog 70 #[.agg #[.bool n10, .string s10, .string d10, .bool n11, .string s11, .string d11], .agg #[.bool n12, .string s12, .string d12, .bool n13, .string s13, .string d13]] w1 (Re w1 (.agg #[.bool n14, .string s14, .string d14]))))
  (H4 : Hid (∀ w1, Calls Tryz.prog 25 #[.agg #[.bool n14, .string s14, .string d14]] w1 (Re w1 (.int .i64 (G))))) :
  Calls Tryz.prog 44 #[.agg #[.bool n0, .string s0, .string d0, .bool n1, .string s1, .string d1], .agg #[.bool n2, .string s2, .string d2, .bool n3, .string s3, .string d3], .agg #[.bool n4, .string s4, .string d4, .bool n5, .string s5, .string d5]] w (Re w (.int .i64 (G))) := by
 go_enter Tryz.func44, Tryz.ntmps44
 go_wp2_with fail
 obtain ⟨w0, hw, ka, kb, kc, bb⟩ := mk3 w [.bool n0, .string s0, .string d0, .bool n1, .string s1, .string d1] [.bool n2, .string s2, .string d2, .bool n3, .string s3, .string d3] [.bool n4, .string s4, .string d4, .bool n5, .string s5, .string d5] 30 30 30
 rw [← hw]
 clear hw
 have mkS : Hid (∀ w', Cel w' (w.heap.size) [.bool n0, .string s0, .string d0, .bool n1, .string s1, .string d1] 30 → Cel w' (w.heap.size + 1) [.bool n2, .string s2, .string d2, .bool n3, .string s3, .string d3] 30 → Cel w' (w.heap.size + 1 + 1) [.bool n4, .string s4, .string d4, .bool n5, .string s5, .string d5] 30 → (xc6 w' w.heap.size (.bool n0) (.string s0) (.string d0) (.bool n1) (.string s1) (.string d1) ∧ xc6 w' (w.heap.size + 1) (.bool n2) (.string s2) (.string d2) (.bool n3) (.string s3) (.string d3) ∧ xc6 w' (w.heap.size + 1 + 1) (.bool n4) (.string s4) (.string d4) (.bool n5) (.string s5) (.string d5))) := fun w' ha hb hc => ⟨xk6 ha, xk6 hb, xk6 hc⟩
 go_region_held3 (fun w' => xc6 w' w.heap.size (.bool n0) (.string s0) (.string d0) (.bool n1) (.string s1) (.string d1) ∧ xc6 w' (w.heap.size + 1) (.bool n2) (.string s2) (.string d2) (.bool n3) (.string s3) (.string d3) ∧ xc6 w' (w.heap.size + 1 + 1) (.bool n4) (.string s4) (.string d4) (.bool n5) (.string s5) (.string d5)) (first | with_reducible exact mkS.out _ ka kb kc | exact mkS.out _ ka kb kc) (first | (go_at_call 71; go_fit (H1.out _); rintro e wn ⟨rfl, bn⟩; replace ka := ka.below (un bn); replace kb := kb.below (un bn); replace kc := kc.below (un bn); replace bb := Below.after bb (un bn)) | (go_at_call 71; go_fit (H2.out _); rintro e wn ⟨rfl, bn⟩; replace ka := ka.below (un bn); replace kb := kb.below (un bn); replace kc := kc.below (un bn); replace bb := Below.after bb (un bn)) | (go_at_call 70; go_fit (H3.out _); rintro e wn ⟨rfl, bn⟩; replace ka := ka.below (un bn); replace kb := kb.below (un bn); replace kc := kc.below (un bn); replace bb := Below.after bb (un bn)) | (go_at_call 25; go_fit (H4.out _); rintro e wn ⟨rfl, bn⟩; replace ka := ka.below (un bn); replace kb := kb.below (un bn); replace kc := kc.below (un bn); replace bb := Below.after bb (un bn)))
 go_wp2
 go_ret
 exact ⟨rfl, bb⟩
theorem Cells.row6 {w : World} {g : Nat} {t : TypeId} {m : Nat → Bool} {v : Nat → Value} (h : Cells w g t (6 * 2) (fnn m v 6)) : Cel w g [.bool (m 0), v 0, .bool (m 1), v 1, .bool (m 2), v 2, .bool (m 3), v 3, .bool (m 4), v 4, .bool (m 5), v 5] t := by
 obtain ⟨cs, h1, h2, h3⟩ := h
 have e : cs = #[.bool (m 0), v 0, .bool (m 1), v 1, .bool (m 2), v 2, .bool (m 3), v 3, .bool (m 4), v 4, .bool (m 5), v 5] := by
  apply Array.ext_getElem?
  intro i
  by_cases hi : i < 12
  ·rw [h3 i hi]
   match i, hi with
   | 0, _ => rfl
   | 1, _ => rfl
   | 2, _ => rfl
   | 3, _ => rfl
   | 4, _ => rfl
   | 5, _ => rfl
   | 6, _ => rfl
   | 7, _ => rfl
   | 8, _ => rfl
   | 9, _ => rfl
   | 10, _ => rfl
   | 11, _ => rfl
  ·rw [Array.getElem?_eq_none (by omega), Array.getElem?_eq_none (by simp; omega)]
 subst e
 exact h1
theorem pat_any (m : Nat → Bool) (v : Nat → Value) (uv xn yn tn : Bool) (ua xa ya ta : Option Addr) (ul uc xl xc yl yc tl tc : Nat) (Z : Nat → Int) (X Y T : Int) (La Lx g : Nat) (w : World) (hL : La + Lx + Lx + 10 ≤ 1000)
  (kg : Cells w g 68 (6 * 2) (fnn m v 6)) (hv : NVs w m v Z La 6) (nx : NV w xn (.slice xa xl xc) X Lx) (ny : NV w yn (.slice ya yl yc) Y Lx) (nt : NV w tn (.slice ta tl tc) T Lx) :
  Calls Tryz.prog 35 #[.agg #[.slice (some ⟨g, 0, none⟩) 6 6, .bool uv, .slice ua ul uc], .agg #[.bool xn, .slice xa xl xc], .agg #[.bool yn, .slice ya yl yc], .agg #[.bool tn, .slice ta tl tc]] w fun e w' => ∃ m a l c, e = .returned (.agg #[.bool m, .slice a l c]) ∧ NV w' m (.slice a l c) ((Z 0 * T + Z 1 * X + Z 2 * Y) * T + (Z 3 * X + Z 4 * Y) * X + Z 5 * Y * Y) (La + Lx + Lx + 4) ∧ Below w.heap.size w w' := by
 obtain ⟨n0, a0, l0, c0, e0⟩ := hv 0 (by omega)
 obtain ⟨n1, a1, l1, c1, e1⟩ := hv 1 (by omega)
 obtain ⟨n2, a2, l2, c2, e2⟩ := hv 2 (by omega)
 obtain ⟨n3, a3, l3, c3, e3⟩ := hv 3 (by omega)
 obtain ⟨n4, a4, l4, c4, e4⟩ := hv 4 (by omega)
 obtain ⟨n5, a5, l5, c5, e5⟩ := hv 5 (by omega)
 have k := kg.row6
 rw [e0, e1, e2, e3, e4, e5] at k
 rw [e0] at n0
 rw [e1] at n1
 rw [e2] at n2
 rw [e3] at n3
 rw [e4] at n4
 rw [e5] at n5
 exact at_walk _ _ _ _ _ _ _ _ _ _ _ _ _ _ _ _ _ _ _ _ _ _ _ _ uv xn yn tn ua xa ya ta ul uc xl xc yl yc tl tc _ _ _ _ _ _ X Y T La Lx g w hL k n0 n1 n2 n3 n4 n5 nx ny nt
theorem psmall_walk (n : Int) (f : Bool) (s : ByteArray) (L : Nat) (w : World)
  (H0 : Hid (∀ w1, Calls Tryz.prog 54 #[.int .i64 n] w1 (Re w1 (.agg #[.bool f, .string s]))))
  (H1 : Hid (∀ w1, Calls Tryz.prog 58 #[.agg #[.bool f, .string s]] w1 fun e w' => ∃ v, e = .returned (.agg #[.bool f, v]) ∧ NV w' f v n L ∧ Below w1.heap.size w1 w')) :
  Calls Tryz.prog 109 #[.int .i64 n] w fun e w' => ∃ a l c, e = .returned (.agg #[.bool f, .slice a l c]) ∧ NV w' f (.slice a l c) n L ∧ Below w.heap.size w w' := by
 go_enter Tryz.func109, Tryz.ntmps109
 go_wp2_with fail
 obtain ⟨w0, hw, kr, bb⟩ := mk1 w [.bool false, .slice none 0 0] 68
 rw [← hw]
 clear hw
 go_fit (H0.out _)
 rintro e w1 ⟨rfl, b1⟩
 replace kr := kr.below b1
 replace bb := Below.after bb b1
 clear b1
 go_wp2_with fail
 go_fit (H1.out _)
 rintro e w2 ⟨v, rfl, n1, b1⟩
 obtain ⟨a, l, c, rfl⟩ := n1.slice
 replace kr := kr.below b1
 replace bb := Below.after bb b1
 clear b1
 obtain ⟨e0, e1⟩ := xk2 kr
 have f0 := Cel.frozen kr 0
 have f1 := Cel.frozen kr 1
 go_wp2
 exact post_n (p := 2) (by kernel_rfl) rfl rfl ((kr.set 0 _).set 1 _) ⟨_, _, _, rfl, n1.set2 kr _ _, bset (bset bb (by omega) 0 _) (by omega) 1 _⟩
theorem psmall_any (n : Int) (h1 : -1000000 ≤ n) (h2 : n ≤ 1000000) (w : World) :
  Calls Tryz.prog 109 #[.int .i64 n] w fun e w' => ∃ a l c, e = .returned (.agg #[.bool (nfZ n), .slice a l c]) ∧ NV w' (nfZ n) (.slice a l c) n 1 ∧ Below w.heap.size w w' := by
 have hz : natOf (sfZ n) < B64 ^ 1 := by
  rw [natOf_sfZ, Nat.pow_one]
  exact Nat.lt_of_le_of_lt (show n.natAbs ≤ 1000000 by omega) (by decide)
 have hs : (sfZ n).size ≤ 8 := bd_sf (K := 8) (show n.natAbs < 256 ^ 8 by omega)
 refine psmall_walk n (nfZ n) (sfZ n) 1 w ?_ ?_
 ·exact fun w1 => zof_any n (by omega) (by omega) w1
 ·intro w1
  have := numOf_any (nfZ n) (sfZ n) w1 (by omega) (okZ_nz n).1 1 hz
  rwa [show sgn (nfZ n) (natOf (sfZ n)) = n from zOf_nz _] at this
end Go.Proofs.YtbafjmjcepcckaaGreatDoor
