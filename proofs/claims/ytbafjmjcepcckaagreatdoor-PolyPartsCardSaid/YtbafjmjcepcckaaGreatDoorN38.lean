/-
  Package span: the way from one point to another.
  Package span: the way from one point to another, walked.
  Package span: products of ways.
  Package span: Over of any row of numbers.
  gussetref04: Plus, Minus, Dot, Cross, Norm2, walked.
  Package cons: far2, walked.
  How long the numbers of a crossing are; what signs tell.
  Package span: points that may be asked; how they turn, and where one lies.
  Package span: Shared of any numbers.
-/
import Derived.Test.YtbafjmjcepcckaaGreatDoorN37
set_option maxRecDepth 100000
set_option maxHeartbeats 8000000
namespace Go.Proofs.YtbafjmjcepcckaaGreatDoor
open Go.RowKit
theorem nsame_nv (v v' : Value) (U V : Int) (L : Nat) (w : World) (hL : L ≤ 1000) (h : NV w false v U L) (h' : NV w false v' V L) :
  Calls Tryz.prog 143 #[.agg #[.bool false, v], .agg #[.bool false, v']] w (Re w (.bool (decide (U = V)))) := by
 obtain ⟨k, r, hk, rfl⟩ := h
 obtain ⟨k', r', hk', rfl⟩ := h'
 have := nsame_any false false v v' k k' L w r r' hL hk hk'
 have e : decide (sgn false k = sgn false k') = decide (k = k') := by
  simp only [sgn, Bool.false_eq_true, if_false]
  by_cases h : k = k'
  ·rw [decide_eq_true h, decide_eq_true (by omega)]
  ·rw [decide_eq_false h, decide_eq_false (by omega)]
 rw [e]
 exact this
theorem post_s {fn : Func} {p : Tmp} {R : Ending → World → Prop} {a : Act} {w : World} {g : Nat} {x0 x1 x2 x3 x4 x5 : Value} (h : fn.results = #[.cell p 149]) (hp : a.tmps.getD p undef = .pointer (some ⟨g, 0, none⟩)) (hd : a.defers = [])
  (hc : Cel w g [x0, x1, x2, x3, x4, x5] 149) (hR : R (.returned (.agg #[x0, x1, x2, x3, x4, x5])) w) : bodyPost Tryz.prog fn R .ret a w := by
 refine ⟨hd, .agg #[x0, x1, x2, x3, x4, x5], ?_, hR⟩
 exact results_cell_row (P := Tryz.prog) h _ w g 149 #[x0, x1, x2, x3, x4, x5] (0, 0) _ hp hc Tryz.underlying149 rfl (by kernel_rfl)
theorem less_any (n0 n1 : Bool) (s0 d0 s1 d1 : ByteArray) (w : World) (o0 : OkQ n0 s0 d0) (o1 : OkQ n1 s1 d1) (z0 : s0.size ≤ 100 ∧ d0.size ≤ 100) (z1 : s1.size ≤ 100 ∧ d1.size ≤ 100) :
  Calls Tryz.prog 142 #[.agg #[.bool n0, .string s0, .string d0], .agg #[.bool n1, .string s1, .string d1]] w fun e w' => ∃ m a l c a' l' c' X U, e = .returned (.tuple #[.agg #[.bool m, .slice a l c], .agg #[.bool false, .slice a' l' c']]) ∧ NV w' m (.slice a l c) X 27 ∧ NV w' false (.slice a' l' c') U 26 ∧ 0 < U ∧ (X : Rat) = (U : Rat) * (qOf n0 s0 d0 - qOf n1 s1 d1) ∧ Below w.heap.size w w' := by
 have H1 : Hid (∀ w1, Calls Tryz.prog 58 #[.agg #[.bool n0, .string s0]] w1 fun e w' => ∃ v, e = .returned (.agg #[.bool n0, v]) ∧ NV w' n0 v (zOf n0 s0) 13 ∧ Below w1.heap.size w1 w') := fun w1 => numOf_any n0 s0 w1 (by omega) o0.1.1 13 (natOf_lt8 13 (by omega))
 have H2 : Hid (∀ w1, Calls Tryz.prog 58 #[.agg #[.bool n1, .string s1]] w1 fun e w' => ∃ v, e = .returned (.agg #[.bool n1, v]) ∧ NV w' n1 v (zOf n1 s1) 13 ∧ Below w1.heap.size w1 w') := fun w1 => numOf_any n1 s1 w1 (by omega) o1.1.1 13 (natOf_lt8 13 (by omega))
 have H3 : Hid (∀ w1, Calls Tryz.prog 58 #[.agg #[.bool false, .string d0]] w1 fun e w' => ∃ v, e = .returned (.agg #[.bool false, v]) ∧ NV w' false v (natOf d0 : Int) 13 ∧ Below w1.heap.size w1 w') := fun w1 => numOf_any false d0 w1 (by omega) o0.2.1 13 (natOf_lt8 13 (by omega))
 have H4 : Hid (∀ w1, Calls Tryz.prog 58 #[.agg #[.bool false, .string d1]] w1 fun e w' => ∃ v, e = .returned (.agg #[.bool false, v]) ∧ NV w' false v (natOf d1 : Int) 13 ∧ Below w1.heap.size w1 w') := fun w1 => numOf_any false d1 w1 (by omega) o1.2.1 13 (natOf_lt8 13 (by omega))
 have q0 : qOf n0 s0 d0 = (zOf n0 s0 : Rat) / (natOf d0 : Rat) := by unfold qOf; rw [Rat.mkRat_eq_div]
 have q1 : qOf n1 s1 d1 = (zOf n1 s1 : Rat) / (natOf d1 : Rat) := by unfold qOf; rw [Rat.mkRat_eq_div]
 have p0 : (0 : Int) < (natOf d0 : Int) := by have := o0.2.2.1; omega
 have p1 : (0 : Int) < (natOf d1 : Int) := by have := o1.2.2.1; omega
 have r0 : ((natOf d0 : Int) : Rat) ≠ 0 := by
  intro h
  have : (natOf d0 : Int) = 0 := by exact_mod_cast h
  omega
 have r1 : ((natOf d1 : Int) : Rat) ≠ 0 := by
  intro h
  have : (natOf d1 : Int) = 0 := by exact_mod_cast h
  omega
 rw [q0, q1]
 cases hd : (d0.toList == d1.toList)
 ·refine (less_ne n0 n1 s0 d0 s1 d1 _ _ _ _ 13 w (by omega) H1 H2 H3 H4 hd).mono ?_
  rintro e w' ⟨m, a, l, c, a', l', c', rfl, h1, h2, h3⟩
  refine ⟨m, a, l, c, a', l', c', _, _, rfl, h1, h2, Int.mul_pos p0 p1, ?_, h3⟩
  simp only [Rat.intCast_sub, Rat.intCast_mul]
  rw [show ((natOf d0 : Nat) : Rat) = ((natOf d0 : Int) : Rat) from rfl, show ((natOf d1 : Nat) : Rat) = ((natOf d1 : Int) : Rat) from rfl]
  grind
 ·have hdd : d0 = d1 := by
   have : d0.toList = d1.toList := by simpa using hd
   have h2 : d0.data = d1.data := by
    rw [ByteArray.toList_eq, ByteArray.toList_eq] at this
    exact Array.toList_inj.1 this
   cases d0; cases d1; simp_all
  refine (less_eq n0 n1 s0 d0 s1 d1 _ _ _ 13 w (by omega) H1 H2 H3 hd).mono ?_
  rintro e w' ⟨m, a, l, c, a', l', c', rfl, h1, h2, h3⟩
  refine ⟨m, a, l, c, a', l', c', _, _, rfl, h1.mono (by omega), h2.mono (by omega), p0, ?_, h3⟩
  rw [← hdd]
  simp only [Rat.intCast_sub]
  rw [show ((natOf d0 : Nat) : Rat) = ((natOf d0 : Int) : Rat) from rfl]
  grind
open Go.RowKit
theorem sof_walk (n0 n1 n2 n3 : Bool) (s0 d0 s1 d1 s2 d2 s3 d3 : ByteArray) (x y : Rat) (w : World)
  (H1 : Hid (∀ w1, Calls Tryz.prog 142 #[.agg #[.bool n2, .string s2, .string d2], .agg #[.bool n0, .string s0, .string d0]] w1 fun e w' => ∃ m a l c a' l' c' X U, e = .returned (.tuple #[.agg #[.bool m, .slice a l c], .agg #[.bool false, .slice a' l' c']]) ∧ NV w' m (.slice a l c) X 27 ∧ NV w' false (.slice a' l' c') U 26 ∧ 0 < U ∧ (X : Rat) = (U : Rat) * x ∧ Below w1.heap.size w1 w'))
  (H2 : Hid (∀ w1, Calls Tryz.prog 142 #[.agg #[.bool n3, .string s3, .string d3], .agg #[.bool n1, .string s1, .string d1]] w1 fun e w' => ∃ m a l c a' l' c' X U, e = .returned (.tuple #[.agg #[.bool m, .slice a l c], .agg #[.bool false, .slice a' l' c']]) ∧ NV w' m (.slice a l c) X 27 ∧ NV w' false (.slice a' l' c') U 26 ∧ 0 < U ∧ (X : Rat) = (U : Rat) * y ∧ Below w1.heap.size w1 w')) :
  Calls Tryz.prog 107 #[.agg #[.bool n0, .string s0, .string d0, .bool n1, .string s1, .string d1], .agg #[.bool n2, .string s2, .string d2, .bool n3, .string s3, .string d3]] w fun e w' => ∃ m0 a0 l0 c0 m1 a1 l1 c1 a2 l2 c2 X Y U, e = .returned (.agg #[.bool m0, .slice a0 l0 c0, .bool m1, .slice a1 l1 c1, .bool false, .slice a2 l2 c2]) ∧ NV w' m0 (.slice a0 l0 c0) X 53 ∧ NV w' m1 (.slice a1 l1 c1) Y 53 ∧ NV w' false (.slice a2 l2 c2) U 52 ∧ Gm.Way X Y U x y ∧ Below w.heap.size w w' := by
 go_enter Tryz.func107, Tryz.ntmps107
 go_wp2_with fail
 obtain ⟨w0, hw, ka, kb, kr, bb⟩ := mk3 w [.bool n0, .string s0, .string d0, .bool n1, .string s1, .string d1] [.bool n2, .string s2, .string d2, .bool n3, .string s3, .string d3] [.bool false, .slice none 0 0, .bool false, .slice none 0 0, .bool false, .slice none 0 0] 30 30 149
 rw [← hw]
 clear hw
 have tr := kr.lt
 go_fit (H1.out _)
 rintro e w1 ⟨m1, a1, l1, c1, a2, l2, c2, X, U, rfl, nv1, nv2, hU, hX, b1⟩
 replace ka := ka.below b1
 replace kb := kb.below b1
 replace kr := kr.below b1
 replace bb := Below.after bb b1
 have sq0 := b1.size
 clear b1
 replace hX := shut hX
 replace hU := shut hU
 have ca3 := cel6_3 ((ka.alloc (.cells #[.bool m1, .slice a1 l1 c1] 68)).alloc (.cells #[.bool false, .slice a2 l2 c2] 68))
 have ca4 := cel6_4 ((ka.alloc (.cells #[.bool m1, .slice a1 l1 c1] 68)).alloc (.cells #[.bool false, .slice a2 l2 c2] 68))
 have ca5 := cel6_5 ((ka.alloc (.cells #[.bool m1, .slice a1 l1 c1] 68)).alloc (.cells #[.bool false, .slice a2 l2 c2] 68))
 have cb3 := cel6_3 ((kb.alloc (.cells #[.bool m1, .slice a1 l1 c1] 68)).alloc (.cells #[.bool false, .slice a2 l2 c2] 68))
 have cb4 := cel6_4 ((kb.alloc (.cells #[.bool m1, .slice a1 l1 c1] 68)).alloc (.cells #[.bool false, .slice a2 l2 c2] 68))
 have cb5 := cel6_5 ((kb.alloc (.cells #[.bool m1, .slice a1 l1 c1] 68)).alloc (.cells #[.bool false, .slice a2 l2 c2] 68))
 go_wp2_with fail
 obtain ⟨w2, hw, kx, kv, b1⟩ := mk2 w1 [.bool m1, .slice a1 l1 c1] [.bool false, .slice a2 l2 c2] 68 68
 rw [← hw]
 clear hw ca3 ca4 ca5 cb3 cb4 cb5
 replace ka := ka.below b1
 replace kb := kb.below b1
 replace kr := kr.below b1
 replace nv1 := nv1.below b1
 replace nv2 := nv2.below b1
 replace bb := Below.after bb b1
 have sq1 := b1.size
 clear b1
 have tx := kx.lt
 have tv := kv.lt
 go_fit (H2.out _)
 rintro e w3 ⟨m3, a3, l3, c3, a4, l4, c4, Y, V, rfl, nv3, nv4, hV, hY, b1⟩
 replace kr := kr.below b1
 replace kx := kx.below b1
 replace kv := kv.below b1
 replace nv1 := nv1.below b1
 replace nv2 := nv2.below b1
 replace bb := Below.after bb b1
 have sq2 := b1.size
 clear b1
 replace hY := shut hY
 replace hV := shut hV
 obtain ⟨cv0, cv1⟩ := xk2 ((kv.alloc (.cells #[.bool m3, .slice a3 l3 c3] 68)).alloc (.cells #[.bool false, .slice a4 l4 c4] 68))
 go_wp2_with fail
 obtain ⟨w4, hw, ky, ku, b1⟩ := mk2 w3 [.bool m3, .slice a3 l3 c3] [.bool false, .slice a4 l4 c4] 68 68
 rw [← hw]
 clear hw cv0 cv1
 replace kr := kr.below b1
 replace kx := kx.below b1
 replace kv := kv.below b1
 replace nv1 := nv1.below b1
 replace nv2 := nv2.below b1
 replace nv3 := nv3.below b1
 replace nv4 := nv4.below b1
 replace bb := Below.after bb b1
 have sq3 := b1.size
 clear b1
 have ty := ky.lt
 have tu := ku.lt
 go_fit (nsame_nv _ _ U V 26 _ (by omega) nv2 nv4)
 rintro e w5 ⟨rfl, b1⟩
 replace kr := kr.below b1
 replace kx := kx.below b1
 replace ky := ky.below b1
 replace kv := kv.below b1
 replace ku := ku.below b1
 replace nv1 := nv1.below b1
 replace nv2 := nv2.below b1
 replace nv3 := nv3.below b1
 replace nv4 := nv4.below b1
 replace bb := Below.after bb b1
 have sq4 := b1.size
 clear b1
 by_cases hs : U = V
 ·have hd := decide_eq_true hs
  rw [hd]
  clear hd
  obtain ⟨cx0, cx1⟩ := xk2 kx
  obtain ⟨cy0, cy1⟩ := xk2 ky
  obtain ⟨cv0, cv1⟩ := xk2 kv
  have e0 := cel6_0 kr
  have f0 := Cel.frozen kr 0
  have e1 := cel6_1 kr
  have f1 := Cel.frozen kr 1
  have e2 := cel6_2 kr
  have f2 := Cel.frozen kr 2
  have e3 := cel6_3 kr
  have f3 := Cel.frozen kr 3
  have e4 := cel6_4 kr
  have f4 := Cel.frozen kr 4
  have e5 := cel6_5 kr
  have f5 := Cel.frozen kr 5
  replace nv1 := shut nv1
  replace nv2 := shut nv2
  replace nv3 := shut nv3
  go_wp2
  exact post_s (p := 4) (by kernel_rfl) rfl rfl ((((((kr.set 0 _).set 1 _).set 2 _).set 3 _).set 4 _).set 5 _) ⟨_, _, _, _, _, _, _, _, _, _, _, _, _, _, rfl, (nv1.out.mono (by omega)).set6 kr _ _ _ _ _ _, (nv3.out.mono (by omega)).set6 kr _ _ _ _ _ _, (nv2.out.mono (by omega)).set6 kr _ _ _ _ _ _, ⟨hU.out, hX.out, by rw [hs]; exact hY.out⟩, bset (bset (bset (bset (bset (bset bb (by omega) 0 _) (by omega) 1 _) (by omega) 2 _) (by omega) 3 _) (by omega) 4 _) (by omega) 5 _⟩
 ·have hd := decide_eq_false hs
  rw [hd]
  clear hd
  go_wp2_with fail
  have mkS : Hid (∀ w', Cel w' (w1.heap.size) [.bool m1, .slice a1 l1 c1] 68 → Cel w' (w1.heap.size + 1) [.bool false, .slice a2 l2 c2] 68 → Cel w' (w3.heap.size) [.bool m3, .slice a3 l3 c3] 68 → Cel w' (w3.heap.size + 1) [.bool false, .slice a4 l4 c4] 68 → (xc2 w' w1.heap.size (.bool m1) (.slice a1 l1 c1) ∧ xc2 w' (w1.heap.size + 1) (.bool false) (.slice a2 l2 c2) ∧ xc2 w' w3.heap.size (.bool m3) (.slice a3 l3 c3) ∧ xc2 w' (w3.heap.size + 1) (.bool false) (.slice a4 l4 c4))) := fun w' hx hv hy hu => ⟨xk2 hx, xk2 hv, xk2 hy, xk2 hu⟩
  have qxr : w1.heap.size ≠ w.heap.size + 1 + 1 := by omega
  have qvr : w1.heap.size + 1 ≠ w.heap.size + 1 + 1 := by omega
  have qyr : w3.heap.size ≠ w.heap.size + 1 + 1 := by omega
  have qur : w3.heap.size + 1 ≠ w.heap.size + 1 + 1 := by omega
  go_region_held3 (fun w' => xc2 w' w1.heap.size (.bool m1) (.slice a1 l1 c1) ∧ xc2 w' (w1.heap.size + 1) (.bool false) (.slice a2 l2 c2) ∧ xc2 w' w3.heap.size (.bool m3) (.slice a3 l3 c3) ∧ xc2 w' (w3.heap.size + 1) (.bool false) (.slice a4 l4 c4)) (first | with_reducible exact mkS.out _ kx kv ky ku | with_reducible exact mkS.out _ (Cel.other (Cel.other (Cel.other (Cel.other (Cel.other (Cel.other kx qxr 0 _) qxr 1 _) qxr 2 _) qxr 3 _) qxr 4 _) qxr 5 _) (Cel.other (Cel.other (Cel.other (Cel.other (Cel.other (Cel.other kv qvr 0 _) qvr 1 _) qvr 2 _) qvr 3 _) qvr 4 _) qvr 5 _) (Cel.other (Cel.other (Cel.other (Cel.other (Cel.other (Cel.other ky qyr 0 _) qyr 1 _) qyr 2 _) qyr 3 _) qyr 4 _) qyr 5 _) (Cel.other (Cel.other (Cel.other (Cel.other (Cel.other (Cel.other ku qur 0 _) qur 1 _) qur 2 _) qur 3 _) qur 4 _) qur 5 _) | exact mkS.out _ kx kv ky ku) (first | (go_at_call 59; go_fit (ntimes_any _ _ _ _ X V 27 26 _ (by omega) (by omega) ?_ ?_); (first | exact nv1 | exact nv1.drew); (first | exact nv4 | exact nv4.drew); rintro e wn ⟨m5, v5, rfl, nv5, -, bn⟩; obtain ⟨a5, l5, c5, rfl⟩ := nv5.slice; replace kr := kr.below (un bn); replace kx := kx.below (un bn); replace ky := ky.below (un bn); replace kv := kv.below (un bn); replace ku := ku.below (un bn); (try replace nv1 := nv1.below (un bn)); (try replace nv2 := nv2.below (un bn)); (try replace nv3 := nv3.below (un bn)); (try replace nv4 := nv4.below (un bn)); (try replace nv6 := nv6.below (un bn)); replace bb := Below.after bb (un bn)) | (go_at_call 59; go_fit (ntimes_any _ _ _ _ Y U 27 26 _ (by omega) (by omega) ?_ ?_); (first | exact nv3 | exact nv3.drew); (first | exact nv2 | exact nv2.drew); rintro e wn ⟨m6, v6, rfl, nv6, -, bn⟩; obtain ⟨a6, l6, c6, rfl⟩ := nv6.slice; replace kr := kr.below (un bn); replace kx := kx.below (un bn); replace ky := ky.below (un bn); replace kv := kv.below (un bn); replace ku := ku.below (un bn); (try replace nv1 := nv1.below (un bn)); (try replace nv2 := nv2.below (un bn)); (try replace nv3 := nv3.below (un bn)); (try replace nv4 := nv4.below (un bn)); (try replace nv5 := nv5.below (un bn)); replace bb := Below.after bb (un bn)) | (go_at_call 59; go_fit (ntimes_any _ _ _ _ U V 26 26 _ (by omega) (by omega) ?_ ?_); (first | exact nv2 | exact nv2.drew); (first | exact nv4 | exact nv4.drew); rintro e wn ⟨m7, v7, rfl, nv7, hm7, bn⟩; obtain ⟨a7, l7, c7, rfl⟩ := nv7.slice; replace kr := kr.below (un bn); replace kx := kx.below (un bn); replace ky := ky.below (un bn); replace kv := kv.below (un bn); replace ku := ku.below (un bn); (try replace nv1 := nv1.below (un bn)); (try replace nv2 := nv2.below (un bn)); (try replace nv3 := nv3.below (un bn)); (try replace nv4 := nv4.below (un bn)); (try replace nv5 := nv5.below (un bn)); (try replace nv6 := nv6.below (un bn)); replace bb := Below.after bb (un bn); have er0 := cel6_0 kr; have fr0 := Cel.frozen kr 0; have er1 := cel6_1 kr; have fr1 := Cel.frozen kr 1; have er2 := cel6_2 kr; have fr2 := Cel.frozen kr 2; have er3 := cel6_3 kr; have fr3 := Cel.frozen kr 3; have er4 := cel6_4 kr; have fr4 := Cel.frozen kr 4; have er5 := cel6_5 kr; have fr5 := Cel.frozen kr 5))
  obtain rfl := hm7 trivial trivial
  clear hm7
  replace nv5 := shut nv5
  replace nv6 := shut nv6
  replace nv7 := shut nv7
  go_wp2
  refine post_s (p := 4) (by kernel_rfl) rfl rfl ((((((kr.set 0 _).set 1 _).set 2 _).set 3 _).set 4 _).set 5 _) ⟨_, _, _, _, _, _, _, _, _, _, _, _, _, _, rfl, nv5.out.set6 kr _ _ _ _ _ _, nv6.out.set6 kr _ _ _ _ _ _, nv7.out.set6 kr _ _ _ _ _ _, ⟨Int.mul_pos hU.out hV.out, ?_, ?_⟩, bset (bset (bset (bset (bset (bset bb (by omega) 0 _) (by omega) 1 _) (by omega) 2 _) (by omega) 3 _) (by omega) 4 _) (by omega) 5 _⟩
  ·rw [Rat.intCast_mul, Rat.intCast_mul, hX.out]; grind
  ·rw [Rat.intCast_mul, Rat.intCast_mul, hY.out]; grind
open Go.RowKit
theorem sof_any (n0 n1 n2 n3 : Bool) (s0 d0 s1 d1 s2 d2 s3 d3 : ByteArray) (w : World) (o0 : OkQ n0 s0 d0) (o1 : OkQ n1 s1 d1) (o2 : OkQ n2 s2 d2) (o3 : OkQ n3 s3 d3) (z0 : s0.size ≤ 100 ∧ d0.size ≤ 100) (z1 : s1.size ≤ 100 ∧ d1.size ≤ 100) (z2 : s2.size ≤ 100 ∧ d2.size ≤ 100) (z3 : s3.size ≤ 100 ∧ d3.size ≤ 100) :
  Calls Tryz.prog 107 #[.agg #[.bool n0, .string s0, .string d0, .bool n1, .string s1, .string d1], .agg #[.bool n2, .string s2, .string d2, .bool n3, .string s3, .string d3]] w fun e w' => ∃ m0 a0 l0 c0 m1 a1 l1 c1 a2 l2 c2 X Y U, e = .returned (.agg #[.bool m0, .slice a0 l0 c0, .bool m1, .slice a1 l1 c1, .bool false, .slice a2 l2 c2]) ∧ NV w' m0 (.slice a0 l0 c0) X 53 ∧ NV w' m1 (.slice a1 l1 c1) Y 53 ∧ NV w' false (.slice a2 l2 c2) U 52 ∧ Gm.Way X Y U (qOf n2 s2 d2 - qOf n0 s0 d0) (qOf n3 s3 d3 - qOf n1 s1 d1) ∧ Below w.heap.size w w' :=
 sof_walk n0 n1 n2 n3 s0 d0 s1 d1 s2 d2 s3 d3 _ _ w (fun w1 => less_any n2 n0 s2 d2 s0 d0 w1 o2 o0 z2 z0) (fun w1 => less_any n3 n1 s3 d3 s1 d1 w1 o3 o1 z3 z1)
theorem scross_any (m0 m1 m2 m3 m4 m5 : Bool) (a0 a1 a2 a3 a4 a5 : Option Addr) (l0 c0 l1 c1 l2 c2 l3 c3 l4 c4 l5 c5 : Nat) (X Y X' Y' : Int) (L : Nat) (w : World) (hL : L ≤ 200) (nv0 : NV w m0 (.slice a0 l0 c0) X L) (nv1 : NV w m1 (.slice a1 l1 c1) Y L) (nv3 : NV w m3 (.slice a3 l3 c3) X' L) (nv4 : NV w m4 (.slice a4 l4 c4) Y' L) :
  Calls Tryz.prog 108 #[.agg #[.bool m0, .slice a0 l0 c0, .bool m1, .slice a1 l1 c1, .bool m2, .slice a2 l2 c2], .agg #[.bool m3, .slice a3 l3 c3, .bool m4, .slice a4 l4 c4, .bool m5, .slice a5 l5 c5]] w fun e w' => ∃ m u, e = .returned (.agg #[.bool m, u]) ∧ NV w' m u (X * Y' - Y * X') (L + L + 1) ∧ Below w.heap.size w w' := by
 go_enter Tryz.func108, Tryz.ntmps108
 go_wp2_with fail
 obtain ⟨w0, hw, ka, kb, kr, bb⟩ := mk3 w [.bool m0, .slice a0 l0 c0, .bool m1, .slice a1 l1 c1, .bool m2, .slice a2 l2 c2] [.bool m3, .slice a3 l3 c3, .bool m4, .slice a4 l4 c4, .bool m5, .slice a5 l5 c5] [.bool false, .slice none 0 0] 149 149 68
 rw [← hw]
 clear hw
 have tr := kr.lt
 replace nv0 := nv0.below bb
 replace nv1 := nv1.below bb
 replace nv3 := nv3.below bb
 replace nv4 := nv4.below bb
 have mkS : Hid (∀ w', Cel w' (w.heap.size) [.bool m0, .slice a0 l0 c0, .bool m1, .slice a1 l1 c1, .bool m2, .slice a2 l2 c2] 149 → Cel w' (w.heap.size + 1) [.bool m3, .slice a3 l3 c3, .bool m4, .slice a4 l4 c4, .bool m5, .slice a5 l5 c5] 149 → (xc6 w' w.heap.size (.bool m0) (.slice a0 l0 c0) (.bool m1) (.slice a1 l1 c1) (.bool m2) (.slice a2 l2 c2) ∧ xc6 w' (w.heap.size + 1) (.bool m3) (.slice a3 l3 c3) (.bool m4) (.slice a4 l4 c4) (.bool m5) (.slice a5 l5 c5))) := fun w' ha hb => ⟨xk6 ha, xk6 hb⟩
 have qar : w.heap.size ≠ w.heap.size + 1 + 1 := by omega
 have qbr : w.heap.size + 1 ≠ w.heap.size + 1 + 1 := by omega
 go_region_held3 (fun w' => xc6 w' w.heap.size (.bool m0) (.slice a0 l0 c0) (.bool m1) (.slice a1 l1 c1) (.bool m2) (.slice a2 l2 c2) ∧ xc6 w' (w.heap.size + 1) (.bool m3) (.slice a3 l3 c3) (.bool m4) (.slice a4 l4 c4) (.bool m5) (.slice a5 l5 c5)) (first | with_reducible exact mkS.out _ ka kb | with_reducible exact mkS.out _ (Cel.other (Cel.other ka qar 0 _) qar 1 _) (Cel.other (Cel.other kb qbr 0 _) qbr 1 _) | exact mkS.out _ ka kb) (first | (go_at_call 59; go_fit (ntimes_any _ _ _ _ X Y' L L _ (by omega) (by omega) ?_ ?_); (first | exact nv0 | exact nv0.drew); (first | exact nv4 | exact nv4.drew); rintro e wn ⟨m6, v6, rfl, nv6, -, bn⟩; obtain ⟨a6, l6, c6, rfl⟩ := nv6.slice; replace ka := ka.below (un bn); replace kb := kb.below (un bn); replace kr := kr.below (un bn); (try replace nv0 := nv0.below (un bn)); (try replace nv1 := nv1.below (un bn)); (try replace nv3 := nv3.below (un bn)); (try replace nv4 := nv4.below (un bn)); (try replace nv7 := nv7.below (un bn)); replace bb := Below.after bb (un bn)) | (go_at_call 59; go_fit (ntimes_any _ _ _ _ Y X' L L _ (by omega) (by omega) ?_ ?_); (first | exact nv1 | exact nv1.drew); (first | exact nv3 | exact nv3.drew); rintro e wn ⟨m7, v7, rfl, nv7, -, bn⟩; obtain ⟨a7, l7, c7, rfl⟩ := nv7.slice; replace ka := ka.below (un bn); replace kb := kb.below (un bn); replace kr := kr.below (un bn); (try replace nv0 := nv0.below (un bn)); (try replace nv1 := nv1.below (un bn)); (try replace nv3 := nv3.below (un bn)); (try replace nv4 := nv4.below (un bn)); (try replace nv6 := nv6.below (un bn)); replace bb := Below.after bb (un bn)) | (go_at_call 144; go_fit (nminus_any _ _ _ _ (X * Y') (Y * X') (L + L) _ (by omega) ?_ ?_); (first | exact nv6 | exact nv6.drew); (first | exact nv7 | exact nv7.drew); rintro e wn ⟨m8, v8, rfl, nv8, bn⟩; obtain ⟨a8, l8, c8, rfl⟩ := nv8.slice; replace ka := ka.below (un bn); replace kb := kb.below (un bn); replace kr := kr.below (un bn); (try replace nv0 := nv0.below (un bn)); (try replace nv1 := nv1.below (un bn)); (try replace nv3 := nv3.below (un bn)); (try replace nv4 := nv4.below (un bn)); (try replace nv6 := nv6.below (un bn)); (try replace nv7 := nv7.below (un bn)); replace bb := Below.after bb (un bn); have er0 := cel2_0 kr; have fr0 := Cel.frozen kr 0; have er1 := cel2_1 kr; have fr1 := Cel.frozen kr 1))
 replace nv8 := shut nv8
 go_wp2
 exact post_n (p := 4) (by kernel_rfl) rfl rfl ((kr.set 0 _).set 1 _) ⟨_, _, rfl, nv8.out.set2 kr _ _, bset (bset bb (by omega) 0 _) (by omega) 1 _⟩
open Go.RowKit
theorem NV.sharp {w : World} {n : Bool} {v : Value} {z : Int} {L K M' : Nat} (h : NV w n v z L) (hz : Bd z K) (hM : K ≤ 8 * M') : NV w n v z M' := by
 obtain ⟨k, r, -, rfl⟩ := h
 refine ⟨k, r, ?_, rfl⟩
 have e : (sgn n k).natAbs = k := natAbs_sgn n k
 unfold Bd at hz
 rw [e] at hz
 refine Nat.lt_of_lt_of_le hz ?_
 rw [show B64 = 256 ^ 8 by unfold B64; decide, ← Nat.pow_mul]
 exact Nat.pow_le_pow_right (by omega) hM
def vsa : Value → Option Addr | .slice a _ _ => a | _ => none
def vsl : Value → Nat | .slice _ l _ => l | _ => 0
def vsc : Value → Nat | .slice _ _ c => c | _ => 0
theorem vs_eq {v : Value} (h : ∃ a l c, v = .slice a l c) : v = .slice (vsa v) (vsl v) (vsc v) := by
 obtain ⟨a, l, c, rfl⟩ := h
 rfl
theorem nt_map (f : Nat → ByteArray) {n j : Nat} (h : j < n) : nt ((List.range n).map f) j = f j := by
 unfold nt
 simp [List.getD, h]
theorem rds_any {w : World} {g n : Nat} {t : TypeId} {Z : Nat → Int} (h : Cells w g t n (fst' Z n)) : RdS w (.slice (some ⟨g, 0, none⟩) n n) ((List.range n).map fun k => sfZ (Z k)) := by
 refine ⟨some ⟨g, 0, none⟩, n, by simp, by simp, fun j hj => ⟨g, 0, rfl, ?_⟩⟩
 have hj' : j < n := by simpa using hj
 rw [Nat.zero_add, h.cell hj', nt_map _ hj']
 unfold fst'
 rw [if_pos hj']
def zprod (Z : Nat → Int) (n : Nat) : Nat := Dt.nprod ((List.range n).map fun k => (Z k).natAbs)
theorem le_nprod {l : List Nat} (h : ∀ x ∈ l, 0 < x) {x : Nat} (hx : x ∈ l) : x ≤ Dt.nprod l := by
 induction l with
 | nil => cases hx
 | cons y l ih =>
  have hp : 0 < Dt.nprod l := Dt.nprod_pos fun z hz => h z (by simp [hz])
  show x ≤ y * Dt.nprod l
  rcases List.mem_cons.1 hx with rfl | hx
  ·exact Nat.le_mul_of_pos_right _ hp
  ·exact Nat.le_trans (ih (fun z hz => h z (by simp [hz])) hx) (Nat.le_mul_of_pos_left _ (h y (by simp)))
theorem zprod_le {Z : Nat → Int} {n : Nat} (h : ∀ k, k < n → 0 < Z k) {k : Nat} (hk : k < n) : (Z k).natAbs ≤ zprod Z n := by
 refine le_nprod (fun x hx => ?_) (List.mem_map.2 ⟨k, List.mem_range.2 hk, rfl⟩)
 rw [List.mem_map] at hx
 obtain ⟨j, hj, rfl⟩ := hx
 have := h j (List.mem_range.1 hj)
 omega
theorem nover_any (m0 : Bool) (v0 : Value) (a : Option Addr) (n cap : Nat) (m : Nat → Bool) (v : Nat → Value) (z : Int) (Z : Nat → Int) (L K : Nat) (w : World) (hT : Tab w) (hn : n ≤ 1000) (hL : L ≤ 1000) (hK : K ≤ 8000)
  (n0 : NV w m0 v0 z L) (hr : RdN w a n m v) (hv : NVs w m v Z L n) (hp : ∀ k, k < n → 0 < Z k) (hz : Bd z K) (hs : ∀ k, k < n → Bd (Z k) 8000) (hP : zprod Z n < 256 ^ K) {x : Rat} (hx : mkRat z (zprod Z n) = x) :
  Calls Tryz.prog 36 #[.agg #[.bool m0, v0], .slice a n cap] w (Re w (.agg #[.bool (nfZ x.num), .string (sfZ x.num), .string (strOf x.den)])) := by
 subst hx
 have hr' : RdN w a n m (fun j => .slice (vsa (v j)) (vsl (v j)) (vsc (v j))) := fun j hj => by
  obtain ⟨b, off, e, h0, h1⟩ := hr j hj
  refine ⟨b, off, e, h0, ?_⟩
  show _ = some (Value.slice (vsa (v j)) (vsl (v j)) (vsc (v j)))
  rw [← vs_eq (hv j hj).2]
  exact h1
 refine over_walk m0 v0 a n cap m (fun j => vsa (v j)) (fun j => vsl (v j)) (fun j => vsc (v j)) z Z _ _ _ w hn n0.slice hr' (fun k w1 hk b => ?_) (fun w1 b => nint_any _ _ z L w1 hL (n0.below b)) (fun g w1 b hc => ?_)
 ·have := nint_any (m k) (v k) (Z k) L w1 hL ((hv k hk).1.below b)
  rw [vs_eq (hv k hk).2] at this
  exact this
 ·have e : ((List.range n).map fun k => sfZ (Z k)).map natOf = (List.range n).map fun k => (Z k).natAbs := by
   rw [List.map_map]
   exact List.map_congr_left fun k _ => natOf_sfZ (Z k)
  have := over_any z (.slice (some ⟨g, 0, none⟩) n n) ((List.range n).map fun k => sfZ (Z k)) w1 (hT.below b) (rds_any hc) (by simpa using hn) (fun y hy => by
   rw [List.mem_map] at hy
   obtain ⟨k, hk, rfl⟩ := hy
   rw [List.mem_range] at hk
   have := hp k hk
   exact ⟨okS_sfZ _, by rw [natOf_sfZ]; omega, (hs k hk).size⟩) hK hz (by rw [e]; exact hP)
  rw [e] at this
  exact this
theorem Bd.abs {z : Int} {k : Nat} (h : Bd z k) : Bd ((z.natAbs : Nat) : Int) k := by unfold Bd at h ⊢; simpa using h
theorem nover_big (m0 : Bool) (v0 : Value) (a : Option Addr) (n cap : Nat) (m : Nat → Bool) (v : Nat → Value) (z : Int) (Z : Nat → Int) (L K : Nat) (w : World) (hT : Tab w) (hn : n ≤ 1000) (hK : K ≤ 8000)
  (n0 : NV w m0 v0 z L) (hr : RdN w a n m v) (hv : NVs w m v Z L n) (hp : ∀ k, k < n → 0 < Z k) (hz : Bd z K) (hB : Bd ((zprod Z n : Nat) : Int) K) {x : Rat} (hx : mkRat z (zprod Z n) = x) :
  Calls Tryz.prog 36 #[.agg #[.bool m0, v0], .slice a n cap] w (Re w (.agg #[.bool (nfZ x.num), .string (sfZ x.num), .string (strOf x.den)])) := by
 have hP : zprod Z n < 256 ^ K := by unfold Bd at hB; simpa using hB
 have hb : ∀ k, k < n → Bd (Z k) K := fun k hk => Nat.lt_of_le_of_lt (zprod_le hp hk) hP
 exact nover_any m0 v0 a n cap m v z Z 1000 K w hT hn (by omega) hK (n0.sharp hz (by omega)) hr (fun k hk => ⟨(hv k hk).1.sharp (hb k hk) (by omega), (hv k hk).2⟩) hp hz (fun k hk => (hb k hk).mono hK) hP hx
end Go.Proofs.YtbafjmjcepcckaaGreatDoor
namespace Go.Proofs.YtbafjmjcepcckaaGreatDoor
open Go.RowKit Go.Shelf
theorem rplus4_walk (n0 n1 n2 n3 xN yN : Bool) (s0 d0 s1 d1 s2 d2 s3 d3 xS xD yS yD : ByteArray) (w : World)
  (H1 : Hid (∀ w1, Calls Tryz.prog 24 #[.agg #[.bool n0, .string s0, .string d0], .agg #[.bool n2, .string s2, .string d2]] w1 (Re w1 (.agg #[.bool xN, .string xS, .string xD]))))
  (H2 : Hid (∀ w1, Calls Tryz.prog 24 #[.agg #[.bool n1, .string s1, .string d1], .agg #[.bool n3, .string s3, .string d3]] w1 (Re w1 (.agg #[.bool yN, .string yS, .string yD])))) :
  Calls Tryz.prog 113 #[.agg #[.bool n0, .string s0, .string d0, .bool n1, .string s1, .string d1], .agg #[.bool n2, .string s2, .string d2, .bool n3, .string s3, .string d3]] w (Re w (.agg #[.bool xN, .string xS, .string xD, .bool yN, .string yS, .string yD])) := by
 go_enter Tryz.func113, Tryz.ntmps113
 go_wp2_with fail
 obtain ⟨w1, hw, ka, kb, kr, b1⟩ := mk3 w [.bool n0, .string s0, .string d0, .bool n1, .string s1, .string d1] [.bool n2, .string s2, .string d2, .bool n3, .string s3, .string d3] [.bool false, .string { data := #[] }, .string { data := #[] }, .bool false, .string { data := #[] }, .string { data := #[] }] 30 30 30
 rw [← hw]
 clear hw
 have sz := b1.size
 have ta := ka.lt
 have tb := kb.lt
 have tr := kr.lt
 have bb := b1
 clear b1
 have qa : w.heap.size ≠ w.heap.size + 1 + 1 := by omega
 have qb : w.heap.size + 1 ≠ w.heap.size + 1 + 1 := by omega
 have mkS : Hid (∀ w', Cel w' (w.heap.size) [.bool n0, .string s0, .string d0, .bool n1, .string s1, .string d1] 30 → Cel w' (w.heap.size + 1) [.bool n2, .string s2, .string d2, .bool n3, .string s3, .string d3] 30 → (xc6 w' w.heap.size (.bool n0) (.string s0) (.string d0) (.bool n1) (.string s1) (.string d1) ∧ xc6 w' (w.heap.size + 1) (.bool n2) (.string s2) (.string d2) (.bool n3) (.string s3) (.string d3))) := fun w' ha hb => ⟨xk6 ha, xk6 hb⟩
 go_region_held3 (fun w' => xc6 w' w.heap.size (.bool n0) (.string s0) (.string d0) (.bool n1) (.string s1) (.string d1) ∧ xc6 w' (w.heap.size + 1) (.bool n2) (.string s2) (.string d2) (.bool n3) (.string s3) (.string d3)) (first | with_reducible exact mkS.out _ ka kb | with_reducible exact mkS.out _ (ka.alloc _) (kb.alloc _) | with_reducible exact mkS.out _ (Cel.other (Cel.other (Cel.other (Cel.other (Cel.other (Cel.other ka qa 0 _) qa 1 _) qa 2 _) qa 3 _) qa 4 _) qa 5 _) (Cel.other (Cel.other (Cel.other (Cel.other (Cel.other (Cel.other kb qb 0 _) qb 1 _) qb 2 _) qb 3 _) qb 4 _) qb 5 _) | exact mkS.out _ ka kb) (first | (go_at_call 24; go_fit (H1.out _); rintro e wn ⟨rfl, bn⟩; replace ka := ka.below (un bn); replace kb := kb.below (un bn); replace kr := kr.below (un bn); replace bb := Below.after bb (un bn)) | (go_at_call 24; go_fit (H2.out _); rintro e wn ⟨rfl, bn⟩; replace ka := ka.below (un bn); replace kb := kb.below (un bn); replace kr := kr.below (un bn); replace bb := Below.after bb (un bn); have e0 := cel6_0 kr; have f0 := Cel.frozen kr 0; have e1 := cel6_1 kr; have f1 := Cel.frozen kr 1; have e2 := cel6_2 kr; have f2 := Cel.frozen kr 2; have e3 := cel6_3 kr; have f3 := Cel.frozen kr 3; have e4 := cel6_4 kr; have f4 := Cel.frozen kr 4; have e5 := cel6_5 kr; have f5 := Cel.frozen kr 5))
 go_wp2
 exact post_p (p := 4) (by kernel_rfl) rfl rfl (kr.set6 _ _ _ _ _ _) ⟨rfl, bset6 bb (by omega) _ _ _ _ _ _⟩
theorem rminus4_walk (n0 n1 n2 n3 xN yN : Bool) (s0 d0 s1 d1 s2 d2 s3 d3 xS xD yS yD : ByteArray) (w : World)
  (H1 : Hid (∀ w1, Calls Tryz.prog 53 #[.agg #[.bool n0, .string s0, .string d0], .agg #[.bool n2, .string s2, .string d2]] w1 (Re w1 (.agg #[.bool xN, .string xS, .string xD]))))
  (H2 : Hid (∀ w1, Calls Tryz.prog 53 #[.agg #[.bool n1, .string s1, .string d1], .agg #[.bool n3, .string s3, .string d3]] w1 (Re w1 (.agg #[.bool yN, .string yS, .string yD])))) :
  Calls Tryz.prog 71 #[.agg #[.bool n0, .string s0, .string d0, .bool n1, .string s1, .string d1], .agg #[.bool n2, .string s2, .string d2, .bool n3, .string s3, .string d3]] w (Re w (.agg #[.bool xN, .string xS, .string xD, .bool yN, .string yS, .string yD])) := by
 go_enter Tryz.func71, Tryz.ntmps71
 go_wp2_with fail
 obtain ⟨w1, hw, ka, kb, kr, b1⟩ := mk3 w [.bool n0, .string s0, .string d0, .bool n1, .string s1, .string d1] [.bool n2, .string s2, .string d2, .bool n3, .string s3, .string d3] [.bool false, .string { data := #[] }, .string { data := #[] }, .bool false, .string { data := #[] }, .string { data := #[] }] 30 30 30
 rw [← hw]
 clear hw
 have sz := b1.size
 have ta := ka.lt
 have tb := kb.lt
 have tr := kr.lt
 have bb := b1
 clear b1
 have qa : w.heap.size ≠ w.heap.size + 1 + 1 := by omega
 have qb : w.heap.size + 1 ≠ w.heap.size + 1 + 1 := by omega
 have mkS : Hid (∀ w', Cel w' (w.heap.size) [.bool n0, .string s0, .string d0, .bool n1, .string s1, .string d1] 30 → Cel w' (w.heap.size + 1) [.bool n2, .string s2, .string d2, .bool n3, .string s3, .string d3] 30 → (xc6 w' w.heap.size (.bool n0) (.string s0) (.string d0) (.bool n1) (.string s1) (.string d1) ∧ xc6 w' (w.heap.size + 1) (.bool n2) (.string s2) (.string d2) (.bool n3) (.string s3) (.string d3))) := fun w' ha hb => ⟨xk6 ha, xk6 hb⟩
 go_region_held3 (fun w' => xc6 w' w.heap.size (.bool n0) (.string s0) (.string d0) (.bool n1) (.string s1) (.string d1) ∧ xc6 w' (w.heap.size + 1) (.bool n2) (.string s2) (.string d2) (.bool n3) (.string s3) (.string d3)) (first | with_reducible exact mkS.out _ ka kb | with_reducible exact mkS.out _ (ka.alloc _) (kb.alloc _) | with_reducible exact mkS.out _ (Cel.other (Cel.other (Cel.other (Cel.other (Cel.other (Cel.other ka qa 0 _) qa 1 _) qa 2 _) qa 3 _) qa 4 _) qa 5 _) (Cel.other (Cel.other (Cel.other (Cel.other (Cel.other (Cel.other kb qb 0 _) qb 1 _) qb 2 _) qb 3 _) qb 4 _) qb 5 _) | exact mkS.out _ ka kb) (first | (go_at_call 53; go_fit (H1.out _); rintro e wn ⟨rfl, bn⟩; replace ka := ka.below (un bn); replace kb := kb.below (un bn); replace kr := kr.below (un bn); replace bb := Below.after bb (un bn)) | (go_at_call 53; go_fit (H2.out _); rintro e wn ⟨rfl, bn⟩; replace ka := ka.below (un bn); replace kb := kb.below (un bn); replace kr := kr.below (un bn); replace bb := Below.after bb (un bn); have e0 := cel6_0 kr; have f0 := Cel.frozen kr 0; have e1 := cel6_1 kr; have f1 := Cel.frozen kr 1; have e2 := cel6_2 kr; have f2 := Cel.frozen kr 2; have e3 := cel6_3 kr; have f3 := Cel.frozen kr 3; have e4 := cel6_4 kr; have f4 := Cel.frozen kr 4; have e5 := cel6_5 kr; have f5 := Cel.frozen kr 5))
 go_wp2
 exact post_p (p := 4) (by kernel_rfl) rfl rfl (kr.set6 _ _ _ _ _ _) ⟨rfl, bset6 bb (by omega) _ _ _ _ _ _⟩
theorem rcross4_walk (n0 n1 n2 n3 xN yN rN : Bool) (s0 d0 s1 d1 s2 d2 s3 d3 xS xD yS yD rS rD : ByteArray) (w : World)
  (H1 : Hid (∀ w1, Calls Tryz.prog 40 #[.agg #[.bool n0, .string s0, .string d0], .agg #[.bool n3, .string s3, .string d3]] w1 (Re w1 (.agg #[.bool xN, .string xS, .string xD]))))
  (H2 : Hid (∀ w1, Calls Tryz.prog 40 #[.agg #[.bool n1, .string s1, .string d1], .agg #[.bool n2, .string s2, .string d2]] w1 (Re w1 (.agg #[.bool yN, .string yS, .string yD]))))
  (H3 : Hid (∀ w1, Calls Tryz.prog 53 #[.agg #[.bool xN, .string xS, .string xD], .agg #[.bool yN, .string yS, .string yD]] w1 (Re w1 (.agg #[.bool rN, .string rS, .string rD])))) :
  Calls Tryz.prog 70 #[.agg #[.bool n0, .string s0, .string d0, .bool n1, .string s1, .string d1], .agg #[.bool n2, .string s2, .string d2, .bool n3, .string s3, .string d3]] w (Re w (.agg #[.bool rN, .string rS, .string rD])) := by
 go_enter Tryz.func70, Tryz.ntmps70
 go_wp2_with fail
 obtain ⟨w1, hw, ka, kb, kr, b1⟩ := mk3 w [.bool n0, .string s0, .string d0, .bool n1, .string s1, .string d1] [.bool n2, .string s2, .string d2, .bool n3, .string s3, .string d3] [.bool false, .string { data := #[] }, .string { data := #[] }] 30 30 26
 rw [← hw]
 clear hw
 have sz := b1.size
 have ta := ka.lt
 have tb := kb.lt
 have tr := kr.lt
 have bb := b1
 clear b1
 have qa : w.heap.size ≠ w.heap.size + 1 + 1 := by omega
 have qb : w.heap.size + 1 ≠ w.heap.size + 1 + 1 := by omega
 have mkS : Hid (∀ w', Cel w' (w.heap.size) [.bool n0, .string s0, .string d0, .bool n1, .string s1, .string d1] 30 → Cel w' (w.heap.size + 1) [.bool n2, .string s2, .string d2, .bool n3, .string s3, .string d3] 30 → (xc6 w' w.heap.size (.bool n0) (.string s0) (.string d0) (.bool n1) (.string s1) (.string d1) ∧ xc6 w' (w.heap.size + 1) (.bool n2) (.string s2) (.string d2) (.bool n3) (.string s3) (.string d3))) := fun w' ha hb => ⟨xk6 ha, xk6 hb⟩
 go_region_held3 (fun w' => xc6 w' w.heap.size (.bool n0) (.string s0) (.string d0) (.bool n1) (.string s1) (.string d1) ∧ xc6 w' (w.heap.size + 1) (.bool n2) (.string s2) (.string d2) (.bool n3) (.string s3) (.string d3)) (first | with_reducible exact mkS.out _ ka kb | with_reducible exact mkS.out _ (ka.alloc _) (kb.alloc _) | with_reducible exact mkS.out _ (Cel.other (Cel.other (Cel.other ka qa 0 _) qa 1 _) qa 2 _) (Cel.other (Cel.other (Cel.other kb qb 0 _) qb 1 _) qb 2 _) | exact mkS.out _ ka kb) (first | (go_at_call 40; go_fit (H1.out _); rintro e wn ⟨rfl, bn⟩; replace ka := ka.below (un bn); replace kb := kb.below (un bn); replace kr := kr.below (un bn); replace bb := Below.after bb (un bn)) | (go_at_call 40; go_fit (H2.out _); rintro e wn ⟨rfl, bn⟩; replace ka := ka.below (un bn); replace kb := kb.below (un bn); replace kr := kr.below (un bn); replace bb := Below.after bb (un bn)) | (go_at_call 53; go_fit (H3.out _); rintro e wn ⟨rfl, bn⟩; replace ka := ka.below (un bn); replace kb := kb.below (un bn); replace kr := kr.below (un bn); replace bb := Below.after bb (un bn); have e0 := cel3_0 kr; have f0 := Cel.frozen kr 0; have e1 := cel3_1 kr; have f1 := Cel.frozen kr 1; have e2 := cel3_2 kr; have f2 := Cel.frozen kr 2))
 go_wp2
 exact post_q (p := 4) (by kernel_rfl) rfl rfl (((kr.set 0 _).set 1 _).set 2 _) ⟨rfl, bset (bset (bset bb (by omega) 0 _) (by omega) 1 _) (by omega) 2 _⟩
open Go.RowKit
theorem al1e {w w' : World} {c0 : List Value} {t0 : TypeId} (b : Below (w.alloc (.cells c0.toArray t0)).drew.heap.size (w.alloc (.cells c0.toArray t0)).drew w') : Cel w' w.heap.size c0 t0 ∧ Below w.heap.size w w' := by
 have b' : Below (w.alloc (.cells c0.toArray t0)).heap.size (w.alloc (.cells c0.toArray t0)) w' := ⟨b.os, b.tape, b.output, b.size, b.block⟩
 exact al1 b'
open Go.RowKit
theorem bq_ratio {X U : Int} {x : Rat} {k : Nat} (hU : U ≠ 0) (h : (X : Rat) = (U : Rat) * x) (bX : Bd X k) (bU : Bd U k) : Bq x k := by
 rcases Int.lt_or_gt_of_ne hU with q | q
 ·have W : Gm.Way (-X) 0 (-U) x 0 := ⟨by omega, by push_cast; rw [h]; grind, by grind⟩
  exact bq_wayx W bX.neg bU.neg
 ·have W : Gm.Way X 0 U x 0 := ⟨q, h, by grind⟩
  exact bq_wayx W bX bU
open Go.RowKit
theorem rdpt_3 {w : World} {B : Nat} {t : TypeId} {n0 n1 n2 n3 n4 n5 : Bool} {s0 d0 s1 d1 s2 d2 s3 d3 s4 d4 s5 d5 : ByteArray} (h : Cel w B [.bool n0, .string s0, .string d0, .bool n1, .string s1, .string d1, .bool n2, .string s2, .string d2, .bool n3, .string s3, .string d3, .bool n4, .string s4, .string d4, .bool n5, .string s5, .string d5] t) : RdPt w (some ⟨B, 0, none⟩) 3 (f4 n0 n2 n4 n4) (f4 s0 s2 s4 s4) (f4 d0 d2 d4 d4) (f4 n1 n3 n5 n5) (f4 s1 s3 s5 s5) (f4 d1 d3 d5 d5) := by
 intro j hj
 refine ⟨B, 0, rfl, ?_⟩
 match j, hj with
 | 0, _ => exact ⟨h.cell 0, h.cell 1, h.cell 2, h.cell 3, h.cell 4, h.cell 5⟩
 | 1, _ => exact ⟨h.cell 6, h.cell 7, h.cell 8, h.cell 9, h.cell 10, h.cell 11⟩
 | 2, _ => exact ⟨h.cell 12, h.cell 13, h.cell 14, h.cell 15, h.cell 16, h.cell 17⟩
theorem scheck3 (B : Nat) (n0 n1 n2 n3 n4 n5 : Bool) (s0 d0 s1 d1 s2 d2 s3 d3 s4 d4 s5 d5 : ByteArray) (w : World) (hT : Tab w) (h : Cel w B [.bool n0, .string s0, .string d0, .bool n1, .string s1, .string d1, .bool n2, .string s2, .string d2, .bool n3, .string s3, .string d3, .bool n4, .string s4, .string d4, .bool n5, .string s5, .string d5] 30) (z0 : s0.size ≤ 100 ∧ d0.size ≤ 100) (z1 : s1.size ≤ 100 ∧ d1.size ≤ 100) (z2 : s2.size ≤ 100 ∧ d2.size ≤ 100) (z3 : s3.size ≤ 100 ∧ d3.size ≤ 100) (z4 : s4.size ≤ 100 ∧ d4.size ≤ 100) (z5 : s5.size ≤ 100 ∧ d5.size ≤ 100) :
  Calls Tryz.prog 106 #[.slice (some ⟨B, 0, none⟩) 3 3] w fun e w' => e = .returned (.int .i64 (two (two (twoq n0 s0 d0 n1 s1 d1) (twoq n2 s2 d2 n3 s3 d3)) (twoq n4 s4 d4 n5 s5 d5) : Nat)) ∧ Below w.heap.size w w' := by
 refine scheck_walk (some ⟨B, 0, none⟩) 3 3 _ _ _ _ _ _ (f4 (twoq n0 s0 d0 n1 s1 d1) (twoq n2 s2 d2 n3 s3 d3) (twoq n4 s4 d4 n5 s5 d5) 0) w (by omega) (rdpt_3 h) (fun j hj => ?_) (fun j w1 hj b => ?_)
 ·match j, hj with
  | 0, _ => exact ⟨z0.1, z0.2, z1.1, z1.2⟩
  | 1, _ => exact ⟨z2.1, z2.2, z3.1, z3.2⟩
  | 2, _ => exact ⟨z4.1, z4.2, z5.1, z5.2⟩
 ·match j, hj with
  | 0, _ => exact vCheck_any n0 n1 s0 d0 s1 d1 w1 (hT.below b)
  | 1, _ => exact vCheck_any n2 n3 s2 d2 s3 d3 w1 (hT.below b)
  | 2, _ => exact vCheck_any n4 n5 s4 d4 s5 d5 w1 (hT.below b)
open Go.RowKit
def um (r : Nat → Rat) : Nat → Nat
 | 0 => 1
 | k + 1 => um r k * ((r k).den / Nat.gcd (um r k) (r k).den)
theorem um_pos (r : Nat → Rat) : ∀ k, 0 < um r k
 | 0 => Nat.one_pos
 | k + 1 => Nat.mul_pos (um_pos r k) (Nat.div_pos (Nat.le_of_dvd (r k).den_pos (Nat.gcd_dvd_right _ _)) (Nat.gcd_pos_of_pos_right _ (r k).den_pos))
theorem um_dvd (r : Nat → Rat) (k : Nat) : (r k).den ∣ um r (k + 1) := by
 obtain ⟨c, hc⟩ := Nat.gcd_dvd_left (um r k) (r k).den
 refine ⟨c, ?_⟩
 show um r k * ((r k).den / Nat.gcd (um r k) (r k).den) = _
 have e := Nat.div_mul_cancel (Nat.gcd_dvd_right (um r k) (r k).den)
 generalize (r k).den / Nat.gcd (um r k) (r k).den = q at *
 generalize Nat.gcd (um r k) (r k).den = g at *
 rw [hc, ← e, Nat.mul_assoc, Nat.mul_comm c q, ← Nat.mul_assoc, Nat.mul_comm g q]
theorem um_all (r : Nat → Rat) {j : Nat} : ∀ {n : Nat}, j < n → (r j).den ∣ um r n
 | 0, h => absurd h (by omega)
 | n + 1, h => by
  by_cases e : j = n
  ·subst e; exact um_dvd r j
  ·exact Nat.dvd_trans (um_all r (by omega : j < n)) (Nat.dvd_mul_right _ _)
theorem um_bd {r : Nat → Rat} {K : Nat} : ∀ {n : Nat}, (∀ k, k < n → Bq (r k) K) → Bd ((um r n : Nat) : Int) (K * n + 1)
 | 0, _ => by unfold Bd; show 1 < _; rw [Nat.mul_zero, Nat.zero_add]; decide
 | n + 1, h => by
  have h1 := um_bd (n := n) (fun k hk => h k (by omega))
  have h2 : Bd (((r n).den / Nat.gcd (um r n) (r n).den : Nat) : Int) K := (h n (by omega)).2.nat (Nat.div_le_self _ _)
  have := h1.mul h2
  show Bd ((um r n * ((r n).den / Nat.gcd (um r n) (r n).den) : Nat) : Int) _
  rw [Int.natCast_mul]
  exact this.mono (by rw [Nat.mul_add]; omega)
theorem okn (m : Nat) : OkZ false (strOf m) := by
 have := okZ_zI (m : Int)
 rwa [decide_eq_false (by omega), Int.natAbs_natCast] at this
theorem zon (m : Nat) : zOf false (strOf m) = (m : Int) := by
 have := zOf_zI (m : Int)
 rwa [decide_eq_false (by omega), Int.natAbs_natCast] at this
theorem zIn (m : Nat) : zI ((m : Nat) : Int) = .agg #[.bool false, .string (strOf m)] := by
 unfold zI zV
 simp
theorem szn {m K : Nat} (h : Bd ((m : Nat) : Int) K) : (strOf m).size ≤ K := by
 have := h.size
 simpa using this
theorem shared_any (a : Option Addr) (n cap : Nat) (r : Nat → Rat) {K : Nat} (hK : K ≤ 100) (hn : n ≤ 6) (w : World) (hT : Tab w) (h : RdQ w a n (fun k => nfZ (r k).num) (fun k => sfZ (r k).num) (fun k => strOf (r k).den)) (hb : ∀ k, k < n → Bq (r k) K) :
  Calls Tryz.prog 34 #[.slice a n cap] w fun e w' => ∃ g m v a' l c, w.heap.size ≤ g ∧ e = .returned (.tuple #[.slice (some ⟨g, 0, none⟩) n n, .agg #[.bool false, .slice a' l c]]) ∧ Cells w' g 68 (n * 2) (fnn m v n) ∧ NVs w' m v (fun q => (r q).num * ((um r n / (r q).den : Nat) : Int)) (80 + 80) n ∧ NV w' false (.slice a' l c) ((um r n : Nat) : Int) 80 ∧ Below w.heap.size w w' := by
 have bu : ∀ k, k ≤ n → Bd ((um r k : Nat) : Int) 601 := fun k hk => (um_bd (fun j hj => hb j (by omega))).mono (by have : K * k ≤ 100 * 6 := Nat.mul_le_mul hK (by omega); omega)
 have bd : ∀ k, k < n → Bd (((r k).den : Nat) : Int) 601 := fun k hk => (hb k hk).2.mono (by omega)
 have bnum : ∀ k, k < n → (sfZ (r k).num).size ≤ 601 := fun k hk => Nat.le_trans (bd_sf (hb k hk).1) (by omega)
 refine shared_walk a n cap _ _ _ (fun k => strOf (um r k)) (fun k => strOf (Nat.gcd (um r k) (r k).den)) (fun k => strOf ((r k).den / Nat.gcd (um r k) (r k).den)) (fun k => strOf ((r k).den % Nat.gcd (um r k) (r k).den)) (fun k => strOf (um r n / (r k).den)) (fun k => strOf (um r n % (r k).den)) (fun k => (r k).num) (fun k => ((um r n / (r k).den : Nat) : Int)) _ 80 w (by omega) (by omega) h ?_ ?_ ?_ ?_ ?_ ?_ ?_ ?_
 ·intro w1
  have := zof_any 1 (by omega) (by omega) w1
  rwa [show (1 : Int) = ((1 : Nat) : Int) from rfl, zIn] at this
 ·intro k w1 hk b
  have := zgcd_ok false false (strOf (um r k)) (strOf (r k).den) w1 (okn _) (okn _) (Nat.le_trans (szn (bu k (by omega))) (by omega)) (Nat.le_trans (szn (bd k hk)) (by omega)) (hT.below b)
  rwa [natOf_strOf, natOf_strOf, zIn] at this
 ·intro k w1 hk b
  have hg : Nat.gcd (um r k) (r k).den ≤ (r k).den := Nat.le_of_dvd (r k).den_pos (Nat.gcd_dvd_right _ _)
  have := zdiv_ok false false (strOf (r k).den) (strOf (Nat.gcd (um r k) (r k).den)) w1 (okn _) (okn _) (Nat.le_trans (szn (bd k hk)) (by omega)) (Nat.le_trans (szn ((bd k hk).nat hg)) (by omega)) (by rw [natOf_strOf]; exact Nat.gcd_pos_of_pos_right _ (r k).den_pos)
  rwa [zon, zon, ← Int.natCast_ediv, ← Int.natCast_emod, zIn, zIn] at this
 ·intro k w1 hk b
  have := zmul_ok false false (strOf (um r k)) (strOf ((r k).den / Nat.gcd (um r k) (r k).den)) w1 (okn _) (okn _) (Nat.le_trans (szn (bu k (by omega))) (by omega)) (Nat.le_trans (szn ((bd k hk).nat (Nat.div_le_self _ _))) (by omega))
  rwa [zon, zon, ← Int.natCast_mul, zIn] at this
 ·intro k w1 hk b
  have := zdiv_ok false false (strOf (um r n)) (strOf (r k).den) w1 (okn _) (okn _) (Nat.le_trans (szn (bu n (Nat.le_refl _))) (by omega)) (Nat.le_trans (szn (bd k hk)) (by omega)) (by rw [natOf_strOf]; exact (r k).den_pos)
  rwa [zon, zon, ← Int.natCast_ediv, ← Int.natCast_emod, zIn, zIn] at this
 ·intro k w1 hk b
  have := numOf_any (nfZ (r k).num) (sfZ (r k).num) w1 (Nat.le_trans (bnum k hk) (by omega)) (okZ_nz (r k).num).1 80 (natOf_lt8 80 (Nat.le_trans (bnum k hk) (by omega)))
  rwa [show sgn (nfZ (r k).num) (natOf (sfZ (r k).num)) = (r k).num from zOf_nz _] at this
 ·intro k w1 hk b
  have hz := szn ((bu n (Nat.le_refl _)).nat (Nat.div_le_self (um r n) (r k).den))
  have := numOf_any false (strOf (um r n / (r k).den)) w1 (Nat.le_trans hz (by omega)) (okn _).1 80 (natOf_lt8 80 (Nat.le_trans hz (by omega)))
  rwa [show sgn false (natOf (strOf (um r n / (r k).den))) = ((um r n / (r k).den : Nat) : Int) from zon _] at this
 ·intro w1 b
  have hz := szn (bu n (Nat.le_refl _))
  have := numOf_any false (strOf (um r n)) w1 (Nat.le_trans hz (by omega)) (okn _).1 80 (natOf_lt8 80 (Nat.le_trans hz (by omega)))
  rwa [show sgn false (natOf (strOf (um r n))) = ((um r n : Nat) : Int) from zon _] at this
theorem um_num (r : Nat → Rat) {j n : Nat} (h : j < n) : (((r j).num * ((um r n / (r j).den : Nat) : Int) : Int) : Rat) = ((um r n : Nat) : Rat) * r j := by
 obtain ⟨c, hc⟩ := um_all r h
 rw [hc, Nat.mul_div_cancel_left _ (r j).den_pos]
 have e := Rat.mkRat_self (r j)
 rw [Rat.mkRat_eq_div] at e
 have hd : ((r j).den : Rat) ≠ 0 := fun q => by
  have q' : ((r j).den : Rat) = ((0 : Nat) : Rat) := q
  rw [Rat.natCast_inj] at q'
  have := (r j).den_pos
  omega
 rw [Rat.div_def] at e
 have k := Rat.mul_inv_cancel _ hd
 push_cast
 generalize ((r j).den : Rat)⁻¹ = i at *
 generalize ((r j).den : Rat) = d at *
 generalize ((r j).num : Rat) = m at *
 generalize r j = x at *
 grind
end Go.Proofs.YtbafjmjcepcckaaGreatDoor
