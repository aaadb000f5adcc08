/-
  The way to a centre: mathematics, and cells that are set.
  gussetref05: Orient, Disc, Circle of rational numbers.
  gussetlaw06: ConsParts holds.
  No point of a segment is nearer: mathematics.
  Package span: the way from one point to another, walked.
  Package span: products of ways.
  gussetref04: Plus, Minus, Dot, Cross, Norm2, walked.
  Points compared.
  Package span: the size of a number; no way to a centre.
  Package cons: Centre, walked.
  Package cons: Near2, walked.
  Package cons: Centre, walked.
-/
import Derived.Test.YtiiigiggcbbgjaaGreatDoorG42
import Derived.Test.YtiiigiggcbbgjaaGreatDoorG43
set_option maxRecDepth 100000
set_option maxHeartbeats 16000000
namespace Go.Proofs.YtiiigiggcbbgjaaGreatDoor
open Go.RowKit
theorem Gm.centre_one {a b c d U V x y z s r q : Rat} (ha : a = U * x) (hb : b = U * y) (hc : c = V * z) (hd : d = V * s) (hr : ((x * s - y * z) + (x * s - y * z)) * r = 1) (hq : q = (x * x + y * y) * s - (z * z + s * s) * y) :
  (a * a + b * b) * V * d - (c * c + d * d) * U * b = ((a * d - b * c) + (a * d - b * c)) * U * V * (q * r) := by
 subst ha hb hc hd hq
 grind
theorem Gm.centre_two {a b c d U V x y z s r q : Rat} (ha : a = U * x) (hb : b = U * y) (hc : c = V * z) (hd : d = V * s) (hr : ((x * s - y * z) + (x * s - y * z)) * r = 1) (hq : q = x * (z * z + s * s) - z * (x * x + y * y)) :
  a * ((c * c + d * d) * U) - c * ((a * a + b * b) * V) = ((a * d - b * c) + (a * d - b * c)) * U * V * (q * r) := by
 subst ha hb hc hd hq
 grind
theorem Gm.centre_way {X1 Y1 U1 X4 Y4 U4 : Int} {ux uy vx vy : Rat} (h1 : Gm.Way X1 Y1 U1 ux uy) (h4 : Gm.Way X4 Y4 U4 vx vy) (hA : ux * vy - uy * vx ≠ 0) {X Y : Int}
  (h : (X = ((X1 * X1 + Y1 * Y1) * U4) * Y4 - ((X4 * X4 + Y4 * Y4) * U1) * Y1 ∧ Y = X1 * ((X4 * X4 + Y4 * Y4) * U1) - X4 * ((X1 * X1 + Y1 * Y1) * U4) ∧ 0 ≤ X1 * Y4 - Y1 * X4) ∨ (X = -(((X1 * X1 + Y1 * Y1) * U4) * Y4 - ((X4 * X4 + Y4 * Y4) * U1) * Y1) ∧ Y = -(X1 * ((X4 * X4 + Y4 * Y4) * U1) - X4 * ((X1 * X1 + Y1 * Y1) * U4)) ∧ X1 * Y4 - Y1 * X4 ≤ 0)) :
  Gm.Way X Y ((((X1 * Y4 - Y1 * X4) + (X1 * Y4 - Y1 * X4)).natAbs : Int) * U1 * U4) (((ux * ux + uy * uy) * vy - (vx * vx + vy * vy) * uy) / ((ux * vy - uy * vx) + (ux * vy - uy * vx))) ((ux * (vx * vx + vy * vy) - vx * (ux * ux + uy * uy)) / ((ux * vy - uy * vx) + (ux * vy - uy * vx))) := by
 have p1 := Gm.upos h1.1
 have p4 := Gm.upos h4.1
 have hA2 : (ux * vy - uy * vx) + (ux * vy - uy * vx) ≠ 0 := by grind
 have hr := Rat.mul_inv_cancel _ hA2
 rw [Rat.div_def, Rat.div_def]
 have hne : X1 * Y4 - Y1 * X4 ≠ 0 := by
  intro e
  have e2 : ((X1 * Y4 - Y1 * X4 : Int) : Rat) = 0 := by rw [e]; rfl
  rw [Rat.intCast_sub, Rat.intCast_mul, Rat.intCast_mul, h1.2.1, h1.2.2, h4.2.1, h4.2.2] at e2
  have e3 : (U1 : Rat) * (U4 : Rat) * (ux * vy - uy * vx) = 0 := by grind
  rcases Rat.mul_eq_zero.1 e3 with h | h
  ·rcases Rat.mul_eq_zero.1 h with h | h <;> grind
  ·exact hA h
 have c1 := Gm.centre_one h1.2.1 h1.2.2 h4.2.1 h4.2.2 hr rfl
 have c2 := Gm.centre_two h1.2.1 h1.2.2 h4.2.1 h4.2.2 hr rfl
 generalize (ux * vy - uy * vx + (ux * vy - uy * vx))⁻¹ = r at *
 rcases h with ⟨rfl, rfl, h0⟩ | ⟨rfl, rfl, h0⟩
 ·have hn : (((X1 * Y4 - Y1 * X4) + (X1 * Y4 - Y1 * X4)).natAbs : Int) = (X1 * Y4 - Y1 * X4) + (X1 * Y4 - Y1 * X4) := by omega
  rw [hn]
  refine ⟨Int.mul_pos (Int.mul_pos (by omega) h1.1) h4.1, ?_, ?_⟩
  ·push_cast
   exact c1
  ·push_cast
   exact c2
 ·have hn : (((X1 * Y4 - Y1 * X4) + (X1 * Y4 - Y1 * X4)).natAbs : Int) = -((X1 * Y4 - Y1 * X4) + (X1 * Y4 - Y1 * X4)) := by omega
  rw [hn]
  refine ⟨Int.mul_pos (Int.mul_pos (by omega) h1.1) h4.1, ?_, ?_⟩
  ·push_cast
   rw [c1]
   grind
  ·push_cast
   rw [c2]
   grind
theorem NV.set1 {w : World} {n m : Bool} {v : Value} {z : Int} {L g : Nat} {a : Option Addr} {l c : Nat} {t : TypeId} (h : NV w n v z L) (hc : Cel w g [.bool m, .slice a l c] t) (x : Value) : NV (w.setCell ⟨g, 0, none⟩ x) n v z L := by
 obtain ⟨k, r, h1, h2⟩ := h
 exact ⟨k, ((rdx_of_cel r hc (no_ints2 _ _ _ _)).setX 0 x).rd, h1, h2⟩
theorem NV.flip {w : World} {n : Bool} {v : Value} {z : Int} {L : Nat} (h : NV w n v z L) : NV w (!n) v (-z) L := by
 obtain ⟨k, r, h1, rfl⟩ := h
 exact ⟨k, r, h1, by cases n <;> simp [sgn]⟩
theorem NV.pos {w : World} {v : Value} {z : Int} {L : Nat} (h : NV w false v z L) : 0 ≤ z := by
 obtain ⟨k, r, h1, rfl⟩ := h
 simp [sgn]
theorem NV.neg {w : World} {v : Value} {z : Int} {L : Nat} (h : NV w true v z L) : z ≤ 0 := by
 obtain ⟨k, r, h1, rfl⟩ := h
 simp [sgn]
theorem Cel.oth6 {w : World} {g g' : Nat} {cs : List Value} {t : TypeId} (h : Cel w g cs t) (hne : g ≠ g') (x0 x1 x2 x3 x4 x5 : Value) : Cel ((((((w.setCell ⟨g', 0, none⟩ x0).setCell ⟨g', 1, none⟩ x1).setCell ⟨g', 2, none⟩ x2).setCell ⟨g', 3, none⟩ x3).setCell ⟨g', 4, none⟩ x4).setCell ⟨g', 5, none⟩ x5) g cs t :=
 (((((h.other hne 0 x0).other hne 1 x1).other hne 2 x2).other hne 3 x3).other hne 4 x4).other hne 5 x5
open Go.RowKit
theorem qOf_one (x : Rat) : qOf (nfZ x.num) (sfZ x.num) (strOf x.den) = x := qOf_qI x
open Go.RowKit
theorem sh6_t {s d : ByteArray} (h : sh6 s d = true) : s.size ≤ 60 ∧ d.size ≤ 60 := of_decide_eq_true h
theorem le100 {s d : ByteArray} (h : s.size ≤ 60 ∧ d.size ≤ 60) : s.size ≤ 100 ∧ d.size ≤ 100 := ⟨by omega, by omega⟩
open Go.RowKit
theorem sq_nn (x : Rat) : 0 ≤ x * x := by
 rcases Rat.le_total (a := 0) (b := x) with k | k
 ·exact Rat.mul_nonneg k k
 ·have := Rat.mul_nonneg (a := -x) (b := -x) (by grind) (by grind)
  grind
theorem near_first {m n d k : Rat} (hd : d ≤ 0) (hn : 0 ≤ n) (hk : 0 ≤ k) : m ≤ m - 2 * k * d + k * k * n := by
 have h1 : 0 ≤ k * (-d) := Rat.mul_nonneg hk (by grind)
 have h2 : 0 ≤ k * k * n := Rat.mul_nonneg (Rat.mul_nonneg hk hk) hn
 grind
theorem near_second {m n d k : Rat} (hd : n ≤ d) (hn : 0 ≤ n) (hk : k ≤ 1) : m - 2 * d + n ≤ m - 2 * k * d + k * k * n := by
 have h1 : 0 ≤ (1 - k) * (d - n) := Rat.mul_nonneg (by grind) (by grind)
 have h2 : 0 ≤ (1 - k) * (1 - k) * n := Rat.mul_nonneg (sq_nn _) hn
 grind
theorem near_between {m n d k t : Rat} (hn : 0 < n) (ht : t * n = d) : m - t * d ≤ m - 2 * k * d + k * k * n := by
 have h2 : 0 ≤ (k - t) * (k - t) * n := Rat.mul_nonneg (sq_nn _) (by grind)
 have e : (k - t) * (k - t) * n = k * k * n - 2 * k * (t * n) + t * (t * n) := by grind
 rw [e, ht] at h2
 grind
open Go.RowKit
theorem sof_walk (n0 n1 n2 n3 : Bool) (s0 d0 s1 d1 s2 d2 s3 d3 : ByteArray) (x y : Rat) (w : World)
  (H1 : Hid (∀ w1, Calls Tryz.prog 109 #[.agg #[.bool n2, .string s2, .string d2], .agg #[.bool n0, .string s0, .string d0]] w1 fun e w' => ∃ m a l c a' l' c' X U, e = .returned (.tuple #[.agg #[.bool m, .slice a l c], .agg #[.bool false, .slice a' l' c']]) ∧ NV w' m (.slice a l c) X 27 ∧ NV w' false (.slice a' l' c') U 26 ∧ 0 < U ∧ (X : Rat) = (U : Rat) * x ∧ Below w1.heap.size w1 w'))
  (H2 : Hid (∀ w1, Calls Tryz.prog 109 #[.agg #[.bool n3, .string s3, .string d3], .agg #[.bool n1, .string s1, .string d1]] w1 fun e w' => ∃ m a l c a' l' c' X U, e = .returned (.tuple #[.agg #[.bool m, .slice a l c], .agg #[.bool false, .slice a' l' c']]) ∧ NV w' m (.slice a l c) X 27 ∧ NV w' false (.slice a' l' c') U 26 ∧ 0 < U ∧ (X : Rat) = (U : Rat) * y ∧ Below w1.heap.size w1 w')) :
  Calls Tryz.prog 70 #[.agg #[.bool n0, .string s0, .string d0, .bool n1, .string s1, .string d1], .agg #[.bool n2, .string s2, .string d2, .bool n3, .string s3, .string d3]] w fun e w' => ∃ m0 a0 l0 c0 m1 a1 l1 c1 a2 l2 c2 X Y U, e = .returned (.agg #[.bool m0, .slice a0 l0 c0, .bool m1, .slice a1 l1 c1, .bool false, .slice a2 l2 c2]) ∧ NV w' m0 (.slice a0 l0 c0) X 53 ∧ NV w' m1 (.slice a1 l1 c1) Y 53 ∧ NV w' false (.slice a2 l2 c2) U 52 ∧ Gm.Way X Y U x y ∧ Below w.heap.size w w' := by
 go_enter Tryz.func70, Tryz.ntmps70
 go_wp2_with fail
 obtain ⟨w0, hw, ka, kb, kr, bb⟩ := mk3 w [.bool n0, .string s0, .string d0, .bool n1, .string s1, .string d1] [.bool n2, .string s2, .string d2, .bool n3, .string s3, .string d3] [.bool false, .slice none 0 0, .bool false, .slice none 0 0, .bool false, .slice none 0 0] 28 28 74
 rw [← hw]
 clear hw
 have tr := kr.lt
 go_fit (H1.out _)
 rintro e w1 ⟨m1, a1, l1, c1, a2, l2, c2, X, U, rfl, nv1, nv2, hU, hX, b1⟩
 replace ka := ka.below b1
 replace kb := kb.below b1
 replace kr := kr.below b1
 replace bb := Below.after bb b1
 have sq0 := b1.size
 clear b1
 replace hX := shut hX
 replace hU := shut hU
 have ca3 := cel6_3 ((ka.alloc (.cells #[.bool m1, .slice a1 l1 c1] 72)).alloc (.cells #[.bool false, .slice a2 l2 c2] 72))
 have ca4 := cel6_4 ((ka.alloc (.cells #[.bool m1, .slice a1 l1 c1] 72)).alloc (.cells #[.bool false, .slice a2 l2 c2] 72))
 have ca5 := cel6_5 ((ka.alloc (.cells #[.bool m1, .slice a1 l1 c1] 72)).alloc (.cells #[.bool false, .slice a2 l2 c2] 72))
 have cb3 := cel6_3 ((kb.alloc (.cells #[.bool m1, .slice a1 l1 c1] 72)).alloc (.cells #[.bool false, .slice a2 l2 c2] 72))
 have cb4 := cel6_4 ((kb.alloc (.cells #[.bool m1, .slice a1 l1 c1] 72)).alloc (.cells #[.bool false, .slice a2 l2 c2] 72))
 have cb5 := cel6_5 ((kb.alloc (.cells #[.bool m1, .slice a1 l1 c1] 72)).alloc (.cells #[.bool false, .slice a2 l2 c2] 72))
 go_wp2_with fail
 obtain ⟨w2, hw, kx, kv, b1⟩ := mk2 w1 [.bool m1, .slice a1 l1 c1] [.bool false, .slice a2 l2 c2] 72 72
 rw [← hw]
 clear hw ca3 ca4 ca5 cb3 cb4 cb5
 replace ka := ka.below b1
 replace kb := kb.below b1
 replace kr := kr.below b1
 replace nv1 := nv1.below b1
 replace nv2 := nv2.below b1
 replace bb := Below.after bb b1
 have sq1 := b1.size
 clear b1
 have tx := kx.lt
 have tv := kv.lt
 go_fit (H2.out _)
 rintro e w3 ⟨m3, a3, l3, c3, a4, l4, c4, Y, V, rfl, nv3, nv4, hV, hY, b1⟩
 replace kr := kr.below b1
 replace kx := kx.below b1
 replace kv := kv.below b1
 replace nv1 := nv1.below b1
 replace nv2 := nv2.below b1
 replace bb := Below.after bb b1
 have sq2 := b1.size
 clear b1
 replace hY := shut hY
 replace hV := shut hV
 obtain ⟨cv0, cv1⟩ := xk2 ((kv.alloc (.cells #[.bool m3, .slice a3 l3 c3] 72)).alloc (.cells #[.bool false, .slice a4 l4 c4] 72))
 go_wp2_with fail
 obtain ⟨w4, hw, ky, ku, b1⟩ := mk2 w3 [.bool m3, .slice a3 l3 c3] [.bool false, .slice a4 l4 c4] 72 72
 rw [← hw]
 clear hw cv0 cv1
 replace kr := kr.below b1
 replace kx := kx.below b1
 replace kv := kv.below b1
 replace nv1 := nv1.below b1
 replace nv2 := nv2.below b1
 replace nv3 := nv3.below b1
 replace nv4 := nv4.below b1
 replace bb := Below.after bb b1
 have sq3 := b1.size
 clear b1
 have ty := ky.lt
 have tu := ku.lt
 go_fit (nsame_nv _ _ U V 26 _ (by omega) nv2 nv4)
 rintro e w5 ⟨rfl, b1⟩
 replace kr := kr.below b1
 replace kx := kx.below b1
 replace ky := ky.below b1
 replace kv := kv.below b1
 replace ku := ku.below b1
 replace nv1 := nv1.below b1
 replace nv2 := nv2.below b1
 replace nv3 := nv3.below b1
 replace nv4 := nv4.below b1
 replace bb := Below.after bb b1
 have sq4 := b1.size
 clear b1
 by_cases hs : U = V
 ·have hd := decide_eq_true hs
  rw [hd]
  clear hd
  obtain ⟨cx0, cx1⟩ := xk2 kx
  obtain ⟨cy0, cy1⟩ := xk2 ky
  obtain ⟨cv0, cv1⟩ := xk2 kv
  have e0 := cel6_0 kr
  have f0 := Cel.frozen kr 0
  have e1 := cel6_1 kr
  have f1 := Cel.frozen kr 1
  have e2 := cel6_2 kr
  have f2 := Cel.frozen kr 2
  have e3 := cel6_3 kr
  have f3 := Cel.frozen kr 3
  have e4 := cel6_4 kr
  have f4 := Cel.frozen kr 4
  have e5 := cel6_5 kr
  have f5 := Cel.frozen kr 5
  replace nv1 := shut nv1
  replace nv2 := shut nv2
  replace nv3 := shut nv3
  go_wp2
  exact post_s (p := 4) (by kernel_rfl) rfl rfl ((((((kr.set 0 _).set 1 _).set 2 _).set 3 _).set 4 _).set 5 _) ⟨_, _, _, _, _, _, _, _, _, _, _, _, _, _, rfl, (nv1.out.mono (by omega)).set6 kr _ _ _ _ _ _, (nv3.out.mono (by omega)).set6 kr _ _ _ _ _ _, (nv2.out.mono (by omega)).set6 kr _ _ _ _ _ _, ⟨hU.out, hX.out, by rw [hs]; exact hY.out⟩, bset (bset (bset (bset (bset (bset bb (by omega) 0 _) (by omega) 1 _) (by omega) 2 _) (by omega) 3 _) (by omega) 4 _) (by omega) 5 _⟩
 ·have hd := decide_eq_false hs
  rw [hd]
  clear hd
  go_wp2_with fail
  have mkS : Hid (∀ w', Cel w' (w1.heap.size) [.bool m1, .slice a1 l1 c1] 72 → Cel w' (w1.heap.size + 1) [.bool false, .slice a2 l2 c2] 72 → Cel w' (w3.heap.size) [.bool m3, .slice a3 l3 c3] 72 → Cel w' (w3.heap.size + 1) [.bool false, .slice a4 l4 c4] 72 → (xc2 w' w1.heap.size (.bool m1) (.slice a1 l1 c1) ∧ xc2 w' (w1.heap.size + 1) (.bool false) (.slice a2 l2 c2) ∧ xc2 w' w3.heap.size (.bool m3) (.slice a3 l3 c3) ∧ xc2 w' (w3.heap.size + 1) (.bool false) (.slice a4 l4 c4))) := fun w' hx hv hy hu => ⟨xk2 hx, xk2 hv, xk2 hy, xk2 hu⟩
  have qxr : w1.heap.size ≠ w.heap.size + 1 + 1 := by omega
  have qvr : w1.heap.size + 1 ≠ w.heap.size + 1 + 1 := by omega
  have qyr : w3.heap.size ≠ w.heap.size + 1 + 1 := by omega
  have qur : w3.heap.size + 1 ≠ w.heap.size + 1 + 1 := by omega
  go_region_held3 (fun w' => xc2 w' w1.heap.size (.bool m1) (.slice a1 l1 c1) ∧ xc2 w' (w1.heap.size + 1) (.bool false) (.slice a2 l2 c2) ∧ xc2 w' w3.heap.size (.bool m3) (.slice a3 l3 c3) ∧ xc2 w' (w3.heap.size + 1) (.bool false) (.slice a4 l4 c4)) (first | with_reducible exact mkS.out _ kx kv ky ku | with_reducible exact mkS.out _ (Cel.other (Cel.other (Cel.other (Cel.other (Cel.other (Cel.other kx qxr 0 _) qxr 1 _) qxr 2 _) qxr 3 _) qxr 4 _) qxr 5 _) (Cel.other (Cel.other (Cel.other (Cel.other (Cel.other (Cel.other kv qvr 0 _) qvr 1 _) qvr 2 _) qvr 3 _) qvr 4 _) qvr 5 _) (Cel.other (Cel.other (Cel.other (Cel.other (Cel.other (Cel.other ky qyr 0 _) qyr 1 _) qyr 2 _) qyr 3 _) qyr 4 _) qyr 5 _) (Cel.other (Cel.other (Cel.other (Cel.other (Cel.other (Cel.other ku qur 0 _) qur 1 _) qur 2 _) qur 3 _) qur 4 _) qur 5 _) | exact mkS.out _ kx kv ky ku) (first | (go_at_call 74; go_fit (ntimes_any _ _ _ _ X V 27 26 _ (by omega) (by omega) ?_ ?_); (first | exact nv1 | exact nv1.drew); (first | exact nv4 | exact nv4.drew); rintro e wn ⟨m5, v5, rfl, nv5, -, bn⟩; obtain ⟨a5, l5, c5, rfl⟩ := nv5.slice; replace kr := kr.below (un bn); replace kx := kx.below (un bn); replace ky := ky.below (un bn); replace kv := kv.below (un bn); replace ku := ku.below (un bn); (try replace nv1 := nv1.below (un bn)); (try replace nv2 := nv2.below (un bn)); (try replace nv3 := nv3.below (un bn)); (try replace nv4 := nv4.below (un bn)); (try replace nv6 := nv6.below (un bn)); replace bb := Below.after bb (un bn)) | (go_at_call 74; go_fit (ntimes_any _ _ _ _ Y U 27 26 _ (by omega) (by omega) ?_ ?_); (first | exact nv3 | exact nv3.drew); (first | exact nv2 | exact nv2.drew); rintro e wn ⟨m6, v6, rfl, nv6, -, bn⟩; obtain ⟨a6, l6, c6, rfl⟩ := nv6.slice; replace kr := kr.below (un bn); replace kx := kx.below (un bn); replace ky := ky.below (un bn); replace kv := kv.below (un bn); replace ku := ku.below (un bn); (try replace nv1 := nv1.below (un bn)); (try replace nv2 := nv2.below (un bn)); (try replace nv3 := nv3.below (un bn)); (try replace nv4 := nv4.below (un bn)); (try replace nv5 := nv5.below (un bn)); replace bb := Below.after bb (un bn)) | (go_at_call 74; go_fit (ntimes_any _ _ _ _ U V 26 26 _ (by omega) (by omega) ?_ ?_); (first | exact nv2 | exact nv2.drew); (first | exact nv4 | exact nv4.drew); rintro e wn ⟨m7, v7, rfl, nv7, hm7, bn⟩; obtain ⟨a7, l7, c7, rfl⟩ := nv7.slice; replace kr := kr.below (un bn); replace kx := kx.below (un bn); replace ky := ky.below (un bn); replace kv := kv.below (un bn); replace ku := ku.below (un bn); (try replace nv1 := nv1.below (un bn)); (try replace nv2 := nv2.below (un bn)); (try replace nv3 := nv3.below (un bn)); (try replace nv4 := nv4.below (un bn)); (try replace nv5 := nv5.below (un bn)); (try replace nv6 := nv6.below (un bn)); replace bb := Below.after bb (un bn); have er0 := cel6_0 kr; have fr0 := Cel.frozen kr 0; have er1 := cel6_1 kr; have fr1 := Cel.frozen kr 1; have er2 := cel6_2 kr; have fr2 := Cel.frozen kr 2; have er3 := cel6_3 kr; have fr3 := Cel.frozen kr 3; have er4 := cel6_4 kr; have fr4 := Cel.frozen kr 4; have er5 := cel6_5 kr; have fr5 := Cel.frozen kr 5))
  obtain rfl := hm7 trivial trivial
  clear hm7
  replace nv5 := shut nv5
  replace nv6 := shut nv6
  replace nv7 := shut nv7
  go_wp2
  refine post_s (p := 4) (by kernel_rfl) rfl rfl ((((((kr.set 0 _).set 1 _).set 2 _).set 3 _).set 4 _).set 5 _) ⟨_, _, _, _, _, _, _, _, _, _, _, _, _, _, rfl, nv5.out.set6 kr _ _ _ _ _ _, nv6.out.set6 kr _ _ _ _ _ _, nv7.out.set6 kr _ _ _ _ _ _, ⟨Int.mul_pos hU.out hV.out, ?_, ?_⟩, bset (bset (bset (bset (bset (bset bb (by omega) 0 _) (by omega) 1 _) (by omega) 2 _) (by omega) 3 _) (by omega) 4 _) (by omega) 5 _⟩
  ·rw [Rat.intCast_mul, Rat.intCast_mul, hX.out]; grind
  ·rw [Rat.intCast_mul, Rat.intCast_mul, hY.out]; grind
open Go.RowKit
theorem sof_any (n0 n1 n2 n3 : Bool) (s0 d0 s1 d1 s2 d2 s3 d3 : ByteArray) (w : World) (o0 : OkQ n0 s0 d0) (o1 : OkQ n1 s1 d1) (o2 : OkQ n2 s2 d2) (o3 : OkQ n3 s3 d3) (z0 : s0.size ≤ 100 ∧ d0.size ≤ 100) (z1 : s1.size ≤ 100 ∧ d1.size ≤ 100) (z2 : s2.size ≤ 100 ∧ d2.size ≤ 100) (z3 : s3.size ≤ 100 ∧ d3.size ≤ 100) :
  Calls Tryz.prog 70 #[.agg #[.bool n0, .string s0, .string d0, .bool n1, .string s1, .string d1], .agg #[.bool n2, .string s2, .string d2, .bool n3, .string s3, .string d3]] w fun e w' => ∃ m0 a0 l0 c0 m1 a1 l1 c1 a2 l2 c2 X Y U, e = .returned (.agg #[.bool m0, .slice a0 l0 c0, .bool m1, .slice a1 l1 c1, .bool false, .slice a2 l2 c2]) ∧ NV w' m0 (.slice a0 l0 c0) X 53 ∧ NV w' m1 (.slice a1 l1 c1) Y 53 ∧ NV w' false (.slice a2 l2 c2) U 52 ∧ Gm.Way X Y U (qOf n2 s2 d2 - qOf n0 s0 d0) (qOf n3 s3 d3 - qOf n1 s1 d1) ∧ Below w.heap.size w w' :=
 sof_walk n0 n1 n2 n3 s0 d0 s1 d1 s2 d2 s3 d3 _ _ w (fun w1 => less_any n2 n0 s2 d2 s0 d0 w1 o2 o0 z2 z0) (fun w1 => less_any n3 n1 s3 d3 s1 d1 w1 o3 o1 z3 z1)
theorem scross_any (m0 m1 m2 m3 m4 m5 : Bool) (a0 a1 a2 a3 a4 a5 : Option Addr) (l0 c0 l1 c1 l2 c2 l3 c3 l4 c4 l5 c5 : Nat) (X Y X' Y' : Int) (L : Nat) (w : World) (hL : L ≤ 200) (nv0 : NV w m0 (.slice a0 l0 c0) X L) (nv1 : NV w m1 (.slice a1 l1 c1) Y L) (nv3 : NV w m3 (.slice a3 l3 c3) X' L) (nv4 : NV w m4 (.slice a4 l4 c4) Y' L) :
  Calls Tryz.prog 77 #[.agg #[.bool m0, .slice a0 l0 c0, .bool m1, .slice a1 l1 c1, .bool m2, .slice a2 l2 c2], .agg #[.bool m3, .slice a3 l3 c3, .bool m4, .slice a4 l4 c4, .bool m5, .slice a5 l5 c5]] w fun e w' => ∃ m u, e = .returned (.agg #[.bool m, u]) ∧ NV w' m u (X * Y' - Y * X') (L + L + 1) ∧ Below w.heap.size w w' := by
 go_enter Tryz.func77, Tryz.ntmps77
 go_wp2_with fail
 obtain ⟨w0, hw, ka, kb, kr, bb⟩ := mk3 w [.bool m0, .slice a0 l0 c0, .bool m1, .slice a1 l1 c1, .bool m2, .slice a2 l2 c2] [.bool m3, .slice a3 l3 c3, .bool m4, .slice a4 l4 c4, .bool m5, .slice a5 l5 c5] [.bool false, .slice none 0 0] 74 74 72
 rw [← hw]
 clear hw
 have tr := kr.lt
 replace nv0 := nv0.below bb
 replace nv1 := nv1.below bb
 replace nv3 := nv3.below bb
 replace nv4 := nv4.below bb
 have mkS : Hid (∀ w', Cel w' (w.heap.size) [.bool m0, .slice a0 l0 c0, .bool m1, .slice a1 l1 c1, .bool m2, .slice a2 l2 c2] 74 → Cel w' (w.heap.size + 1) [.bool m3, .slice a3 l3 c3, .bool m4, .slice a4 l4 c4, .bool m5, .slice a5 l5 c5] 74 → (xc6 w' w.heap.size (.bool m0) (.slice a0 l0 c0) (.bool m1) (.slice a1 l1 c1) (.bool m2) (.slice a2 l2 c2) ∧ xc6 w' (w.heap.size + 1) (.bool m3) (.slice a3 l3 c3) (.bool m4) (.slice a4 l4 c4) (.bool m5) (.slice a5 l5 c5))) := fun w' ha hb => ⟨xk6 ha, xk6 hb⟩
 have qar : w.heap.size ≠ w.heap.size + 1 + 1 := by omega
 have qbr : w.heap.size + 1 ≠ w.heap.size + 1 + 1 := by omega
 go_region_held3 (fun w' => xc6 w' w.heap.size (.bool m0) (.slice a0 l0 c0) (.bool m1) (.slice a1 l1 c1) (.bool m2) (.slice a2 l2 c2) ∧ xc6 w' (w.heap.size + 1) (.bool m3) (.slice a3 l3 c3) (.bool m4) (.slice a4 l4 c4) (.bool m5) (.slice a5 l5 c5)) (first | with_reducible exact mkS.out _ ka kb | with_reducible exact mkS.out _ (Cel.other (Cel.other ka qar 0 _) qar 1 _) (Cel.other (Cel.other kb qbr 0 _) qbr 1 _) | exact mkS.out _ ka kb) (first | (go_at_call 74; go_fit (ntimes_any _ _ _ _ X Y' L L _ (by omega) (by omega) ?_ ?_); (first | exact nv0 | exact nv0.drew); (first | exact nv4 | exact nv4.drew); rintro e wn ⟨m6, v6, rfl, nv6, -, bn⟩; obtain ⟨a6, l6, c6, rfl⟩ := nv6.slice; replace ka := ka.below (un bn); replace kb := kb.below (un bn); replace kr := kr.below (un bn); (try replace nv0 := nv0.below (un bn)); (try replace nv1 := nv1.below (un bn)); (try replace nv3 := nv3.below (un bn)); (try replace nv4 := nv4.below (un bn)); (try replace nv7 := nv7.below (un bn)); replace bb := Below.after bb (un bn)) | (go_at_call 74; go_fit (ntimes_any _ _ _ _ Y X' L L _ (by omega) (by omega) ?_ ?_); (first | exact nv1 | exact nv1.drew); (first | exact nv3 | exact nv3.drew); rintro e wn ⟨m7, v7, rfl, nv7, -, bn⟩; obtain ⟨a7, l7, c7, rfl⟩ := nv7.slice; replace ka := ka.below (un bn); replace kb := kb.below (un bn); replace kr := kr.below (un bn); (try replace nv0 := nv0.below (un bn)); (try replace nv1 := nv1.below (un bn)); (try replace nv3 := nv3.below (un bn)); (try replace nv4 := nv4.below (un bn)); (try replace nv6 := nv6.below (un bn)); replace bb := Below.after bb (un bn)) | (go_at_call 75; go_fit (nminus_any _ _ _ _ (X * Y') (Y * X') (L + L) _ (by omega) ?_ ?_); (first | exact nv6 | exact nv6.drew); (first | exact nv7 | exact nv7.drew); rintro e wn ⟨m8, v8, rfl, nv8, bn⟩; obtain ⟨a8, l8, c8, rfl⟩ := nv8.slice; replace ka := ka.below (un bn); replace kb := kb.below (un bn); replace kr := kr.below (un bn); (try replace nv0 := nv0.below (un bn)); (try replace nv1 := nv1.below (un bn)); (try replace nv3 := nv3.below (un bn)); (try replace nv4 := nv4.below (un bn)); (try replace nv6 := nv6.below (un bn)); (try replace nv7 := nv7.below (un bn)); replace bb := Below.after bb (un bn); have er0 := cel2_0 kr; have fr0 := Cel.frozen kr 0; have er1 := cel2_1 kr; have fr1 := Cel.frozen kr 1))
 replace nv8 := shut nv8
 go_wp2
 exact post_n (p := 4) (by kernel_rfl) rfl rfl ((kr.set 0 _).set 1 _) ⟨_, _, rfl, nv8.out.set2 kr _ _, bset (bset bb (by omega) 0 _) (by omega) 1 _⟩
theorem sdot_any (m0 m1 m2 m3 m4 m5 : Bool) (a0 a1 a2 a3 a4 a5 : Option Addr) (l0 c0 l1 c1 l2 c2 l3 c3 l4 c4 l5 c5 : Nat) (X Y X' Y' : Int) (L : Nat) (w : World) (hL : L ≤ 200) (nv0 : NV w m0 (.slice a0 l0 c0) X L) (nv1 : NV w m1 (.slice a1 l1 c1) Y L) (nv3 : NV w m3 (.slice a3 l3 c3) X' L) (nv4 : NV w m4 (.slice a4 l4 c4) Y' L) :
  Calls Tryz.prog 71 #[.agg #[.bool m0, .slice a0 l0 c0, .bool m1, .slice a1 l1 c1, .bool m2, .slice a2 l2 c2], .agg #[.bool m3, .slice a3 l3 c3, .bool m4, .slice a4 l4 c4, .bool m5, .slice a5 l5 c5]] w fun e w' => ∃ m u, e = .returned (.agg #[.bool m, u]) ∧ NV w' m u (X * X' + Y * Y') (L + L + 1) ∧ Below w.heap.size w w' := by
 go_enter Tryz.func71, Tryz.ntmps71
 go_wp2_with fail
 obtain ⟨w0, hw, ka, kb, kr, bb⟩ := mk3 w [.bool m0, .slice a0 l0 c0, .bool m1, .slice a1 l1 c1, .bool m2, .slice a2 l2 c2] [.bool m3, .slice a3 l3 c3, .bool m4, .slice a4 l4 c4, .bool m5, .slice a5 l5 c5] [.bool false, .slice none 0 0] 74 74 72
 rw [← hw]
 clear hw
 have tr := kr.lt
 replace nv0 := nv0.below bb
 replace nv1 := nv1.below bb
 replace nv3 := nv3.below bb
 replace nv4 := nv4.below bb
 have mkS : Hid (∀ w', Cel w' (w.heap.size) [.bool m0, .slice a0 l0 c0, .bool m1, .slice a1 l1 c1, .bool m2, .slice a2 l2 c2] 74 → Cel w' (w.heap.size + 1) [.bool m3, .slice a3 l3 c3, .bool m4, .slice a4 l4 c4, .bool m5, .slice a5 l5 c5] 74 → (xc6 w' w.heap.size (.bool m0) (.slice a0 l0 c0) (.bool m1) (.slice a1 l1 c1) (.bool m2) (.slice a2 l2 c2) ∧ xc6 w' (w.heap.size + 1) (.bool m3) (.slice a3 l3 c3) (.bool m4) (.slice a4 l4 c4) (.bool m5) (.slice a5 l5 c5))) := fun w' ha hb => ⟨xk6 ha, xk6 hb⟩
 have qar : w.heap.size ≠ w.heap.size + 1 + 1 := by omega
 have qbr : w.heap.size + 1 ≠ w.heap.size + 1 + 1 := by omega
 go_region_held3 (fun w' => xc6 w' w.heap.size (.bool m0) (.slice a0 l0 c0) (.bool m1) (.slice a1 l1 c1) (.bool m2) (.slice a2 l2 c2) ∧ xc6 w' (w.heap.size + 1) (.bool m3) (.slice a3 l3 c3) (.bool m4) (.slice a4 l4 c4) (.bool m5) (.slice a5 l5 c5)) (first | with_reducible exact mkS.out _ ka kb | with_reducible exact mkS.out _ (Cel.other (Cel.other ka qar 0 _) qar 1 _) (Cel.other (Cel.other kb qbr 0 _) qbr 1 _) | exact mkS.out _ ka kb) (first | (go_at_call 74; go_fit (ntimes_any _ _ _ _ X X' L L _ (by omega) (by omega) ?_ ?_); (first | exact nv0 | exact nv0.drew); (first | exact nv3 | exact nv3.drew); rintro e wn ⟨m6, v6, rfl, nv6, -, bn⟩; obtain ⟨a6, l6, c6, rfl⟩ := nv6.slice; replace ka := ka.below (un bn); replace kb := kb.below (un bn); replace kr := kr.below (un bn); (try replace nv0 := nv0.below (un bn)); (try replace nv1 := nv1.below (un bn)); (try replace nv3 := nv3.below (un bn)); (try replace nv4 := nv4.below (un bn)); (try replace nv7 := nv7.below (un bn)); replace bb := Below.after bb (un bn)) | (go_at_call 74; go_fit (ntimes_any _ _ _ _ Y Y' L L _ (by omega) (by omega) ?_ ?_); (first | exact nv1 | exact nv1.drew); (first | exact nv4 | exact nv4.drew); rintro e wn ⟨m7, v7, rfl, nv7, -, bn⟩; obtain ⟨a7, l7, c7, rfl⟩ := nv7.slice; replace ka := ka.below (un bn); replace kb := kb.below (un bn); replace kr := kr.below (un bn); (try replace nv0 := nv0.below (un bn)); (try replace nv1 := nv1.below (un bn)); (try replace nv3 := nv3.below (un bn)); (try replace nv4 := nv4.below (un bn)); (try replace nv6 := nv6.below (un bn)); replace bb := Below.after bb (un bn)) | (go_at_call 73; go_fit (nplus_any _ _ _ _ (X * X') (Y * Y') (L + L) _ (by omega) ?_ ?_); (first | exact nv6 | exact nv6.drew); (first | exact nv7 | exact nv7.drew); rintro e wn ⟨m8, v8, rfl, nv8, bn⟩; obtain ⟨a8, l8, c8, rfl⟩ := nv8.slice; replace ka := ka.below (un bn); replace kb := kb.below (un bn); replace kr := kr.below (un bn); (try replace nv0 := nv0.below (un bn)); (try replace nv1 := nv1.below (un bn)); (try replace nv3 := nv3.below (un bn)); (try replace nv4 := nv4.below (un bn)); (try replace nv6 := nv6.below (un bn)); (try replace nv7 := nv7.below (un bn)); replace bb := Below.after bb (un bn); have er0 := cel2_0 kr; have fr0 := Cel.frozen kr 0; have er1 := cel2_1 kr; have fr1 := Cel.frozen kr 1))
 replace nv8 := shut nv8
 go_wp2
 exact post_n (p := 4) (by kernel_rfl) rfl rfl ((kr.set 0 _).set 1 _) ⟨_, _, rfl, nv8.out.set2 kr _ _, bset (bset bb (by omega) 0 _) (by omega) 1 _⟩
theorem ssquare_any (m0 m1 m2 : Bool) (a0 a1 a2 : Option Addr) (l0 c0 l1 c1 l2 c2 : Nat) (X Y : Int) (L : Nat) (w : World) (hL : L ≤ 200) (nv0 : NV w m0 (.slice a0 l0 c0) X L) (nv1 : NV w m1 (.slice a1 l1 c1) Y L) :
  Calls Tryz.prog 76 #[.agg #[.bool m0, .slice a0 l0 c0, .bool m1, .slice a1 l1 c1, .bool m2, .slice a2 l2 c2]] w fun e w' => ∃ m u, e = .returned (.agg #[.bool m, u]) ∧ NV w' m u (X * X + Y * Y) (L + L + 1) ∧ Below w.heap.size w w' := by
 go_enter Tryz.func76, Tryz.ntmps76
 go_wp2_with fail
 obtain ⟨w0, hw, ka, kr, bb⟩ := mk2 w [.bool m0, .slice a0 l0 c0, .bool m1, .slice a1 l1 c1, .bool m2, .slice a2 l2 c2] [.bool false, .slice none 0 0] 74 72
 rw [← hw]
 clear hw
 have tr := kr.lt
 go_fit (sdot_any _ _ _ _ _ _ _ _ _ _ _ _ _ _ _ _ _ _ _ _ _ _ _ _ X Y X Y L _ hL (nv0.below bb) (nv1.below bb) (nv0.below bb) (nv1.below bb))
 rintro e w1 ⟨m8, v8, rfl, nv8, b1⟩
 obtain ⟨a8, l8, c8, rfl⟩ := nv8.slice
 replace kr := kr.below b1
 replace bb := Below.after bb b1
 clear b1
 obtain ⟨e0, e1⟩ := xk2 kr
 have f0 := Cel.frozen kr 0
 have f1 := Cel.frozen kr 1
 replace nv8 := shut nv8
 go_wp2
 exact post_n (p := 2) (by kernel_rfl) rfl rfl ((kr.set 0 _).set 1 _) ⟨_, _, rfl, nv8.out.set2 kr _ _, bset (bset bb (by omega) 0 _) (by omega) 1 _⟩
end Go.Proofs.YtiiigiggcbbgjaaGreatDoor
namespace Go.Proofs.YtiiigiggcbbgjaaGreatDoor
open Go.RowKit Go.Shelf
theorem rplus4_walk (n0 n1 n2 n3 xN yN : Bool) (s0 d0 s1 d1 s2 d2 s3 d3 xS xD yS yD : ByteArray) (w : World)
  (H1 : Hid (∀ w1, Calls Tryz.prog 66 #[.agg #[.bool n0, .string s0, .string d0], .agg #[.bool n2, .string s2, .string d2]] w1 (Re w1 (.agg #[.bool xN, .string xS, .string xD]))))
  (H2 : Hid (∀ w1, Calls Tryz.prog 66 #[.agg #[.bool n1, .string s1, .string d1], .agg #[.bool n3, .string s3, .string d3]] w1 (Re w1 (.agg #[.bool yN, .string yS, .string yD])))) :
  Calls Tryz.prog 35 #[.agg #[.bool n0, .string s0, .string d0, .bool n1, .string s1, .string d1], .agg #[.bool n2, .string s2, .string d2, .bool n3, .string s3, .string d3]] w (Re w (.agg #[.bool xN, .string xS, .string xD, .bool yN, .string yS, .string yD])) := by
 go_enter Tryz.func35, Tryz.ntmps35
 go_wp2_with fail
 obtain ⟨w1, hw, ka, kb, kr, b1⟩ := mk3 w [.bool n0, .string s0, .string d0, .bool n1, .string s1, .string d1] [.bool n2, .string s2, .string d2, .bool n3, .string s3, .string d3] [.bool false, .string { data := #[] }, .string { data := #[] }, .bool false, .string { data := #[] }, .string { data := #[] }] 28 28 28
 rw [← hw]
 clear hw
 have sz := b1.size
 have ta := ka.lt
 have tb := kb.lt
 have tr := kr.lt
 have bb := b1
 clear b1
 have qa : w.heap.size ≠ w.heap.size + 1 + 1 := by omega
 have qb : w.heap.size + 1 ≠ w.heap.size + 1 + 1 := by omega
 have mkS : Hid (∀ w', Cel w' (w.heap.size) [.bool n0, .string s0, .string d0, .bool n1, .string s1, .string d1] 28 → Cel w' (w.heap.size + 1) [.bool n2, .string s2, .string d2, .bool n3, .string s3, .string d3] 28 → (xc6 w' w.heap.size (.bool n0) (.string s0) (.string d0) (.bool n1) (.string s1) (.string d1) ∧ xc6 w' (w.heap.size + 1) (.bool n2) (.string s2) (.string d2) (.bool n3) (.string s3) (.string d3))) := fun w' ha hb => ⟨xk6 ha, xk6 hb⟩
 go_region_held3 (fun w' => xc6 w' w.heap.size (.bool n0) (.string s0) (.string d0) (.bool n1) (.string s1) (.string d1) ∧ xc6 w' (w.heap.size + 1) (.bool n2) (.string s2) (.string d2) (.bool n3) (.string s3) (.string d3)) (first | with_reducible exact mkS.out _ ka kb | with_reducible exact mkS.out _ (ka.alloc _) (kb.alloc _) | with_reducible exact mkS.out _ (Cel.other (Cel.other (Cel.other (Cel.other (Cel.other (Cel.other ka qa 0 _) qa 1 _) qa 2 _) qa 3 _) qa 4 _) qa 5 _) (Cel.other (Cel.other (Cel.other (Cel.other (Cel.other (Cel.other kb qb 0 _) qb 1 _) qb 2 _) qb 3 _) qb 4 _) qb 5 _) | exact mkS.out _ ka kb) (first | (go_at_call 66; go_fit (H1.out _); rintro e wn ⟨rfl, bn⟩; replace ka := ka.below (un bn); replace kb := kb.below (un bn); replace kr := kr.below (un bn); replace bb := Below.after bb (un bn)) | (go_at_call 66; go_fit (H2.out _); rintro e wn ⟨rfl, bn⟩; replace ka := ka.below (un bn); replace kb := kb.below (un bn); replace kr := kr.below (un bn); replace bb := Below.after bb (un bn); have e0 := cel6_0 kr; have f0 := Cel.frozen kr 0; have e1 := cel6_1 kr; have f1 := Cel.frozen kr 1; have e2 := cel6_2 kr; have f2 := Cel.frozen kr 2; have e3 := cel6_3 kr; have f3 := Cel.frozen kr 3; have e4 := cel6_4 kr; have f4 := Cel.frozen kr 4; have e5 := cel6_5 kr; have f5 := Cel.frozen kr 5))
 go_wp2
 exact post_p (p := 4) (by kernel_rfl) rfl rfl (kr.set6 _ _ _ _ _ _) ⟨rfl, bset6 bb (by omega) _ _ _ _ _ _⟩
theorem rminus4_walk (n0 n1 n2 n3 xN yN : Bool) (s0 d0 s1 d1 s2 d2 s3 d3 xS xD yS yD : ByteArray) (w : World)
  (H1 : Hid (∀ w1, Calls Tryz.prog 68 #[.agg #[.bool n0, .string s0, .string d0], .agg #[.bool n2, .string s2, .string d2]] w1 (Re w1 (.agg #[.bool xN, .string xS, .string xD]))))
  (H2 : Hid (∀ w1, Calls Tryz.prog 68 #[.agg #[.bool n1, .string s1, .string d1], .agg #[.bool n3, .string s3, .string d3]] w1 (Re w1 (.agg #[.bool yN, .string yS, .string yD])))) :
  Calls Tryz.prog 37 #[.agg #[.bool n0, .string s0, .string d0, .bool n1, .string s1, .string d1], .agg #[.bool n2, .string s2, .string d2, .bool n3, .string s3, .string d3]] w (Re w (.agg #[.bool xN, .string xS, .string xD, .bool yN, .string yS, .string yD])) := by
 go_enter Tryz.func37, Tryz.ntmps37
 go_wp2_with fail
 obtain ⟨w1, hw, ka, kb, kr, b1⟩ := mk3 w [.bool n0, .string s0, .string d0, .bool n1, .string s1, .string d1] [.bool n2, .string s2, .string d2, .bool n3, .string s3, .string d3] [.bool false, .string { data := #[] }, .string { data := #[] }, .bool false, .string { data := #[] }, .string { data := #[] }] 28 28 28
 rw [← hw]
 clear hw
 have sz := b1.size
 have ta := ka.lt
 have tb := kb.lt
 have tr := kr.lt
 have bb := b1
 clear b1
 have qa : w.heap.size ≠ w.heap.size + 1 + 1 := by omega
 have qb : w.heap.size + 1 ≠ w.heap.size + 1 + 1 := by omega
 have mkS : Hid (∀ w', Cel w' (w.heap.size) [.bool n0, .string s0, .string d0, .bool n1, .string s1, .string d1] 28 → Cel w' (w.heap.size + 1) [.bool n2, .string s2, .string d2, .bool n3, .string s3, .string d3] 28 → (xc6 w' w.heap.size (.bool n0) (.string s0) (.string d0) (.bool n1) (.string s1) (.string d1) ∧ xc6 w' (w.heap.size + 1) (.bool n2) (.string s2) (.string d2) (.bool n3) (.string s3) (.string d3))) := fun w' ha hb => ⟨xk6 ha, xk6 hb⟩
 go_region_held3 (fun w' => xc6 w' w.heap.size (.bool n0) (.string s0) (.string d0) (.bool n1) (.string s1) (.string d1) ∧ xc6 w' (w.heap.size + 1) (.bool n2) (.string s2) (.string d2) (.bool n3) (.string s3) (.string d3)) (first | with_reducible exact mkS.out _ ka kb | with_reducible exact mkS.out _ (ka.alloc _) (kb.alloc _) | with_reducible exact mkS.out _ (Cel.other (Cel.other (Cel.other (Cel.other (Cel.other (Cel.other ka qa 0 _) qa 1 _) qa 2 _) qa 3 _) qa 4 _) qa 5 _) (Cel.other (Cel.other (Cel.other (Cel.other (Cel.other (Cel.other kb qb 0 _) qb 1 _) qb 2 _) qb 3 _) qb 4 _) qb 5 _) | exact mkS.out _ ka kb) (first | (go_at_call 68; go_fit (H1.out _); rintro e wn ⟨rfl, bn⟩; replace ka := ka.below (un bn); replace kb := kb.below (un bn); replace kr := kr.below (un bn); replace bb := Below.after bb (un bn)) | (go_at_call 68; go_fit (H2.out _); rintro e wn ⟨rfl, bn⟩; replace ka := ka.below (un bn); replace kb := kb.below (un bn); replace kr := kr.below (un bn); replace bb := Below.after bb (un bn); have e0 := cel6_0 kr; have f0 := Cel.frozen kr 0; have e1 := cel6_1 kr; have f1 := Cel.frozen kr 1; have e2 := cel6_2 kr; have f2 := Cel.frozen kr 2; have e3 := cel6_3 kr; have f3 := Cel.frozen kr 3; have e4 := cel6_4 kr; have f4 := Cel.frozen kr 4; have e5 := cel6_5 kr; have f5 := Cel.frozen kr 5))
 go_wp2
 exact post_p (p := 4) (by kernel_rfl) rfl rfl (kr.set6 _ _ _ _ _ _) ⟨rfl, bset6 bb (by omega) _ _ _ _ _ _⟩
theorem rdot4_walk (n0 n1 n2 n3 xN yN rN : Bool) (s0 d0 s1 d1 s2 d2 s3 d3 xS xD yS yD rS rD : ByteArray) (w : World)
  (H1 : Hid (∀ w1, Calls Tryz.prog 69 #[.agg #[.bool n0, .string s0, .string d0], .agg #[.bool n2, .string s2, .string d2]] w1 (Re w1 (.agg #[.bool xN, .string xS, .string xD]))))
  (H2 : Hid (∀ w1, Calls Tryz.prog 69 #[.agg #[.bool n1, .string s1, .string d1], .agg #[.bool n3, .string s3, .string d3]] w1 (Re w1 (.agg #[.bool yN, .string yS, .string yD]))))
  (H3 : Hid (∀ w1, Calls Tryz.prog 66 #[.agg #[.bool xN, .string xS, .string xD], .agg #[.bool yN, .string yS, .string yD]] w1 (Re w1 (.agg #[.bool rN, .string rS, .string rD])))) :
  Calls Tryz.prog 80 #[.agg #[.bool n0, .string s0, .string d0, .bool n1, .string s1, .string d1], .agg #[.bool n2, .string s2, .string d2, .bool n3, .string s3, .string d3]] w (Re w (.agg #[.bool rN, .string rS, .string rD])) := by
 go_enter Tryz.func80, Tryz.ntmps80
 go_wp2_with fail
 obtain ⟨w1, hw, ka, kb, kr, b1⟩ := mk3 w [.bool n0, .string s0, .string d0, .bool n1, .string s1, .string d1] [.bool n2, .string s2, .string d2, .bool n3, .string s3, .string d3] [.bool false, .string { data := #[] }, .string { data := #[] }] 28 28 26
 rw [← hw]
 clear hw
 have sz := b1.size
 have ta := ka.lt
 have tb := kb.lt
 have tr := kr.lt
 have bb := b1
 clear b1
 have qa : w.heap.size ≠ w.heap.size + 1 + 1 := by omega
 have qb : w.heap.size + 1 ≠ w.heap.size + 1 + 1 := by omega
 have mkS : Hid (∀ w', Cel w' (w.heap.size) [.bool n0, .string s0, .string d0, .bool n1, .string s1, .string d1] 28 → Cel w' (w.heap.size + 1) [.bool n2, .string s2, .string d2, .bool n3, .string s3, .string d3] 28 → (xc6 w' w.heap.size (.bool n0) (.string s0) (.string d0) (.bool n1) (.string s1) (.string d1) ∧ xc6 w' (w.heap.size + 1) (.bool n2) (.string s2) (.string d2) (.bool n3) (.string s3) (.string d3))) := fun w' ha hb => ⟨xk6 ha, xk6 hb⟩
 go_region_held3 (fun w' => xc6 w' w.heap.size (.bool n0) (.string s0) (.string d0) (.bool n1) (.string s1) (.string d1) ∧ xc6 w' (w.heap.size + 1) (.bool n2) (.string s2) (.string d2) (.bool n3) (.string s3) (.string d3)) (first | with_reducible exact mkS.out _ ka kb | with_reducible exact mkS.out _ (ka.alloc _) (kb.alloc _) | with_reducible exact mkS.out _ (Cel.other (Cel.other (Cel.other ka qa 0 _) qa 1 _) qa 2 _) (Cel.other (Cel.other (Cel.other kb qb 0 _) qb 1 _) qb 2 _) | exact mkS.out _ ka kb) (first | (go_at_call 69; go_fit (H1.out _); rintro e wn ⟨rfl, bn⟩; replace ka := ka.below (un bn); replace kb := kb.below (un bn); replace kr := kr.below (un bn); replace bb := Below.after bb (un bn)) | (go_at_call 69; go_fit (H2.out _); rintro e wn ⟨rfl, bn⟩; replace ka := ka.below (un bn); replace kb := kb.below (un bn); replace kr := kr.below (un bn); replace bb := Below.after bb (un bn)) | (go_at_call 66; go_fit (H3.out _); rintro e wn ⟨rfl, bn⟩; replace ka := ka.below (un bn); replace kb := kb.below (un bn); replace kr := kr.below (un bn); replace bb := Below.after bb (un bn); have e0 := cel3_0 kr; have f0 := Cel.frozen kr 0; have e1 := cel3_1 kr; have f1 := Cel.frozen kr 1; have e2 := cel3_2 kr; have f2 := Cel.frozen kr 2))
 go_wp2
 exact post_q (p := 4) (by kernel_rfl) rfl rfl (((kr.set 0 _).set 1 _).set 2 _) ⟨rfl, bset (bset (bset bb (by omega) 0 _) (by omega) 1 _) (by omega) 2 _⟩
theorem rcross4_walk (n0 n1 n2 n3 xN yN rN : Bool) (s0 d0 s1 d1 s2 d2 s3 d3 xS xD yS yD rS rD : ByteArray) (w : World)
  (H1 : Hid (∀ w1, Calls Tryz.prog 69 #[.agg #[.bool n0, .string s0, .string d0], .agg #[.bool n3, .string s3, .string d3]] w1 (Re w1 (.agg #[.bool xN, .string xS, .string xD]))))
  (H2 : Hid (∀ w1, Calls Tryz.prog 69 #[.agg #[.bool n1, .string s1, .string d1], .agg #[.bool n2, .string s2, .string d2]] w1 (Re w1 (.agg #[.bool yN, .string yS, .string yD]))))
  (H3 : Hid (∀ w1, Calls Tryz.prog 68 #[.agg #[.bool xN, .string xS, .string xD], .agg #[.bool yN, .string yS, .string yD]] w1 (Re w1 (.agg #[.bool rN, .string rS, .string rD])))) :
  Calls Tryz.prog 65 #[.agg #[.bool n0, .string s0, .string d0, .bool n1, .string s1, .string d1], .agg #[.bool n2, .string s2, .string d2, .bool n3, .string s3, .string d3]] w (Re w (.agg #[.bool rN, .string rS, .string rD])) := by
 go_enter Tryz.func65, Tryz.ntmps65
 go_wp2_with fail
 obtain ⟨w1, hw, ka, kb, kr, b1⟩ := mk3 w [.bool n0, .string s0, .string d0, .bool n1, .string s1, .string d1] [.bool n2, .string s2, .string d2, .bool n3, .string s3, .string d3] [.bool false, .string { data := #[] }, .string { data := #[] }] 28 28 26
 rw [← hw]
 clear hw
 have sz := b1.size
 have ta := ka.lt
 have tb := kb.lt
 have tr := kr.lt
 have bb := b1
 clear b1
 have qa : w.heap.size ≠ w.heap.size + 1 + 1 := by omega
 have qb : w.heap.size + 1 ≠ w.heap.size + 1 + 1 := by omega
 have mkS : Hid (∀ w', Cel w' (w.heap.size) [.bool n0, .string s0, .string d0, .bool n1, .string s1, .string d1] 28 → Cel w' (w.heap.size + 1) [.bool n2, .string s2, .string d2, .bool n3, .string s3, .string d3] 28 → (xc6 w' w.heap.size (.bool n0) (.string s0) (.string d0) (.bool n1) (.string s1) (.string d1) ∧ xc6 w' (w.heap.size + 1) (.bool n2) (.string s2) (.string d2) (.bool n3) (.string s3) (.string d3))) := fun w' ha hb => ⟨xk6 ha, xk6 hb⟩
 go_region_held3 (fun w' => xc6 w' w.heap.size (.bool n0) (.string s0) (.string d0) (.bool n1) (.string s1) (.string d1) ∧ xc6 w' (w.heap.size + 1) (.bool n2) (.string s2) (.string d2) (.bool n3) (.string s3) (.string d3)) (first | with_reducible exact mkS.out _ ka kb | with_reducible exact mkS.out _ (ka.alloc _) (kb.alloc _) | with_reducible exact mkS.out _ (Cel.other (Cel.other (Cel.other ka qa 0 _) qa 1 _) qa 2 _) (Cel.other (Cel.other (Cel.other kb qb 0 _) qb 1 _) qb 2 _) | exact mkS.out _ ka kb) (first | (go_at_call 69; go_fit (H1.out _); rintro e wn ⟨rfl, bn⟩; replace ka := ka.below (un bn); replace kb := kb.below (un bn); replace kr := kr.below (un bn); replace bb := Below.after bb (un bn)) | (go_at_call 69; go_fit (H2.out _); rintro e wn ⟨rfl, bn⟩; replace ka := ka.below (un bn); replace kb := kb.below (un bn); replace kr := kr.below (un bn); replace bb := Below.after bb (un bn)) | (go_at_call 68; go_fit (H3.out _); rintro e wn ⟨rfl, bn⟩; replace ka := ka.below (un bn); replace kb := kb.below (un bn); replace kr := kr.below (un bn); replace bb := Below.after bb (un bn); have e0 := cel3_0 kr; have f0 := Cel.frozen kr 0; have e1 := cel3_1 kr; have f1 := Cel.frozen kr 1; have e2 := cel3_2 kr; have f2 := Cel.frozen kr 2))
 go_wp2
 exact post_q (p := 4) (by kernel_rfl) rfl rfl (((kr.set 0 _).set 1 _).set 2 _) ⟨rfl, bset (bset (bset bb (by omega) 0 _) (by omega) 1 _) (by omega) 2 _⟩
theorem rnorm4_walk (n0 n1 rN : Bool) (s0 d0 s1 d1 rS rD : ByteArray) (w : World)
  (H1 : Hid (∀ w1, Calls Tryz.prog 80 #[.agg #[.bool n0, .string s0, .string d0, .bool n1, .string s1, .string d1], .agg #[.bool n0, .string s0, .string d0, .bool n1, .string s1, .string d1]] w1 (Re w1 (.agg #[.bool rN, .string rS, .string rD])))) :
  Calls Tryz.prog 63 #[.agg #[.bool n0, .string s0, .string d0, .bool n1, .string s1, .string d1]] w (Re w (.agg #[.bool rN, .string rS, .string rD])) := by
 go_enter Tryz.func63, Tryz.ntmps63
 go_wp2_with fail
 go_fit (H1.out _)
 rintro e w1 ⟨rfl, b1⟩
 obtain ⟨ka, kr, b1⟩ := al2 b1
 have sz := b1.size
 have bb := b1
 clear b1
 have ta := ka.lt
 have tr := kr.lt
 have cr_0 := cel3_0 kr
 have fr_1 := Cel.frozen kr 0
 have cr_2 := cel3_1 kr
 have fr_3 := Cel.frozen kr 1
 have cr_4 := cel3_2 kr
 have fr_5 := Cel.frozen kr 2
 go_wp2
 exact post_q (p := 2) (by kernel_rfl) rfl rfl (((kr.set 0 _).set 1 _).set 2 _) ⟨rfl, bset (bset (bset bb (by omega) 0 _) (by omega) 1 _) (by omega) 2 _⟩
open Go.RowKit
theorem bytes_eq {a b : ByteArray} (h : a.toList = b.toList) : a = b := toList_inj (by rw [h]; exact BEq.rfl)
theorem run_peq (n0 n1 n2 n3 : Bool) (s0 d0 s1 d1 s2 d2 s3 d3 : ByteArray) (w : World) (hne : ¬ (n0 = n2 ∧ s0 = s2 ∧ d0 = d2 ∧ n1 = n3 ∧ s1 = s3 ∧ d1 = d3)) : (binOp .eql 28 (.agg #[.bool n0, .string s0, .string d0, .bool n1, .string s1, .string d1]) (.agg #[.bool n2, .string s2, .string d2, .bool n3, .string s3, .string d3])).run Tryz.prog w = .ok (.bool false) w := by
 go_simp
 intro a b c d e f
 exact hne ⟨a, bytes_eq b, bytes_eq c, d, bytes_eq e, bytes_eq f⟩
def SpV (w : World) (m0 : Bool) (a0 : Option Addr) (l0 c0 : Nat) (m1 : Bool) (a1 : Option Addr) (l1 c1 : Nat) (a2 : Option Addr) (l2 c2 : Nat) (X Y U : Int) (x y : Rat) : Prop := NV w m0 (.slice a0 l0 c0) X 53 ∧ NV w m1 (.slice a1 l1 c1) Y 53 ∧ NV w false (.slice a2 l2 c2) U 52 ∧ Gm.Way X Y U x y
theorem SpV.below {w w' : World} {m0 : Bool} {a0 : Option Addr} {l0 c0 : Nat} {m1 : Bool} {a1 : Option Addr} {l1 c1 : Nat} {a2 : Option Addr} {l2 c2 : Nat} {X Y U : Int} {x y : Rat} (h : SpV w m0 a0 l0 c0 m1 a1 l1 c1 a2 l2 c2 X Y U x y) (b : Below w.heap.size w w') : SpV w' m0 a0 l0 c0 m1 a1 l1 c1 a2 l2 c2 X Y U x y := ⟨h.1.below b, h.2.1.below b, h.2.2.1.below b, h.2.2.2⟩
theorem SpV.set6 {w : World} {n0 : Bool} {a0 : Option Addr} {l0 c0 : Nat} {n1 : Bool} {a1 : Option Addr} {l1 c1 : Nat} {a2 : Option Addr} {l2 c2 : Nat} {X Y U : Int} {rx ry : Rat} {m o p : Bool} {g : Nat} {a b d : Option Addr} {l c l3 c3 l4 c4 : Nat} {t : TypeId} (h : SpV w n0 a0 l0 c0 n1 a1 l1 c1 a2 l2 c2 X Y U rx ry) (hc : Cel w g [.bool m, .slice a l c, .bool o, .slice b l3 c3, .bool p, .slice d l4 c4] t) (x0 x1 x2 x3 x4 x5 : Value) : SpV ((((((w.setCell ⟨g, 0, none⟩ x0).setCell ⟨g, 1, none⟩ x1).setCell ⟨g, 2, none⟩ x2).setCell ⟨g, 3, none⟩ x3).setCell ⟨g, 4, none⟩ x4).setCell ⟨g, 5, none⟩ x5) n0 a0 l0 c0 n1 a1 l1 c1 a2 l2 c2 X Y U rx ry := ⟨h.1.set6 hc x0 x1 x2 x3 x4 x5, h.2.1.set6 hc x0 x1 x2 x3 x4 x5, h.2.2.1.set6 hc x0 x1 x2 x3 x4 x5, h.2.2.2⟩
theorem sharp_sign {X Y U X' Y' U' : Int} {x y x' y' : Rat} (h : Gm.Way X Y U x y) (h' : Gm.Way X' Y' U' x' y') : ((X * X' + Y * Y' + (X * X' + Y * Y')) * (X * X' + Y * Y' + (X * X' + Y * Y')) - (X * X + Y * Y) * (X' * X' + Y' * Y')).sign = Gm.sg (4 * ((x * x' + y * y') * (x * x' + y * y')) - (x * x + y * y) * (x' * x' + y' * y')) := by
 obtain ⟨hu, e1, e2⟩ := h
 obtain ⟨hv, e3, e4⟩ := h'
 refine Gm.sg_of (k := ((U : Rat) * U') * ((U : Rat) * U')) (Rat.mul_pos (Rat.mul_pos (Gm.upos hu) (Gm.upos hv)) (Rat.mul_pos (Gm.upos hu) (Gm.upos hv))) ?_
 simp only [Rat.intCast_sub, Rat.intCast_mul, Rat.intCast_add]
 rw [e1, e2, e3, e4]
 grind
theorem sharp_less {X Y U X' Y' U' : Int} {x y x' y' : Rat} (h : Gm.Way X Y U x y) (h' : Gm.Way X' Y' U' x' y') : (X * X + Y * Y) * (X' * X' + Y' * Y') < (X * X' + Y * Y' + (X * X' + Y * Y')) * (X * X' + Y * Y' + (X * X' + Y * Y')) ↔ 0 < Gm.sg (4 * ((x * x' + y * y') * (x * x' + y * y')) - (x * x + y * y) * (x' * x' + y' * y')) := by
 rw [← sharp_sign h h']
 generalize (X * X + Y * Y) * (X' * X' + Y' * Y') = p
 generalize (X * X' + Y * Y' + (X * X' + Y * Y')) * (X * X' + Y * Y' + (X * X' + Y * Y')) = q
 rw [show (0 < (q - p).sign) ↔ 0 < q - p from ⟨fun k => by rcases Int.lt_trichotomy (q - p) 0 with h | h | h; (rw [Int.sign_eq_neg_one_of_neg h] at k; omega); (rw [h] at k; exact absurd k (by decide)); exact h, fun k => by rw [Int.sign_eq_one_of_pos k]; decide⟩]
 omega
open Go.RowKit
theorem post_s1 {fn : Func} {p u : Tmp} {R : Ending → World → Prop} {a : Act} {w : World} {g : Nat} {x0 x1 x2 x3 x4 x5 v : Value} (h : fn.results = #[.cell p 74, .tmp u]) (hp : a.tmps.getD p undef = .pointer (some ⟨g, 0, none⟩)) (hu : a.tmps.getD u undef = v) (hd : a.defers = [])
  (hc : Cel w g [x0, x1, x2, x3, x4, x5] 74) (hR : R (.returned (.tuple #[.agg #[x0, x1, x2, x3, x4, x5], v])) w) : bodyPost Tryz.prog fn R .ret a w := by
 refine ⟨hd, .tuple #[.agg #[x0, x1, x2, x3, x4, x5], v], ?_, hR⟩
 have hp' : a.tmps[p]?.getD undef = .pointer (some ⟨g, 0, none⟩) := by simpa using hp
 have hu' : a.tmps[u]?.getD undef = v := by simpa using hu
 simp only [results, h]
 simp [Result.andThen, hp', hu', asAddr, load_s hc]
theorem nsize_any (n : Bool) (v : Value) (z : Int) (L : Nat) (w : World) (h : NV w n v z L) :
  Calls Tryz.prog 101 #[.agg #[.bool n, v]] w fun e w' => e = .returned (.agg #[.bool false, v]) ∧ NV w' false v z.natAbs L ∧ Below w.heap.size w w' := by
 have HA : Hid (∀ w1, Below w.heap.size w w1 → NV w1 false v z.natAbs L) := fun w1 b => by
  obtain ⟨k, r, hk, rfl⟩ := h.below b
  exact ⟨k, r, hk, by rw [natAbs_sgn]; rfl⟩
 obtain ⟨a, l, c, rfl⟩ := h.slice
 clear h
 go_enter Tryz.func101, Tryz.ntmps101
 go_wp2_with fail
 obtain ⟨w0, hw, k0, kr, bb⟩ := mk2 w [.bool n, .slice a l c] [.bool false, .slice a l c] 72 72
 rw [← hw]
 clear hw
 exact post_n (p := 2) (by kernel_rfl) rfl rfl kr ⟨rfl, HA.out _ bb, bb⟩
open Go.RowKit
theorem make_way {X U : Int} {x : Rat} (w : World) (hT : Tab w) (bX : Bd X 8000) (bU : Bd U 8000) (hU : 0 < U) (h : (X : Rat) = (U : Rat) * x) :
  Calls Tryz.prog 61 #[.agg #[.bool (nfZ X), .string (sfZ X)], .agg #[.bool (nfZ U), .string (sfZ U)]] w (Re w (.tuple #[.agg #[.bool (nfZ x.num), .string (sfZ x.num), .string (strOf x.den)], .int .i64 0])) := by
 have := make_ok (nfZ X) (nfZ U) (sfZ X) (sfZ U) w hT (okZ_nz X) (okZ_nz U) (K := 8000) (by omega) (bd_sf bX) (bd_sf bU) (by rw [natOf_sfZ]; omega)
 rw [zOf_nz, zOf_nz] at this
 have e : Rat.divInt X U = x := by
  rw [Rat.divInt_eq_div, h]
  have hp := Gm.upos hU
  rw [Rat.div_def]
  have := Rat.mul_inv_cancel (U : Rat) (by grind)
  grind
 rw [e] at this
 exact this
theorem cCen_flat (n0 n1 n2 n3 n4 n5 : Bool) (s0 d0 s1 d1 s2 d2 s3 d3 s4 d4 s5 d5 : ByteArray) (w : World)
  (HC : Hid (∀ (w1 : World) (B : Nat), Below w.heap.size w w1 → Cel w1 B [.bool n0, .string s0, .string d0, .bool n1, .string s1, .string d1, .bool n2, .string s2, .string d2, .bool n3, .string s3, .string d3, .bool n4, .string s4, .string d4, .bool n5, .string s5, .string d5] 28 → Calls Tryz.prog 45 #[.slice (some ⟨B, 0, none⟩) 3 3] w1 (Re w1 (.int .i64 0))))
  (HT : Hid (∀ w1, Calls Tryz.prog 60 #[.agg #[.bool n0, .string s0, .string d0, .bool n1, .string s1, .string d1], .agg #[.bool n2, .string s2, .string d2, .bool n3, .string s3, .string d3], .agg #[.bool n4, .string s4, .string d4, .bool n5, .string s5, .string d5]] w1 (Re w1 (.tuple #[.agg #[.bool false, .slice none 0 0, .bool false, .slice none 0 0, .bool false, .slice none 0 0], .bool false])))) :
  Calls Tryz.prog 22 #[.agg #[.bool n0, .string s0, .string d0, .bool n1, .string s1, .string d1], .agg #[.bool n2, .string s2, .string d2, .bool n3, .string s3, .string d3], .agg #[.bool n4, .string s4, .string d4, .bool n5, .string s5, .string d5]] w (Re w (.tuple #[.agg #[.bool false, .string { data := #[] }, .string { data := #[] }, .bool false, .string { data := #[] }, .string { data := #[] }], .int .i64 6])) := by
 go_enter Tryz.func22, Tryz.ntmps22
 go_wp2_with fail
 obtain ⟨w0, hw, ka, kb, kc, kr, kl, bb⟩ := mk5 w [.bool n0, .string s0, .string d0, .bool n1, .string s1, .string d1] [.bool n2, .string s2, .string d2, .bool n3, .string s3, .string d3] [.bool n4, .string s4, .string d4, .bool n5, .string s5, .string d5] [.bool false, .string { data := #[] }, .string { data := #[] }, .bool false, .string { data := #[] }, .string { data := #[] }] [.bool n0, .string s0, .string d0, .bool n1, .string s1, .string d1, .bool n2, .string s2, .string d2, .bool n3, .string s3, .string d3, .bool n4, .string s4, .string d4, .bool n5, .string s5, .string d5] 28 28 28 28 28
 rw [← hw]
 clear hw
 go_fit (HC.out _ _ bb kl)
 rintro e w1 ⟨rfl, b1⟩
 replace ka := ka.below b1
 replace kb := kb.below b1
 replace kc := kc.below b1
 replace kr := kr.below b1
 replace bb := Below.after bb b1
 clear b1 kl
 obtain ⟨za0, za1, za2, za3, za4, za5⟩ := xk6 ka
 obtain ⟨zb0, zb1, zb2, zb3, zb4, zb5⟩ := xk6 kb
 obtain ⟨zc0, zc1, zc2, zc3, zc4, zc5⟩ := xk6 kc
 go_wp2_with fail
 clear za0 za1 za2 za3 za4 za5 zb0 zb1 zb2 zb3 zb4 zb5 zc0 zc1 zc2 zc3 zc4 zc5
 go_fit (HT.out _)
 rintro e w2 ⟨rfl, b1⟩
 replace kr := kr.below b1
 replace bb := Below.after bb b1
 clear b1
 have kr' := kr.alloc (.cells #[.bool false, .slice none 0 0, .bool false, .slice none 0 0, .bool false, .slice none 0 0] 74)
 obtain ⟨e0, e1, e2, e3, e4, e5⟩ := xk6 kr'
 have f0 := Cel.frozen kr' 0
 have f1 := Cel.frozen kr' 1
 have f2 := Cel.frozen kr' 2
 have f3 := Cel.frozen kr' 3
 have f4 := Cel.frozen kr' 4
 have f5 := Cel.frozen kr' 5
 go_wp2
 replace kr := kr'
 replace bb := Below.after bb (bel_al w2 (.cells #[.bool false, .slice none 0 0, .bool false, .slice none 0 0, .bool false, .slice none 0 0] 74))
 exact post_p1 (p := 6) (u := 7) (v := .int .i64 6) (by kernel_rfl) rfl rfl rfl (kr.set6 _ _ _ _ _ _) ⟨rfl, bset6 bb (by omega) _ _ _ _ _ _⟩
open Go.RowKit
theorem cNear_bad (n0 n1 n2 n3 n4 n5 : Bool) (s0 d0 s1 d1 s2 d2 s3 d3 s4 d4 s5 d5 : ByteArray) (E : Int) (w : World) (hE : ¬ E = 0)
  (HC : Hid (∀ (w1 : World) (B : Nat), Below w.heap.size w w1 → Cel w1 B [.bool n0, .string s0, .string d0, .bool n1, .string s1, .string d1, .bool n2, .string s2, .string d2, .bool n3, .string s3, .string d3, .bool n4, .string s4, .string d4, .bool n5, .string s5, .string d5] 28 → Calls Tryz.prog 45 #[.slice (some ⟨B, 0, none⟩) 3 3] w1 (Re w1 (.int .i64 E)))) :
  Calls Tryz.prog 34 #[.agg #[.bool n0, .string s0, .string d0, .bool n1, .string s1, .string d1], .agg #[.bool n2, .string s2, .string d2, .bool n3, .string s3, .string d3], .agg #[.bool n4, .string s4, .string d4, .bool n5, .string s5, .string d5]] w (Re w (.tuple #[.agg #[.bool false, .string { data := #[] }, .string { data := #[] }], .int .i64 E])) := by
 go_enter Tryz.func34, Tryz.ntmps34
 go_wp2_with fail
 obtain ⟨w0, hw, ka, kb, kc, kr, kl, bb⟩ := mk5 w [.bool n0, .string s0, .string d0, .bool n1, .string s1, .string d1] [.bool n2, .string s2, .string d2, .bool n3, .string s3, .string d3] [.bool n4, .string s4, .string d4, .bool n5, .string s5, .string d5] [.bool false, .string { data := #[] }, .string { data := #[] }] [.bool n0, .string s0, .string d0, .bool n1, .string s1, .string d1, .bool n2, .string s2, .string d2, .bool n3, .string s3, .string d3, .bool n4, .string s4, .string d4, .bool n5, .string s5, .string d5] 28 28 28 26 28
 rw [← hw]
 clear hw
 go_fit (HC.out _ _ bb kl)
 rintro e w1 ⟨rfl, b1⟩
 replace ka := ka.below b1
 replace kb := kb.below b1
 replace kc := kc.below b1
 replace kr := kr.below b1
 replace bb := Below.after bb b1
 clear b1 kl
 have e0 := cel3_0 kr
 have f0 := Cel.frozen kr 0
 have e1 := cel3_1 kr
 have f1 := Cel.frozen kr 1
 have e2 := cel3_2 kr
 have f2 := Cel.frozen kr 2
 go_wp2
 exact post_q1 (p := 6) (u := 7) (v := .int .i64 E) (by kernel_rfl) rfl rfl rfl (((kr.set 0 _).set 1 _).set 2 _) ⟨rfl, bset (bset (bset bb (by omega) 0 _) (by omega) 1 _) (by omega) 2 _⟩
theorem cNear_same (n0 n1 n2 n3 n4 n5 : Bool) (s0 d0 s1 d1 s2 d2 s3 d3 s4 d4 s5 d5 : ByteArray) (xN : Bool) (xS xD : ByteArray) (w : World)
  (HC : Hid (∀ (w1 : World) (B : Nat), Below w.heap.size w w1 → Cel w1 B [.bool n0, .string s0, .string d0, .bool n1, .string s1, .string d1, .bool n2, .string s2, .string d2, .bool n3, .string s3, .string d3, .bool n4, .string s4, .string d4, .bool n5, .string s5, .string d5] 28 → Calls Tryz.prog 45 #[.slice (some ⟨B, 0, none⟩) 3 3] w1 (Re w1 (.int .i64 0))))
  (q1 : ∀ w1, (binOp .eql 28 (.agg #[.bool n0, .string s0, .string d0, .bool n1, .string s1, .string d1]) (.agg #[.bool n2, .string s2, .string d2, .bool n3, .string s3, .string d3])).run Tryz.prog w1 = .ok (.bool true) w1)
  (HF : Hid (∀ w1, Below w.heap.size w w1 → Calls Tryz.prog 59 #[.agg #[.bool n0, .string s0, .string d0, .bool n1, .string s1, .string d1], .agg #[.bool n4, .string s4, .string d4, .bool n5, .string s5, .string d5]] w1 (Re w1 (.agg #[.bool xN, .string xS, .string xD])))) :
  Calls Tryz.prog 34 #[.agg #[.bool n0, .string s0, .string d0, .bool n1, .string s1, .string d1], .agg #[.bool n2, .string s2, .string d2, .bool n3, .string s3, .string d3], .agg #[.bool n4, .string s4, .string d4, .bool n5, .string s5, .string d5]] w (Re w (.tuple #[.agg #[.bool xN, .string xS, .string xD], .int .i64 0])) := by
 go_enter Tryz.func34, Tryz.ntmps34
 go_wp2_with fail
 obtain ⟨w0, hw, ka, kb, kc, kr, kl, bb⟩ := mk5 w [.bool n0, .string s0, .string d0, .bool n1, .string s1, .string d1] [.bool n2, .string s2, .string d2, .bool n3, .string s3, .string d3] [.bool n4, .string s4, .string d4, .bool n5, .string s5, .string d5] [.bool false, .string { data := #[] }, .string { data := #[] }] [.bool n0, .string s0, .string d0, .bool n1, .string s1, .string d1, .bool n2, .string s2, .string d2, .bool n3, .string s3, .string d3, .bool n4, .string s4, .string d4, .bool n5, .string s5, .string d5] 28 28 28 26 28
 rw [← hw]
 clear hw
 go_fit (HC.out _ _ bb kl)
 rintro e w1 ⟨rfl, b1⟩
 replace ka := ka.below b1
 replace kb := kb.below b1
 replace kc := kc.below b1
 replace kr := kr.below b1
 replace bb := Below.after bb b1
 clear b1 kl
 obtain ⟨ca0, ca1, ca2, ca3, ca4, ca5⟩ := xk6 ka
 obtain ⟨cb0, cb1, cb2, cb3, cb4, cb5⟩ := xk6 kb
 obtain ⟨cc0, cc1, cc2, cc3, cc4, cc5⟩ := xk6 kc
 go_wp2_with fail
 clear ca0 ca1 ca2 ca3 ca4 ca5 cb0 cb1 cb2 cb3 cb4 cb5 cc0 cc1 cc2 cc3 cc4 cc5
 go_fit (HF.out _ bb)
 rintro e wz ⟨rfl, b1⟩
 replace kr := kr.below b1
 replace bb := Below.after bb b1
 clear b1
 have e0 := cel3_0 kr
 have f0 := Cel.frozen kr 0
 have e1 := cel3_1 kr
 have f1 := Cel.frozen kr 1
 have e2 := cel3_2 kr
 have f2 := Cel.frozen kr 2
 go_wp2
 exact post_q1 (p := 6) (u := 7) (v := .int .i64 0) (by kernel_rfl) rfl rfl rfl (((kr.set 0 _).set 1 _).set 2 _) ⟨rfl, bset (bset (bset bb (by omega) 0 _) (by omega) 1 _) (by omega) 2 _⟩
open Go.RowKit
theorem cCen_ok (n0 n1 n2 n3 n4 n5 : Bool) (s0 d0 s1 d1 s2 d2 s3 d3 s4 d4 s5 d5 : ByteArray) (cx cy : Rat) (rN tN : Bool) (rS rD tS tD : ByteArray) (w : World) (hT : Tab w)
  (HC : Hid (∀ (w1 : World) (B : Nat), Below w.heap.size w w1 → Cel w1 B [.bool n0, .string s0, .string d0, .bool n1, .string s1, .string d1, .bool n2, .string s2, .string d2, .bool n3, .string s3, .string d3, .bool n4, .string s4, .string d4, .bool n5, .string s5, .string d5] 28 → Calls Tryz.prog 45 #[.slice (some ⟨B, 0, none⟩) 3 3] w1 (Re w1 (.int .i64 0))))
  (HT : Hid (∀ w1, Calls Tryz.prog 60 #[.agg #[.bool n0, .string s0, .string d0, .bool n1, .string s1, .string d1], .agg #[.bool n2, .string s2, .string d2, .bool n3, .string s3, .string d3], .agg #[.bool n4, .string s4, .string d4, .bool n5, .string s5, .string d5]] w1 fun e w' => ∃ m0 a0 l0 c0 m1 a1 l1 c1 m2 a2 l2 c2 X Y U, e = .returned (.tuple #[.agg #[.bool m0, .slice a0 l0 c0, .bool m1, .slice a1 l1 c1, .bool m2, .slice a2 l2 c2], .bool true]) ∧ NV w' m0 (.slice a0 l0 c0) X 319 ∧ NV w' m1 (.slice a1 l1 c1) Y 319 ∧ NV w' m2 (.slice a2 l2 c2) U 212 ∧ Gm.Way X Y U cx cy ∧ Below w1.heap.size w1 w'))
  (HP : Hid (∀ w1, Below w.heap.size w w1 → Calls Tryz.prog 53 #[.agg #[.bool n0, .string s0, .string d0, .bool n1, .string s1, .string d1], .agg #[.bool (nfZ cx.num), .string (sfZ cx.num), .string (strOf cx.den), .bool (nfZ cy.num), .string (sfZ cy.num), .string (strOf cy.den)]] w1 (Re w1 (.tuple #[.agg #[.bool rN, .string rS, .string rD, .bool tN, .string tS, .string tD], .int .i64 0])))) :
  Calls Tryz.prog 22 #[.agg #[.bool n0, .string s0, .string d0, .bool n1, .string s1, .string d1], .agg #[.bool n2, .string s2, .string d2, .bool n3, .string s3, .string d3], .agg #[.bool n4, .string s4, .string d4, .bool n5, .string s5, .string d5]] w (Re w (.tuple #[.agg #[.bool rN, .string rS, .string rD, .bool tN, .string tS, .string tD], .int .i64 0])) := by
 go_enter Tryz.func22, Tryz.ntmps22
 go_wp2_with fail
 obtain ⟨w0, hw, ka, kb, kc, kr, kl, bb⟩ := mk5 w [.bool n0, .string s0, .string d0, .bool n1, .string s1, .string d1] [.bool n2, .string s2, .string d2, .bool n3, .string s3, .string d3] [.bool n4, .string s4, .string d4, .bool n5, .string s5, .string d5] [.bool false, .string { data := #[] }, .string { data := #[] }, .bool false, .string { data := #[] }, .string { data := #[] }] [.bool n0, .string s0, .string d0, .bool n1, .string s1, .string d1, .bool n2, .string s2, .string d2, .bool n3, .string s3, .string d3, .bool n4, .string s4, .string d4, .bool n5, .string s5, .string d5] 28 28 28 28 28
 rw [← hw]
 clear hw
 go_fit (HC.out _ _ bb kl)
 rintro e w1 ⟨rfl, b1⟩
 replace ka := ka.below b1
 replace kb := kb.below b1
 replace kc := kc.below b1
 replace kr := kr.below b1
 replace bb := Below.after bb b1
 clear b1 kl
 have tr := kr.lt
 obtain ⟨za0, za1, za2, za3, za4, za5⟩ := xk6 ka
 obtain ⟨zb0, zb1, zb2, zb3, zb4, zb5⟩ := xk6 kb
 obtain ⟨zc0, zc1, zc2, zc3, zc4, zc5⟩ := xk6 kc
 go_wp2_with fail
 clear za0 za1 za2 za3 za4 za5 zb0 zb1 zb2 zb3 zb4 zb5 zc0 zc1 zc2 zc3 zc4 zc5
 go_fit (HT.out _)
 rintro e w2 ⟨m0, a0, l0, c0, m1, a1, l1, c1, m2, a2, l2, c2, X, Y, U, rfl, nx, ny, nu, wy, b1⟩
 have sz := b1.size
 replace ka := ka.below b1
 replace kb := kb.below b1
 replace kc := kc.below b1
 replace kr := kr.below b1
 replace bb := Below.after bb b1
 clear b1
 go_wp2_with fail
 obtain ⟨w3, hw, ky, b1⟩ := mk1 w2 [.bool m0, .slice a0 l0 c0, .bool m1, .slice a1 l1 c1, .bool m2, .slice a2 l2 c2] 74
 rw [← hw]
 clear hw
 have sz := b1.size
 replace ka := ka.below b1
 replace kb := kb.below b1
 replace kc := kc.below b1
 replace kr := kr.below b1
 replace nx := nx.below b1
 replace ny := ny.below b1
 replace nu := nu.below b1
 replace bb := Below.after bb b1
 clear b1
 have ty := ky.lt
 have HM1 : Hid (∀ w1, Below w.heap.size w w1 → Calls Tryz.prog 61 #[.agg #[.bool (nfZ X), .string (sfZ X)], .agg #[.bool (nfZ U), .string (sfZ U)]] w1 (Re w1 (.tuple #[.agg #[.bool (nfZ cx.num), .string (sfZ cx.num), .string (strOf cx.den)], .int .i64 0]))) := fun w1 b => make_way w1 (hT.below b) (nx.bd (by omega)) (nu.bd (by omega)) wy.1 wy.2.1
 have HM2 : Hid (∀ w1, Below w.heap.size w w1 → Calls Tryz.prog 61 #[.agg #[.bool (nfZ Y), .string (sfZ Y)], .agg #[.bool (nfZ U), .string (sfZ U)]] w1 (Re w1 (.tuple #[.agg #[.bool (nfZ cy.num), .string (sfZ cy.num), .string (strOf cy.den)], .int .i64 0]))) := fun w1 b => make_way w1 (hT.below b) (ny.bd (by omega)) (nu.bd (by omega)) wy.1 wy.2.2
 clear wy hT HC HT
 have mk : Hid (∀ w', SB w3 w' → xc6 w' w2.heap.size (.bool m0) (.slice a0 l0 c0) (.bool m1) (.slice a1 l1 c1) (.bool m2) (.slice a2 l2 c2)) := fun w' h => xk6 (ky.below h)
 go_cut [11, 12] from 34 to 43 (fun v y12 wx => ∃ gc, v = .pointer (some ⟨gc, 0, none⟩) ∧ y12 = .int .i64 0 ∧ w3.heap.size ≤ gc ∧ Cel wx gc [.bool (nfZ cx.num), .string (sfZ cx.num), .string (strOf cx.den)] 26 ∧ Below w3.heap.size w3 wx)
 case first =>
  clear HP HM2
  refine wp_region_held_drew (S := SB w3) (by kernel_rfl) (bdrew _) (fun bc => ?_)
  refine WA.start (n := 13) (by kernel_rfl) ?_
  refine WA.tk 0 rfl ?_
  refine WA.tl 1 rfl ?_
  refine WA.tk 3 rfl ?_
  refine WA.tl 4 rfl ?_
  refine WA.gen (i := 10) (s := 11) undef (Pt w3 [.bool false, .string { data := #[] }, .string { data := #[] }] 26) (fun b x hz => ?_)
  simp only [Act.put, List.setIfInBounds_toArray, List.set_cons_zero, List.set_cons_succ]
  revert b x
  refine WA.one 13 27 2 10 rfl rfl bc ?_
  clear bc
  intro b x w' hz bx bc K hK
  clear bx
  simp only [List.getElem_toArray, List.getElem_cons_succ, List.getElem_cons_zero]
  go_simp
  go_fit (nint_any _ _ X 319 _ (by omega) (nx.below bc))
  rintro e wn ⟨rfl, bn⟩
  replace bc := Below.after bc bn
  try go_wp2_with fail
  refine hK.out _ _ bc (fun _ => ?_)
  replace hz := fun h => (hz h).below bn
  clear hK K bn
  revert b x
  refine WA.one 13 31 5 10 rfl rfl bc ?_
  clear bc
  intro b x w' hz bx bc K hK
  clear bx
  simp only [List.getElem_toArray, List.getElem_cons_succ, List.getElem_cons_zero]
  go_simp
  go_fit (nint_any _ _ U 212 _ (by omega) (nu.below bc))
  rintro e wn ⟨rfl, bn⟩
  replace bc := Below.after bc bn
  try go_wp2_with fail
  refine hK.out _ _ bc (fun _ => ?_)
  replace hz := fun h => (hz h).below bn
  clear hK K bn
  revert b x
  refine WA.one 13 63 6 10 rfl rfl bc ?_
  clear bc
  intro b x w' hz bx bc K hK
  clear bx
  simp only [List.getElem_toArray, List.getElem_cons_succ, List.getElem_cons_zero]
  go_simp
  go_fit (HM1.out _ ?_)
  ·exact Below.after bb bc
  rintro e wn ⟨rfl, bn⟩
  replace bc := Below.after bc bn
  try go_wp2_with fail
  refine hK.out _ _ bc (fun _ => ?_)
  replace hz := fun h => (hz h).below bn
  clear hK K bn
  refine WA.tk 7 rfl ?_
  refine WA.tk 8 rfl ?_
  refine WA.tk 9 rfl ?_
  revert b x
  refine WA.fin 10 rfl bc ?_
  clear bc
  intro x w' hz bx bc
  obtain ⟨g0, rfl, h0, k0⟩ := hz
  clear bx
  obtain ⟨e0, e1, e2⟩ := xk3 k0
  have f0 := Cel.frozen k0 0
  have f1 := Cel.frozen k0 1
  have f2 := Cel.frozen k0 2
  refine WA.call 11 rfl (fun K hK => ?_)
  simp only [List.getElem_toArray, List.getElem_cons_succ, List.getElem_cons_zero]
  go_simp
  try go_wp2_with fail
  clear e0 f0 e1 f1 e2 f2
  replace bc := (bset (bset (bset bc h0 0 (.bool (nfZ cx.num))) h0 1 (.string (sfZ cx.num))) h0 2 (.string (strOf cx.den)))
  refine hK.out _ _ bc (fun _ => ?_)
  clear hK K
  replace k0 := (Cel.set (Cel.set (Cel.set k0 0 (.bool (nfZ cx.num))) 1 (.string (sfZ cx.num))) 2 (.string (strOf cx.den)))
  refine WA.tk 12 rfl ?_
  refine WA.done (by kernel_rfl) ?_
  go_wp2_with fail
  go_meet
  exact ⟨_, rfl, rfl, h0, k0, bc⟩
 case rest =>
 obtain ⟨gp, rfl, rfl, lp, kp, b1⟩ := hcut
 clear mk; have sz := b1.size
 replace ka := ka.below b1
 replace kb := kb.below b1
 replace kc := kc.below b1
 replace kr := kr.below b1
 replace ky := ky.below b1
 replace bb := Below.after bb b1
 replace ny := ny.below b1
 replace nu := nu.below b1
 clear b1
 have tp := kp.lt
 clear HM1 nx
 go_wp2_with fail
 have mk : Hid (∀ w', SB wc w' → xc6 w' w2.heap.size (.bool m0) (.slice a0 l0 c0) (.bool m1) (.slice a1 l1 c1) (.bool m2) (.slice a2 l2 c2)) := fun w' h => xk6 (ky.below h)
 go_cut [13, 14] from 44 to 53 (fun v y14 wx => ∃ gc, v = .pointer (some ⟨gc, 0, none⟩) ∧ y14 = .int .i64 0 ∧ wc.heap.size ≤ gc ∧ Cel wx gc [.bool (nfZ cy.num), .string (sfZ cy.num), .string (strOf cy.den)] 26 ∧ Below wc.heap.size wc wx)
 case first =>
  clear HP
  refine wp_region_held_drew (S := SB wc) (by kernel_rfl) (bdrew _) (fun bc => ?_)
  refine WA.start (n := 13) (by kernel_rfl) ?_
  refine WA.tk 0 rfl ?_
  refine WA.tl 1 rfl ?_
  refine WA.tk 3 rfl ?_
  refine WA.tl 4 rfl ?_
  refine WA.gen (i := 10) (s := 13) undef (Pt wc [.bool false, .string { data := #[] }, .string { data := #[] }] 26) (fun b x hz => ?_)
  simp only [Act.put, List.setIfInBounds_toArray, List.set_cons_zero, List.set_cons_succ]
  revert b x
  refine WA.one 13 27 2 10 rfl rfl bc ?_
  clear bc
  intro b x w' hz bx bc K hK
  clear bx
  simp only [List.getElem_toArray, List.getElem_cons_succ, List.getElem_cons_zero]
  go_simp
  go_fit (nint_any _ _ Y 319 _ (by omega) (ny.below bc))
  rintro e wn ⟨rfl, bn⟩
  replace bc := Below.after bc bn
  try go_wp2_with fail
  refine hK.out _ _ bc (fun _ => ?_)
  replace hz := fun h => (hz h).below bn
  clear hK K bn
  revert b x
  refine WA.one 13 31 5 10 rfl rfl bc ?_
  clear bc
  intro b x w' hz bx bc K hK
  clear bx
  simp only [List.getElem_toArray, List.getElem_cons_succ, List.getElem_cons_zero]
  go_simp
  go_fit (nint_any _ _ U 212 _ (by omega) (nu.below bc))
  rintro e wn ⟨rfl, bn⟩
  replace bc := Below.after bc bn
  try go_wp2_with fail
  refine hK.out _ _ bc (fun _ => ?_)
  replace hz := fun h => (hz h).below bn
  clear hK K bn
  revert b x
  refine WA.one 13 63 6 10 rfl rfl bc ?_
  clear bc
  intro b x w' hz bx bc K hK
  clear bx
  simp only [List.getElem_toArray, List.getElem_cons_succ, List.getElem_cons_zero]
  go_simp
  go_fit (HM2.out _ ?_)
  ·exact Below.after bb bc
  rintro e wn ⟨rfl, bn⟩
  replace bc := Below.after bc bn
  try go_wp2_with fail
  refine hK.out _ _ bc (fun _ => ?_)
  replace hz := fun h => (hz h).below bn
  clear hK K bn
  refine WA.tk 7 rfl ?_
  refine WA.tk 8 rfl ?_
  refine WA.tk 9 rfl ?_
  revert b x
  refine WA.fin 10 rfl bc ?_
  clear bc
  intro x w' hz bx bc
  obtain ⟨g0, rfl, h0, k0⟩ := hz
  clear bx
  obtain ⟨e0, e1, e2⟩ := xk3 k0
  have f0 := Cel.frozen k0 0
  have f1 := Cel.frozen k0 1
  have f2 := Cel.frozen k0 2
  refine WA.call 11 rfl (fun K hK => ?_)
  simp only [List.getElem_toArray, List.getElem_cons_succ, List.getElem_cons_zero]
  go_simp
  try go_wp2_with fail
  clear e0 f0 e1 f1 e2 f2
  replace bc := (bset (bset (bset bc h0 0 (.bool (nfZ cy.num))) h0 1 (.string (sfZ cy.num))) h0 2 (.string (strOf cy.den)))
  refine hK.out _ _ bc (fun _ => ?_)
  clear hK K
  replace k0 := (Cel.set (Cel.set (Cel.set k0 0 (.bool (nfZ cy.num))) 1 (.string (sfZ cy.num))) 2 (.string (strOf cy.den)))
  refine WA.tk 12 rfl ?_
  refine WA.done (by kernel_rfl) ?_
  go_wp2_with fail
  go_meet
  exact ⟨_, rfl, rfl, h0, k0, bc⟩
 case rest =>
 obtain ⟨gq, rfl, rfl, lq, kq, b1⟩ := hcut
 clear mk; have sz := b1.size
 replace ka := ka.below b1
 replace kb := kb.below b1
 replace kc := kc.below b1
 replace kr := kr.below b1
 replace ky := ky.below b1
 replace kp := kp.below b1
 replace bb := Below.after bb b1
 clear b1
 have tq := kq.lt
 clear HM2 ny nu
 obtain ⟨ca_0, ca_1, ca_2, ca_3, ca_4, ca_5⟩ := xk6 ka
 obtain ⟨cp_6, cp_7, cp_8⟩ := xk3 kp
 obtain ⟨cq_9, cq_10, cq_11⟩ := xk3 kq
 go_wp2_with fail
 clear ca_0 ca_1 ca_2 ca_3 ca_4 ca_5 cp_6 cp_7 cp_8 cq_9 cq_10 cq_11
 go_fit (HP.out _ bb)
 rintro e w5 ⟨rfl, b1⟩
 replace kr := kr.below b1
 replace bb := Below.after bb b1
 clear b1
 obtain ⟨e0, e1, e2, e3, e4, e5⟩ := xk6 kr
 have f0 := Cel.frozen kr 0
 have f1 := Cel.frozen kr 1
 have f2 := Cel.frozen kr 2
 have f3 := Cel.frozen kr 3
 have f4 := Cel.frozen kr 4
 have f5 := Cel.frozen kr 5
 go_wp2
 exact post_p1 (p := 6) (u := 7) (v := .int .i64 0) (by kernel_rfl) rfl rfl rfl (kr.set6 _ _ _ _ _ _) ⟨rfl, bset6 bb (by omega) _ _ _ _ _ _⟩
end Go.Proofs.YtiiigiggcbbgjaaGreatDoor
