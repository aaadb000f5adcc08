/-
  Package poly: sampleOf, where it answers.
-/
import Derived.Test.YtbafjmjcepcckaaGreatDoorO37
namespace Go.Proofs.YtbafjmjcepcckaaGreatDoor
open Go.RowKit
def ndT : List (List Int) := [[2, 0, 0], [0, 2, 0], [0, 0, 2], [1, 1, 0], [0, 1, 1], [1, 0, 1]]
def ndW (i j : Nat) : Int := (ndT.getD i []).getD j 0
theorem nd_small : ∀ k, k < 6 → ∀ j, j < 3 → -1000000 ≤ ndW k j ∧ ndW k j ≤ 1000000 := by decide
def nodeV (Zc Zs : Nat → Int) (T : Int) (k : Nat) : Int := (Zc 0 * T + Zc 1 * wsum Zs (ndW k) 3 + Zc 2 * wsum (fun q => Zs (3 + q)) (ndW k) 3) * T + (Zc 3 * wsum Zs (ndW k) 3 + Zc 4 * wsum (fun q => Zs (3 + q)) (ndW k) 3) * wsum Zs (ndW k) 3 + Zc 5 * wsum (fun q => Zs (3 + q)) (ndW k) 3 * wsum (fun q => Zs (3 + q)) (ndW k) 3
theorem ownr_below {w w' : World} {B k n : Nat} {t : TypeId} {v : Value} {xs : List Value} (h : w.ownsRow B t k v n xs) (b : Below w.heap.size w w') : w'.ownsRow B t k v n xs := by
 refine ⟨h.1, ?_⟩
 rcases h.2 with h | ⟨g, cap, cur, e, hB, hg, r⟩
 ·exact Or.inl h
 ·refine Or.inr ⟨g, cap, cur, e, hB, ?_, r⟩
  rw [b.block g ?_]
  ·exact hg
  ·rcases Nat.lt_or_ge g w.heap.size with q | q
   ·exact q
   ·rw [Array.getElem?_eq_none q] at hg; cases hg
theorem ni_below {w w' : World} {B k n : Nat} {t : TypeId} {v : Value} {xs : List Value} (h : w.ownsRow B t k v n xs) (hN : ∀ g, v.ownBlock = some g → NI w g) (b : Below w.heap.size w w') : ∀ g, v.ownBlock = some g → NI w' g := fun g hg i u hu => by
 have := (h.lt g hg).2
 rw [World.cell?_of_block (show w'.heap[(⟨g, i, none⟩ : Addr).block]? = w.heap[(⟨g, i, none⟩ : Addr).block]? from b.block g this)] at hu
 exact hN g hg i u hu
theorem rdn_one {w : World} {g : Nat} {t : TypeId} {f : Bool} {v : Value} (h : Cel w g [.bool f, v] t) : RdN w (some ⟨g, 0, none⟩) 1 (fun _ => f) (fun _ => v) := fun q hq => by
 obtain rfl : q = 0 := by omega
 exact ⟨g, 0, rfl, h.cell 0, h.cell 1⟩
theorem NV.setNI {w : World} {n : Bool} {v : Value} {z : Int} {L g : Nat} (h : NV w n v z L) (hN : NI w g) (i : Nat) (x : Value) : NV (w.setCell ⟨g, i, none⟩ x) n v z L := by
 obtain ⟨k, ⟨a, cap, rfl, hcap, hc⟩, h1, h2⟩ := h
 refine ⟨k, ⟨a, cap, rfl, hcap, fun j hj => ?_⟩, h1, h2⟩
 obtain ⟨b, off, rfl, hcell⟩ := hc j hj
 refine ⟨b, off, rfl, ?_⟩
 have hne : b ≠ g := fun e => by subst e; exact hN _ _ hcell _ _ rfl
 rw [World.cell?_setCell_other _ _ _ _ (fun e => hne (by injection e with e; exact e.symm))]
 exact hcell
theorem noI_set {cs : List Value} {x : Value} (hn : ∀ u ∈ cs, noI u) (hx : noI x) (i : Nat) : ∀ u ∈ cs.set i x, noI u := fun u hu => (List.mem_or_eq_of_mem_set hu).elim (hn u) (fun e => e ▸ hx)
abbrev set6w (w : World) (g : Nat) (x0 x1 x2 x3 x4 x5 : Value) : World := (((((w.setCell ⟨g, 0, none⟩ x0).setCell ⟨g, 1, none⟩ x1).setCell ⟨g, 2, none⟩ x2).setCell ⟨g, 3, none⟩ x3).setCell ⟨g, 4, none⟩ x4).setCell ⟨g, 5, none⟩ x5
theorem NV.set6w {w : World} {n : Bool} {v : Value} {z : Int} {L g : Nat} {t : TypeId} {cs : List Value} (h : NV w n v z L) (hc : Cel w g cs t) (hn : ∀ u ∈ cs, noI u) {x0 x1 x2 x3 x4 x5 : Value} (h0 : noI x0) (h1 : noI x1) (h2 : noI x2) (h3 : noI x3) (h4 : noI x4) : NV (set6w w g x0 x1 x2 x3 x4 x5) n v z L := by
 have m0 := h.setNI (ni_cel hc hn) 0 x0
 have c0 := hc.set 0 x0
 have n0 := noI_set hn h0 0
 have m1 := m0.setNI (ni_cel c0 n0) 1 x1
 have c1 := c0.set 1 x1
 have n1 := noI_set n0 h1 1
 have m2 := m1.setNI (ni_cel c1 n1) 2 x2
 have c2 := c1.set 2 x2
 have n2 := noI_set n1 h2 2
 have m3 := m2.setNI (ni_cel c2 n2) 3 x3
 have c3 := c2.set 3 x3
 have n3 := noI_set n2 h3 3
 have m4 := m3.setNI (ni_cel c3 n3) 4 x4
 have c4 := c3.set 4 x4
 have n4 := noI_set n3 h4 4
 exact m4.setNI (ni_cel c4 n4) 5 x5
theorem rdn_oth {w : World} {b off n g i : Nat} {N : Nat → Bool} {v : Nat → Value} (h : RdN w (some ⟨b, off, none⟩) n N v) (hne : b ≠ g) (x : Value) : RdN (w.setCell ⟨g, i, none⟩ x) (some ⟨b, off, none⟩) n N v := fun j hj => by
 obtain ⟨b', off', e, h0, h1⟩ := h j hj
 injection e with e
 injection e with e1 e2
 subst e1 e2
 refine ⟨b, off, rfl, ?_, ?_⟩
 ·rw [World.cell?_setCell_other _ _ _ _ (fun e => hne (by injection e with e; exact e.symm))]; exact h0
 ·rw [World.cell?_setCell_other _ _ _ _ (fun e => hne (by injection e with e; exact e.symm))]; exact h1
theorem rdn_oth6 {w : World} {b off n g : Nat} {N : Nat → Bool} {v : Nat → Value} (h : RdN w (some ⟨b, off, none⟩) n N v) (hne : b ≠ g) (x0 x1 x2 x3 x4 x5 : Value) : RdN (set6w w g x0 x1 x2 x3 x4 x5) (some ⟨b, off, none⟩) n N v := rdn_oth (rdn_oth (rdn_oth (rdn_oth (rdn_oth (rdn_oth h hne x0) hne x1) hne x2) hne x3) hne x4) hne x5
theorem Cel.oths {w : World} {g g' : Nat} {cs : List Value} {t : TypeId} (h : Cel w g cs t) (hne : g ≠ g') (x0 x1 x2 x3 x4 x5 : Value) : Cel (set6w w g' x0 x1 x2 x3 x4 x5) g cs t := (((((h.other hne 0 x0).other hne 1 x1).other hne 2 x2).other hne 3 x3).other hne 4 x4).other hne 5 x5
theorem WA.genZ {P : Program} {ops : Array Oper} {Q : Exit → Act → World → Prop} {S : World → Prop} {l : Array Bool} {a : Act} {w : World} {i s : Nat} (Z : Value → World → Prop) (h : ∀ b x, (b = true → Z x w) → WA P ops Q S (l.setIfInBounds i b) (a.put (some s) x) w)
  (hl : l.setIfInBounds i false = l := by kernel_rfl) : WA P ops Q S l a w := by
 have := h false (a.tmps.getD s undef) (fun h => by cases h)
 rw [hl, put_same] at this
 exact this
theorem xc3_al {w : World} {g : Nat} {x y z : Value} (h : xc3 w g x y z) (o : Obj) : xc3 (w.alloc o) g x y z := ⟨cell_below h.1 (bel_al _ _), cell_below h.2.1 (bel_al _ _), cell_below h.2.2 (bel_al _ _)⟩
theorem xc2_al {w : World} {g : Nat} {x y : Value} (h : xc2 w g x y) (o : Obj) : xc2 (w.alloc o) g x y := ⟨cell_below h.1 (bel_al _ _), cell_below h.2 (bel_al _ _)⟩
theorem WA.gen2R {P : Program} {ops : Array Oper} {Q : Exit → Act → World → Prop} {S : World → Prop} {l : Array Bool} {a : Act} {w : World} {i s i' s' : Nat} (Z Z' : Value → World → Prop) (h : ∀ b b' x x', (b = true → Z x w) → (b' = true → Z' x' w) → (b = true → b' = true → x ≠ x') → WA P ops Q S ((l.setIfInBounds i b).setIfInBounds i' b') ((a.put (some s) x).put (some s') x') w)
  (hl : (l.setIfInBounds i false).setIfInBounds i' false = l := by kernel_rfl) : WA P ops Q S l a w := by
 have := h false false (a.tmps.getD s undef) (a.tmps.getD s' undef) (fun h => by cases h) (fun h => by cases h) (fun h => by cases h)
 rw [hl, put_same, put_same] at this
 exact this
theorem nd_row (k : Nat) (hk : k < 6) (w : World) : (Instr.index 109 (.agg #[.int .i64 2, .int .i64 0, .int .i64 0, .int .i64 0, .int .i64 2, .int .i64 0, .int .i64 0, .int .i64 0, .int .i64 2, .int .i64 1, .int .i64 1, .int .i64 0, .int .i64 0, .int .i64 1, .int .i64 1, .int .i64 1, .int .i64 0, .int .i64 1]) (.int .i64 k)).run Tryz.prog w = .ok (.agg #[.int .i64 (ndW k 0), .int .i64 (ndW k 1), .int .i64 (ndW k 2)]) w := by
 obtain rfl | rfl | rfl | rfl | rfl | rfl : k = 0 ∨ k = 1 ∨ k = 2 ∨ k = 3 ∨ k = 4 ∨ k = 5 := by omega
 all_goals kernel_rfl
theorem rdn_cells {w : World} {g : Nat} {t : TypeId} {m : Nat → Bool} {v : Nat → Value} {N j n : Nat} (h : Cells w g t (N * 2) (fnn m v N)) (hj : j + n ≤ N) : RdN w (some ⟨g, j * 2, none⟩) n (fun q => m (j + q)) (fun q => v (j + q)) := fun q hq => by
 refine ⟨g, j * 2, rfl, ?_, ?_⟩
 ·rw [← Nat.add_mul, h.cell (by omega), fnn_0 m v (by omega)]
 ·rw [← Nat.add_mul, h.cell (by omega), fnn_1 m v (by omega)]
theorem rdw_3 {w : World} {g : Nat} {t : TypeId} {f : Nat → Int} (h : Cel w g [.int .i64 (f 0), .int .i64 (f 1), .int .i64 (f 2)] t) : RdW w (some ⟨g, 0, none⟩) 3 f := fun j hj => by
 refine ⟨g, 0, rfl, ?_⟩
 match j, hj with
 | 0, _ => exact h.cell 0
 | 1, _ => exact h.cell 1
 | 2, _ => exact h.cell 2
theorem rdw_6 {w : World} {g : Nat} {t : TypeId} {f : Nat → Int} (h : Cel w g [.int .i64 (f 0), .int .i64 (f 1), .int .i64 (f 2), .int .i64 (f 3), .int .i64 (f 4), .int .i64 (f 5)] t) : RdW w (some ⟨g, 0, none⟩) 6 f := fun j hj => by
 refine ⟨g, 0, rfl, ?_⟩
 match j, hj with
 | 0, _ => exact h.cell 0
 | 1, _ => exact h.cell 1
 | 2, _ => exact h.cell 2
 | 3, _ => exact h.cell 3
 | 4, _ => exact h.cell 4
 | 5, _ => exact h.cell 5
set_option maxRecDepth 100000 in
set_option maxHeartbeats 16000000 in
theorem sample_ok (n0 n1 n2 n3 n4 n5 p0 p1 p2 p3 p4 p5 : Bool) (s0 d0 s1 d1 s2 d2 s3 d3 s4 d4 s5 d5 q0 r0 q1 r1 q2 r2 q3 r3 q4 r4 q5 r5 : ByteArray) (zN : Bool) (zS zD : ByteArray) (Zc Zs : Nat → Int) (Qu U A2 AB : Int) (L Lu : Nat) (w : World) (hL : L ≤ 200) (hLu : Lu ≤ 200) (hz : zS.toList.isEmpty = false) (tg : TypeId) (fr : Nat × Nat)
  (ht : w.heap[2]? = some (.cells #[.int .i64 2, .int .i64 0, .int .i64 0, .int .i64 0, .int .i64 2, .int .i64 0, .int .i64 0, .int .i64 0, .int .i64 2, .int .i64 1, .int .i64 1, .int .i64 0, .int .i64 0, .int .i64 1, .int .i64 1, .int .i64 1, .int .i64 0, .int .i64 1] tg fr))
  (HC : Hid (∀ w1 B, Below w.heap.size w w1 → Cel w1 B [.bool p0, .string q0, .string r0, .bool p1, .string q1, .string r1, .bool p2, .string q2, .string r2, .bool p3, .string q3, .string r3, .bool p4, .string q4, .string r4, .bool p5, .string q5, .string r5] 30 → Calls Tryz.prog 32 #[.agg #[.bool n0, .string s0, .string d0, .bool n1, .string s1, .string d1, .bool n2, .string s2, .string d2, .bool n3, .string s3, .string d3, .bool n4, .string s4, .string d4, .bool n5, .string s5, .string d5], .slice (some ⟨B, 0, none⟩) 3 3] w1 (Re w1 (.int .i64 0))))
  (HA : Hid (∀ w1, Below w.heap.size w w1 → Calls Tryz.prog 66 #[.agg #[.bool p0, .string q0, .string r0, .bool p1, .string q1, .string r1], .agg #[.bool p2, .string q2, .string r2, .bool p3, .string q3, .string r3], .agg #[.bool p4, .string q4, .string r4, .bool p5, .string q5, .string r5]] w1 (Re w1 (.tuple #[.agg #[.bool zN, .string zS, .string zD], .int .i64 0]))))
  (HG : Hid (∀ w1, Below w.heap.size w w1 → Calls Tryz.prog 33 #[.agg #[.bool n0, .string s0, .string d0, .bool n1, .string s1, .string d1, .bool n2, .string s2, .string d2, .bool n3, .string s3, .string d3, .bool n4, .string s4, .string d4, .bool n5, .string s5, .string d5]] w1 fun e w' => ∃ g m v a l c, e = .returned (.agg #[.slice (some ⟨g, 0, none⟩) 6 6, .bool false, .slice a l c]) ∧ Cells w' g 68 (6 * 2) (fnn m v 6) ∧ NVs w' m v Zc L 6 ∧ NV w' false (.slice a l c) Qu Lu ∧ Below w1.heap.size w1 w'))
  (HH : Hid (∀ w1 B, Below w.heap.size w w1 → Cel w1 B [.bool p0, .string q0, .string r0, .bool p2, .string q2, .string r2, .bool p4, .string q4, .string r4, .bool p1, .string q1, .string r1, .bool p3, .string q3, .string r3, .bool p5, .string q5, .string r5] 26 → Calls Tryz.prog 34 #[.slice (some ⟨B, 0, none⟩) 6 6] w1 fun e w' => ∃ g m v a l c, w1.heap.size ≤ g ∧ e = .returned (.tuple #[.slice (some ⟨g, 0, none⟩) 6 6, .agg #[.bool false, .slice a l c]]) ∧ Cells w' g 68 (6 * 2) (fnn m v 6) ∧ NVs w' m v Zs L 6 ∧ NV w' false (.slice a l c) U Lu ∧ Below w1.heap.size w1 w'))
  (H2 : Hid (∀ w1, Calls Tryz.prog 58 #[.agg #[.bool false, .string zS]] w1 fun e w' => ∃ a l c, e = .returned (.agg #[.bool false, .slice a l c]) ∧ NV w' false (.slice a l c) A2 Lu ∧ Below w1.heap.size w1 w'))
  (H3 : Hid (∀ w1, Calls Tryz.prog 58 #[.agg #[.bool false, .string zD]] w1 fun e w' => ∃ a l c, e = .returned (.agg #[.bool false, .slice a l c]) ∧ NV w' false (.slice a l c) AB Lu ∧ Below w1.heap.size w1 w')) :
  Calls Tryz.prog 41 #[.agg #[.bool n0, .string s0, .string d0, .bool n1, .string s1, .string d1, .bool n2, .string s2, .string d2, .bool n3, .string s3, .string d3, .bool n4, .string s4, .string d4, .bool n5, .string s5, .string d5], .agg #[.bool p0, .string q0, .string r0, .bool p1, .string q1, .string r1], .agg #[.bool p2, .string q2, .string r2, .bool p3, .string q3, .string r3], .agg #[.bool p4, .string q4, .string r4, .bool p5, .string q5, .string r5]] w fun e w' => ∃ (g gy : Nat) (N Ny : Nat → Bool) (v vy : Nat → Value) (c : Nat) (a2 a3 : Option Addr) (l2 c2 l3 c3 : Nat), e = .returned (.tuple #[.agg #[.slice (some ⟨g, 0, none⟩) 6 c, .slice (some ⟨gy, 0, none⟩) 3 3, .bool false, .slice a2 l2 c2, .bool false, .slice a3 l3 c3], .int .i64 0]) ∧
   RdN w' (some ⟨g, 0, none⟩) 6 N v ∧ NVs w' N v (nodeV Zc Zs (U + U)) 700 6 ∧ RdN w' (some ⟨gy, 0, none⟩) 3 Ny vy ∧ NVs w' Ny vy (tw3 Qu (U + U) (U + U)) (Lu + 1) 3 ∧ NV w' false (.slice a2 l2 c2) A2 Lu ∧ NV w' false (.slice a3 l3 c3) AB Lu ∧ Below w.heap.size w w' := by
 have HT := shut ht
 have ht0 : 2 < w.heap.size := by
  rcases Nat.lt_or_ge 2 w.heap.size with q | q
  ·exact q
  ·rw [Array.getElem?_eq_none q] at ht; cases ht
 clear ht
 go_enter Tryz.func41, Tryz.ntmps41
 go_upto_region 1 with fail
 obtain ⟨w0, hq, kf, ka, kb, kc, kr, bb⟩ := mk5 w [.bool n0, .string s0, .string d0, .bool n1, .string s1, .string d1, .bool n2, .string s2, .string d2, .bool n3, .string s3, .string d3, .bool n4, .string s4, .string d4, .bool n5, .string s5, .string d5] [.bool p0, .string q0, .string r0, .bool p1, .string q1, .string r1] [.bool p2, .string q2, .string r2, .bool p3, .string q3, .string r3] [.bool p4, .string q4, .string r4, .bool p5, .string q5, .string r5] [.slice none 0 0, .slice none 0 0, .bool false, .slice none 0 0, .bool false, .slice none 0 0] 28 30 30 30 81
 rw [← hq]
 clear hq
 obtain ⟨x0, x1, x2, x3, x4, x5⟩ := xk6 ka
 obtain ⟨y0, y1, y2, y3, y4, y5⟩ := xk6 kb
 obtain ⟨z0, z1, z2, z3, z4, z5⟩ := xk6 kc
 go_wp2_with (refine wpList_load_row rfl 28 _ rfl _ rfl 28 _ (0, 0) _ kf Tryz.underlying28 rfl (by kernel_rfl) ?_)
 clear x0 x1 x2 x3 x4 x5 y0 y1 y2 y3 y4 y5 z0 z1 z2 z3 z4 z5
 obtain ⟨w1, hq, kl, b1⟩ := mk1 w0 [.bool p0, .string q0, .string r0, .bool p1, .string q1, .string r1, .bool p2, .string q2, .string r2, .bool p3, .string q3, .string r3, .bool p4, .string q4, .string r4, .bool p5, .string q5, .string r5] 30
 rw [← hq]
 clear hq
 replace kf := kf.below b1
 replace ka := ka.below b1
 replace kb := kb.below b1
 replace kc := kc.below b1
 replace kr := kr.below b1
 replace bb := Below.after bb b1
 clear b1
 go_fit (HC.out _ _ bb kl)
 rintro e w2 ⟨rfl, b1⟩
 clear kl
 replace kf := kf.below b1
 replace ka := ka.below b1
 replace kb := kb.below b1
 replace kc := kc.below b1
 replace kr := kr.below b1
 replace bb := Below.after bb b1
 clear b1
 obtain ⟨x0, x1, x2, x3, x4, x5⟩ := xk6 ka
 obtain ⟨y0, y1, y2, y3, y4, y5⟩ := xk6 kb
 obtain ⟨z0, z1, z2, z3, z4, z5⟩ := xk6 kc
 go_wp2_with fail
 clear x0 x1 x2 x3 x4 x5 y0 y1 y2 y3 y4 y5 z0 z1 z2 z3 z4 z5
 go_fit (HA.out _ bb)
 rintro e w3 ⟨rfl, b1⟩
 replace kf := kf.below b1
 replace ka := ka.below b1
 replace kb := kb.below b1
 replace kc := kc.below b1
 replace kr := kr.below b1
 replace bb := Below.after bb b1
 clear b1
 have t3 := shut kr.lt
 go_upto_region 5 with fail
 obtain ⟨w4, hq, kz, b1⟩ := mk1 w3 [.bool zN, .string zS, .string zD] 26
 rw [← hq]
 clear hq
 replace kf := kf.below b1
 replace ka := ka.below b1
 replace kb := kb.below b1
 replace kc := kc.below b1
 replace kr := kr.below b1
 replace bb := Below.after bb b1
 clear b1
 obtain ⟨x0, x1, x2⟩ := xk3 kz
 go_wp2_with (refine wpList_load_row rfl 28 _ rfl _ rfl 28 _ (0, 0) _ kf Tryz.underlying28 rfl (by kernel_rfl) ?_)
 clear x0 x1 x2
 go_fit (HG.out _ bb)
 rintro e w5 ⟨gc, mc, vc, uca, ucl, ucc, rfl, kG, hvc, nQ, b1⟩
 clear kf
 replace kG := shut kG
 replace hvc := shut hvc
 replace ka := ka.below b1
 replace kb := kb.below b1
 replace kc := kc.below b1
 replace kr := kr.below b1
 replace kz := kz.below b1
 replace bb := Below.after bb b1
 clear b1
 have t5 := shut kr.lt
 go_upto_region 8 with fail
 obtain ⟨w6, hq, kq, b1⟩ := mk1 w5 [.slice (some ⟨gc, 0, none⟩) 6 6, .bool false, .slice uca ucl ucc] 70
 rw [← hq]
 clear hq
 replace kG := shut (kG.out.below b1)
 replace hvc := shut (hvc.out.below b1)
 replace ka := ka.below b1
 replace kb := kb.below b1
 replace kc := kc.below b1
 replace kr := kr.below b1
 replace kz := kz.below b1
 replace nQ := nQ.below b1
 replace bb := Below.after bb b1
 clear b1
 obtain ⟨x0, x1, x2, x3, x4, x5⟩ := xk6 ka
 obtain ⟨y0, y1, y2, y3, y4, y5⟩ := xk6 kb
 obtain ⟨z0, z1, z2, z3, z4, z5⟩ := xk6 kc
 go_wp2_with fail
 clear x0 x1 x2 x3 x4 x5 y0 y1 y2 y3 y4 y5 z0 z1 z2 z3 z4 z5
 obtain ⟨w7, hq, kl, b1⟩ := mk1 w6 [.bool p0, .string q0, .string r0, .bool p2, .string q2, .string r2, .bool p4, .string q4, .string r4, .bool p1, .string q1, .string r1, .bool p3, .string q3, .string r3, .bool p5, .string q5, .string r5] 26
 rw [← hq]
 clear hq ka kb kc
 replace kG := shut (kG.out.below b1)
 replace hvc := shut (hvc.out.below b1)
 replace kr := kr.below b1
 replace kz := kz.below b1
 replace nQ := nQ.below b1
 replace kq := kq.below b1
 replace bb := Below.after bb b1
 clear b1
 go_fit (HH.out _ _ bb kl)
 rintro e w8 ⟨gs, ms, vs, uta, utl, utc, gsl, rfl, kS, hvs, nU, b1⟩
 clear kl gsl
 replace kG := shut (kG.out.below b1)
 replace hvc := shut (hvc.out.below b1)
 replace kS := shut kS
 replace hvs := shut hvs
 replace kr := kr.below b1
 replace kz := kz.below b1
 replace nQ := nQ.below b1
 replace kq := kq.below b1
 replace bb := Below.after bb b1
 clear b1
 go_upto_region 9 with fail
 obtain ⟨w9, hq, ku, b1⟩ := mk1 w8 [.bool false, .slice uta utl utc] 68
 rw [← hq]
 clear hq
 replace kG := shut (kG.out.below b1)
 replace hvc := shut (hvc.out.below b1)
 replace kS := shut (kS.out.below b1)
 replace hvs := shut (hvs.out.below b1)
 replace kr := kr.below b1
 replace kz := kz.below b1
 replace nQ := nQ.below b1
 replace kq := kq.below b1
 replace nU := nU.below b1
 replace bb := Below.after bb b1
 clear b1
 obtain ⟨x0, x1⟩ := xk2 ku
 go_wp2_with fail
 clear x0 x1
 go_fit (nplus_any _ _ _ _ U U Lu _ (by omega) nU nU)
 rintro e w10 ⟨ft, vt, rfl, nT, b1⟩
 obtain ⟨ta, tl, tc, rfl⟩ := nT.slice
 replace kG := shut (kG.out.below b1)
 replace hvc := shut (hvc.out.below b1)
 replace kS := shut (kS.out.below b1)
 replace hvs := shut (hvs.out.below b1)
 clear ku nU
 replace kr := kr.below b1
 replace kz := kz.below b1
 replace nQ := nQ.below b1
 replace kq := kq.below b1
 replace bb := Below.after bb b1
 clear b1
 have t10 := shut kr.lt
 go_upto_region 11 with fail
 obtain ⟨w11, hq, kt, b1⟩ := mk1 w10 [.bool ft, .slice ta tl tc] 68
 rw [← hq]
 clear hq
 replace kG := shut (kG.out.below b1)
 replace hvc := shut (hvc.out.below b1)
 replace kS := shut (kS.out.below b1)
 replace hvs := shut (hvs.out.below b1)
 replace kr := kr.below b1
 replace kz := kz.below b1
 replace nQ := nQ.below b1
 replace kq := kq.below b1
 replace nT := nT.below b1
 replace bb := Below.after bb b1
 clear b1
 go_wp2_with (refine wpList_load_row rfl 109 _ rfl 2 rfl tg _ fr _ (hp_bel HT.out bb ht0) Tryz.underlying109 rfl (by kernel_rfl) ?_)
 have hI : Hid (∀ k w1, k < 6 → (Instr.index 109 (.agg #[.int .i64 2, .int .i64 0, .int .i64 0, .int .i64 0, .int .i64 2, .int .i64 0, .int .i64 0, .int .i64 0, .int .i64 2, .int .i64 1, .int .i64 1, .int .i64 0, .int .i64 0, .int .i64 1, .int .i64 1, .int .i64 1, .int .i64 0, .int .i64 1]) (.int .i64 (k : Nat))).run Tryz.prog w1 = .ok (.agg #[.int .i64 (ndW k 0), .int .i64 (ndW k 1), .int .i64 (ndW k 2)]) w1) := fun k w1 hk => nd_row k hk w1
 clear HT ht0
 generalize (#[.int .i64 2, .int .i64 0, .int .i64 0, .int .i64 0, .int .i64 2, .int .i64 0, .int .i64 0, .int .i64 0, .int .i64 2, .int .i64 1, .int .i64 1, .int .i64 0, .int .i64 0, .int .i64 1, .int .i64 1, .int .i64 1, .int .i64 0, .int .i64 1] : Array Value) = TN at *
 have HX : Hid (∀ w1, Below w11.heap.size w11 w1 → RdN w1 (some ⟨gs, 0, none⟩) 3 ms vs) := fun w1 b => by
  have := (rdn_cells (j := 0) (n := 3) kS.out (by omega)).below b
  simpa using this
 have HY : Hid (∀ w1, Below w11.heap.size w11 w1 → RdN w1 (some ⟨gs, 6, none⟩) 3 (fun q => ms (3 + q)) (fun q => vs (3 + q))) := fun w1 b => (rdn_cells (j := 3) (n := 3) kS.out (by omega)).below b
 have bL := bb
 go_loopw [17, 67] (fun v i wr => Below w11.heap.size w11 wr ∧ ∃ (k : Nat) (N : Nat → Bool) (u : Nat → Value), k ≤ 6 ∧ i = .int .i64 k ∧ wr.ownsRow w11.heap.size 68 2 v k (fln k N u) ∧ (∀ g, v.ownBlock = some g → NI wr g) ∧ NVs wr N u (nodeV Zc Zs (U + U)) 700 k) (fun _ i _ => 6 - (intOf i).toNat)
 case atStart => exact ⟨Below.refl _ _, 0, fun _ => false, fun _ => .slice none 0 0, by omega, rfl, World.ownsRow_nil _ _ _ _, fun g h => (by cases h), fun q hq => (by omega)⟩
 case round =>
  obtain ⟨bb, k, N, u, hk, rfl, ho, hN, hv⟩ := hrel
  replace ho := shut ho
  replace hN := shut hN
  replace hv := shut hv
  by_cases hkm : k < 6
  ·have i1 : (k : Int) < 6 := by omega
   have i2 : ¬ (k : Int) < 0 := by omega
   go_upto_region 14 with (refine wpList_indexA rfl 109 _ _ rfl TN k rfl rfl _ (hI.out k _ hkm) ?_)
   obtain ⟨wq, hq, kw, b1⟩ := mk1 wr [.int .i64 (ndW k 0), .int .i64 (ndW k 1), .int .i64 (ndW k 2)] 93
   rw [← hq]
   clear hq
   replace hN := shut (ni_below ho.out hN.out b1)
   replace ho := shut (ownr_below ho.out b1)
   replace hv := shut (hv.out.below b1)
   have bq := Below.after bb b1
   clear b1 bb
   refine wp_region_held_drew (S := SB wq) (by kernel_rfl) (bdrew _) (fun bc => ?_)
   refine WA.start (n := 12) (by kernel_rfl) ?_
   refine WA.tk 0 rfl ?_
   refine WA.tk 1 rfl ?_
   refine WA.tk 2 rfl ?_
   refine WA.tk 4 rfl ?_
   refine WA.tk 5 rfl ?_
   refine WA.tk 6 rfl ?_
   refine WA.gen2R (i := 8) (s := 20) (i' := 9) (s' := 21) (Pt wq [.bool false, .slice none 0 0] 68) (Pt wq [.bool false, .slice none 0 0] 68) (fun b b' x x' hz hy hn => ?_)
   simp only [Act.put, List.setIfInBounds_toArray, List.set_cons_zero, List.set_cons_succ]
   replace hz := P2.mk hz hy hn
   clear hy hn
   revert b b' x x'
   refine WA.two 12 119 3 8 9 rfl rfl rfl bc ?_
   clear bc
   intro b b' x x' w' hz bx bc K hK
   clear bx
   simp only [List.getElem_toArray, List.getElem_cons_succ, List.getElem_cons_zero]
   go_simp
   go_fit (weighed_walk (some ⟨gs, 0, none⟩) (some ⟨wr.heap.size, 0, none⟩) 3 6 3 3 ms vs Zs (ndW k) L _ (by omega) (by omega) (by omega) (HX.out _ (Below.after bq bc)) (fun q hq => (hvs.out.below (Below.after bq bc)) q (by omega)) (rdw_3 (kw.below bc)) (fun j w1 hj => (psmall_any _ (nd_small k hkm j hj).1 (nd_small k hkm j hj).2 w1).mono (fun e w' h => by obtain ⟨a, l, c, h⟩ := h; exact ⟨_, a, l, c, h⟩)))
   rintro e wn ⟨f1, a1, l1, c1, rfl, n1, bn⟩
   replace bc := Below.after bc bn
   try go_wp2_with fail
   refine hK.out _ _ bc (fun _ => ?_)
   replace hz := hz.below bn
   clear hK K bn
   revert b b' x x'
   refine WA.two 12 127 7 8 9 rfl rfl rfl bc ?_
   clear bc
   intro b b' x x' w' hz bx bc K hK
   replace n1 := n1.below bx
   clear bx
   simp only [List.getElem_toArray, List.getElem_cons_succ, List.getElem_cons_zero]
   go_simp
   go_fit (weighed_walk (some ⟨gs, 6, none⟩) (some ⟨wr.heap.size, 0, none⟩) 3 3 3 3 (fun q => ms (3 + q)) (fun q => vs (3 + q)) (fun q => Zs (3 + q)) (ndW k) L _ (by omega) (by omega) (by omega) (HY.out _ (Below.after bq bc)) (fun q hq => (hvs.out.below (Below.after bq bc)) (3 + q) (by omega)) (rdw_3 (kw.below bc)) (fun j w1 hj => (psmall_any _ (nd_small k hkm j hj).1 (nd_small k hkm j hj).2 w1).mono (fun e w' h => by obtain ⟨a, l, c, h⟩ := h; exact ⟨_, a, l, c, h⟩)))
   rintro e wn ⟨f2, a2, l2, c2, rfl, n2, bn⟩
   replace bc := Below.after bc bn
   try go_wp2_with fail
   refine hK.out _ _ bc (fun _ => ?_)
   replace hz := hz.below bn
   replace n1 := n1.below bn
   clear hK K bn
   revert b b' x x'
   refine WA.fin2 8 9 rfl rfl bc ?_
   clear bc
   intro x x' w' hz bx bc
   replace n1 := n1.below bx
   replace n2 := n2.below bx
   obtain ⟨g0, rfl, h0, k0⟩ := hz.p rfl
   obtain ⟨g1, rfl, h1, k1⟩ := hz.p' rfl
   have n01 : ¬ g0 = g1 := fun e => hz.ne rfl rfl (by rw [e])
   clear bx hz
   obtain ⟨e0, e1⟩ := xk2 k0
   have q0 := Cel.frozen k0 0
   have q1 := Cel.frozen k0 1
   refine WA.call 10 rfl (fun K hK => ?_)
   simp only [List.getElem_toArray, List.getElem_cons_succ, List.getElem_cons_zero]
   go_simp
   try go_wp2_with fail
   clear e0 e1 q0 q1
   replace bc := bset (bset bc h0 0 (.bool f1)) h0 1 (.slice a1 l1 c1)
   refine hK.out _ _ bc (fun _ => ?_)
   clear hK K
   replace n1 := n1.set2 k0 (.bool f1) (.slice a1 l1 c1)
   replace n2 := n2.set2 k0 (.bool f1) (.slice a1 l1 c1)
   replace k1 := k1.oth2 (fun e => n01 e.symm) (.bool f1) (.slice a1 l1 c1)
   replace k0 := (k0.set 0 (.bool f1)).set 1 (.slice a1 l1 c1)
   obtain ⟨e0, e1⟩ := xk2 k1
   have q0 := Cel.frozen k1 0
   have q1 := Cel.frozen k1 1
   refine WA.call 11 rfl (fun K hK => ?_)
   simp only [List.getElem_toArray, List.getElem_cons_succ, List.getElem_cons_zero]
   go_simp
   try go_wp2_with fail
   clear e0 e1 q0 q1
   replace bc := bset (bset bc h1 0 (.bool f2)) h1 1 (.slice a2 l2 c2)
   refine hK.out _ _ bc (fun _ => ?_)
   clear hK K
   replace n1 := n1.set2 k1 (.bool f2) (.slice a2 l2 c2)
   replace n2 := n2.set2 k1 (.bool f2) (.slice a2 l2 c2)
   replace k0 := k0.oth2 n01 (.bool f2) (.slice a2 l2 c2)
   replace k1 := (k1.set 0 (.bool f2)).set 1 (.slice a2 l2 c2)
   refine WA.done (by kernel_rfl) ?_
   generalize (((w'.setCell ⟨g0, 0, none⟩ (.bool f1)).setCell ⟨g0, 1, none⟩ (.slice a1 l1 c1)).setCell ⟨g1, 0, none⟩ (.bool f2)).setCell ⟨g1, 1, none⟩ (.slice a2 l2 c2) = wX at *
   have bX := Below.after bq bc
   replace hN := shut (ni_below ho.out hN.out bc)
   replace ho := shut (ownr_below ho.out bc)
   replace hv := shut (hv.out.below bc)
   clear bc bq kw h0 h1 n01 HX HY hI
   have kq' := kq.below bX
   have kt' := kt.below bX
   obtain ⟨x0, x1, x2⟩ := xk3 kq'
   obtain ⟨y0, y1⟩ := xk2 k0
   obtain ⟨y2, y3⟩ := xk2 k1
   obtain ⟨y4, y5⟩ := xk2 kt'
   go_wp2_with fail
   clear x0 x1 x2 y0 y1 y2 y3 y4 y5 kq' kt' k0 k1
   go_fit (pat_any mc vc false f1 f2 ft uca a1 a2 ta ucl ucc l1 c1 l2 c2 tl tc Zc _ _ (U + U) L 204 gc _ (by omega) (kG.out.below bX) (hvc.out.below bX) (n1.mono (by omega)) (n2.mono (by omega)) ((nT.below bX).mono (by omega)))
   rintro e wy ⟨fy, ay, ly, cy, rfl, ny, b1⟩
   clear n1 n2
   replace hN := shut (ni_below ho.out hN.out b1)
   replace ho := shut (ownr_below ho.out b1)
   replace hv := shut (hv.out.below b1)
   replace bX := Below.after bX b1
   clear b1
   have sX := bX.size
   have KN := shut (rdn_one (Cel.new wy [.bool fy, .slice ay ly cy] 68))
   have HS : Hid (w11.heap.size ≤ (wy.alloc (.cells #[.bool fy, .slice ay ly cy] 68)).heap.size) := Nat.le_trans sX (by simp)
   go_wp2_with (at_builtin; refine wpList_apNum rfl _ _ rfl u17 k (fln k N u) rfl w11.heap.size (ho.out.alloc _) HS.out wy.heap.size 0 1 1 (fun _ => fy) (fun _ => .slice ay ly cy) rfl KN.out (fun q hq => ⟨_, _, _, rfl⟩) (by omega) (ni_below ho.out hN.out (bel_al _ _)) ?_; intro v' w2 o2 hg2 hn2)
   rw [fln_cat] at o2
   have hna := ni_below ho.out hN.out (bel_al wy (.cells #[.bool fy, .slice ay ly cy] 68))
   have B2 : Hid (Below w11.heap.size w11 w2) := Below.grown (bX.alloc sX _) hg2 HS.out (fun g hg => (ho.out.lt g hg).1)
   have V2 : Hid (NVs w2 (catn k N (fun _ => fy)) (catn k u (fun _ => .slice ay ly cy)) (nodeV Zc Zs (U + U)) 700 (k + 1)) := fun q hq => by
    unfold catn
    by_cases hqk : q < k
    ·rw [if_pos hqk, if_pos hqk]
     exact ⟨((hv.out q hqk).1.below (bel_al _ _)).grown hg2 hna, (hv.out q hqk).2⟩
    ·obtain rfl : q = k := by omega
     rw [if_neg hqk, if_neg hqk]
     exact ⟨((ny.below (bel_al _ _)).grown hg2 hna).mono (by omega), _, _, _, rfl⟩
   replace o2 := shut o2
   replace hn2 := shut hn2
   clear hg2 hna ho hN hv ny KN HS bX
   go_wp2
   exact ⟨⟨B2.out, k + 1, _, _, by omega, by go_num, o2.out, hn2.out, V2.out⟩, by simp [intOf]; omega⟩
  ·obtain rfl : k = 6 := by omega
   have i3 : ¬ ((6 : Nat) : Int) < 6 := by omega
   obtain ⟨gv, cv, rfl, hgv⟩ := own_slice ho.out (by omega)
   have t11 := shut kr.lt
   clear HX HY hI hkm kS hvs
   go_upto_region 17 with fail
   clear i3
   have bd := bdrew wr
   replace hv := shut (hv.out.below bd)
   replace ho := shut (ownr_below ho.out bd)
   replace bb := Below.after bb bd
   have kq' := kq.below bb
   have kt' := kt.below bb
   have kz' := kz.below bb
   have kr' := kr.below bb
   have nQ' := nQ.below bb
   have nT' := nT.below bb
   replace bL := Below.after bL bb
   clear bd bb kq kt kz kr nQ nT kG hvc
   refine wp_region_held_drew (S := fun w' => xc3 w' w5.heap.size (.slice (some ⟨gc, 0, none⟩) 6 6) (.bool false) (.slice uca ucl ucc) ∧ xc2 w' w10.heap.size (.bool ft) (.slice ta tl tc) ∧ xc3 w' w3.heap.size (.bool zN) (.string zS) (.string zD)) (by kernel_rfl) ⟨xk3 kq', xk2 kt', xk3 kz'⟩ (fun hS => ?_)
   generalize wr.drew = wd at *
   refine WA.start (n := 18) (by kernel_rfl) ?_
   refine WA.tp 0 rfl ?_
   refine WA.tp 1 rfl ?_
   refine WA.tp 2 rfl ?_
   refine WA.tp 3 rfl ?_
   refine WA.tp 4 rfl ?_
   refine WA.tp 6 rfl ?_
   refine WA.tp 7 rfl ?_
   refine WA.tp 8 rfl ?_
   refine WA.tp 9 rfl ?_
   refine WA.tp 11 rfl ?_
   refine WA.tp 12 rfl ?_
   refine WA.tp 13 rfl ?_
   refine WA.genZ (i := 5) (s := 92) (PtS [.bool false, .slice uca ucl ucc, .bool ft, .slice ta tl tc, .bool ft, .slice ta tl tc] 68 3) (fun b x hz => ?_)
   simp only [Act.put, List.setIfInBounds_toArray, List.set_cons_zero, List.set_cons_succ]
   revert b x
   refine WA.oneS 18 15327 10 5 rfl rfl (fun w' h => ⟨xc3_al h.1 _, xc2_al h.2.1 _, xc3_al h.2.2 _⟩) hS ?_
   clear hS
   intro b x w' hz bx hS K hK
   replace hv := shut (hv.out.below bx)
   replace ho := shut (ownr_below ho.out bx)
   replace kq' := kq'.below bx
   replace kt' := kt'.below bx
   replace kz' := kz'.below bx
   replace kr' := kr'.below bx
   replace nQ' := nQ'.below bx
   replace nT' := nT'.below bx
   replace bL := Below.after bL bx
   clear bx hS
   simp only [List.getElem_toArray, List.getElem_cons_succ, List.getElem_cons_zero]
   go_simp
   go_fit (H2.out _)
   rintro e wn ⟨a2, l2, c2, rfl, n2, bn⟩
   replace hz := fun h => (hz h).below bn
   replace hv := shut (hv.out.below bn)
   replace ho := shut (ownr_below ho.out bn)
   replace kq' := kq'.below bn
   replace kt' := kt'.below bn
   replace kz' := kz'.below bn
   replace kr' := kr'.below bn
   replace nQ' := nQ'.below bn
   replace nT' := nT'.below bn
   replace bL := Below.after bL bn
   clear bn
   try go_wp2_with fail
   refine hK.out _ _ ⟨xk3 kq', xk2 kt', xk3 kz'⟩ (fun hS => ?_)
   clear hK K
   revert b x
   refine WA.oneS 18 16351 14 5 rfl rfl (fun w' h => ⟨xc3_al h.1 _, xc2_al h.2.1 _, xc3_al h.2.2 _⟩) hS ?_
   clear hS
   intro b x w' hz bx hS K hK
   replace hv := shut (hv.out.below bx)
   replace ho := shut (ownr_below ho.out bx)
   replace kq' := kq'.below bx
   replace kt' := kt'.below bx
   replace kz' := kz'.below bx
   replace kr' := kr'.below bx
   replace nQ' := nQ'.below bx
   replace nT' := nT'.below bx
   replace n2 := n2.below bx
   replace bL := Below.after bL bx
   clear bx hS
   simp only [List.getElem_toArray, List.getElem_cons_succ, List.getElem_cons_zero]
   go_simp
   go_fit (H3.out _)
   rintro e wn ⟨a3, l3, c3, rfl, n3, bn⟩
   replace hz := fun h => (hz h).below bn
   replace hv := shut (hv.out.below bn)
   replace ho := shut (ownr_below ho.out bn)
   replace kq' := kq'.below bn
   replace kt' := kt'.below bn
   replace kz' := kz'.below bn
   replace kr' := kr'.below bn
   replace nQ' := nQ'.below bn
   replace nT' := nT'.below bn
   replace n2 := n2.below bn
   replace bL := Below.after bL bn
   clear bn
   try go_wp2_with fail
   refine hK.out _ _ ⟨xk3 kq', xk2 kt', xk3 kz'⟩ (fun hS => ?_)
   clear hK K
   revert b x
   refine WA.finS 5 rfl (fun w' h => ⟨xc3_al h.1 _, xc2_al h.2.1 _, xc3_al h.2.2 _⟩) hS ?_
   clear hS
   intro x w' hz bx hS
   obtain ⟨gy, rfl, ky⟩ := hz
   replace hv := shut (hv.out.below bx)
   replace ho := shut (ownr_below ho.out bx)
   replace kq' := kq'.below bx
   replace kt' := kt'.below bx
   replace kz' := kz'.below bx
   replace kr' := kr'.below bx
   replace nQ' := nQ'.below bx
   replace nT' := nT'.below bx
   replace n2 := n2.below bx
   replace n3 := n3.below bx
   replace bL := Below.after bL bx
   clear bx
   refine WA.tp 15 rfl ?_
   obtain ⟨e0, e1, e2, e3, e4, e5⟩ := xk6 kr'
   have f0 := Cel.frozen kr' 0
   have f1 := Cel.frozen kr' 1
   have f2 := Cel.frozen kr' 2
   have f3 := Cel.frozen kr' 3
   have f4 := Cel.frozen kr' 4
   have f5 := Cel.frozen kr' 5
   clear hS
   refine WA.cal 16 rfl (fun K hK => ?_)
   simp only [List.getElem_toArray, List.getElem_cons_succ, List.getElem_cons_zero]
   go_simp
   try go_wp2_with fail
   clear e0 e1 e2 e3 e4 e5 f0 f1 f2 f3 f4 f5
   have hgy : gy ≠ w.heap.size + 1 + 1 + 1 + 1 := fun e => by
    subst e
    have h := (show w'.heap[w.heap.size + 1 + 1 + 1 + 1]? = _ from kr').symm.trans (show w'.heap[w.heap.size + 1 + 1 + 1 + 1]? = _ from ky)
    injection h with h
    injection h with h1 h2
    exact absurd h2 (by decide)
   have g3 : w3.heap.size ≠ w.heap.size + 1 + 1 + 1 + 1 := by have := t3.out; omega
   have g5 : w5.heap.size ≠ w.heap.size + 1 + 1 + 1 + 1 := by have := t5.out; omega
   have g10 : w10.heap.size ≠ w.heap.size + 1 + 1 + 1 + 1 := by have := t10.out; omega
   have ggv : gv ≠ w.heap.size + 1 + 1 + 1 + 1 := by have := t11.out; omega
   have hnk : ∀ u ∈ [.slice none 0 0, .slice none 0 0, .bool false, .slice none 0 0, .bool false, .slice none 0 0], noI u := by simp [noI]
   have hall := fun (n : Bool) (v : Value) (z : Int) (L : Nat) (h : NV w' n v z L) => h.set6w kr' hnk (x5 := .slice a3 l3 c3) (noI_s (some ⟨gv, 0, none⟩) 6 cv) (noI_s (some ⟨gy, 0, none⟩) 3 3) (noI_b false) (noI_s a2 l2 c2) (noI_b false)
   have R6 := shut (rdn_oth6 (rdn_own ho.out) ggv (.slice (some ⟨gv, 0, none⟩) 6 cv) (.slice (some ⟨gy, 0, none⟩) 3 3) (.bool false) (.slice a2 l2 c2) (.bool false) (.slice a3 l3 c3))
   have R3 := shut (rdn_oth6 (w := w') (b := gy) (off := 0) (n := 3) (rdn_three ky) hgy (.slice (some ⟨gv, 0, none⟩) 6 cv) (.slice (some ⟨gy, 0, none⟩) 3 3) (.bool false) (.slice a2 l2 c2) (.bool false) (.slice a3 l3 c3))
   have V6 := shut (show NVs (set6w w' (w.heap.size + 1 + 1 + 1 + 1) (.slice (some ⟨gv, 0, none⟩) 6 cv) (.slice (some ⟨gy, 0, none⟩) 3 3) (.bool false) (.slice a2 l2 c2) (.bool false) (.slice a3 l3 c3)) N u (nodeV Zc Zs (U + U)) 700 6 from fun q hq => ⟨hall _ _ _ _ (hv.out q hq).1, (hv.out q hq).2⟩)
   have V3 := shut (show NVs (set6w w' (w.heap.size + 1 + 1 + 1 + 1) (.slice (some ⟨gv, 0, none⟩) 6 cv) (.slice (some ⟨gy, 0, none⟩) 3 3) (.bool false) (.slice a2 l2 c2) (.bool false) (.slice a3 l3 c3)) (tw3 false ft ft) (fun j => .slice (tw3 uca ta ta j) (tw3 ucl tl tl j) (tw3 ucc tc tc j)) (tw3 Qu (U + U) (U + U)) (Lu + 1) 3 from fun q hq => by
    match q, hq with
    | 0, _ => exact ⟨hall _ _ _ _ (nQ'.mono (by omega)), _, _, _, rfl⟩
    | 1, _ => exact ⟨hall _ _ _ _ nT', _, _, _, rfl⟩
    | 2, _ => exact ⟨hall _ _ _ _ nT', _, _, _, rfl⟩)
   have N2 := shut (hall _ _ _ _ n2)
   have N3 := shut (hall _ _ _ _ n3)
   have BB := shut (bset6 bL (show w.heap.size ≤ w.heap.size + 1 + 1 + 1 + 1 by omega) (.slice (some ⟨gv, 0, none⟩) 6 cv) (.slice (some ⟨gy, 0, none⟩) 3 3) (.bool false) (.slice a2 l2 c2) (.bool false) (.slice a3 l3 c3))
   have K6 := kr'.set6 (.slice (some ⟨gv, 0, none⟩) 6 cv) (.slice (some ⟨gy, 0, none⟩) 3 3) (.bool false) (.slice a2 l2 c2) (.bool false) (.slice a3 l3 c3)
   refine hK.out _ _ ⟨xk3 (kq'.oths g5 (.slice (some ⟨gv, 0, none⟩) 6 cv) (.slice (some ⟨gy, 0, none⟩) 3 3) (.bool false) (.slice a2 l2 c2) (.bool false) (.slice a3 l3 c3)), xk2 (kt'.oths g10 (.slice (some ⟨gv, 0, none⟩) 6 cv) (.slice (some ⟨gy, 0, none⟩) 3 3) (.bool false) (.slice a2 l2 c2) (.bool false) (.slice a3 l3 c3)), xk3 (kz'.oths g3 (.slice (some ⟨gv, 0, none⟩) 6 cv) (.slice (some ⟨gy, 0, none⟩) 3 3) (.bool false) (.slice a2 l2 c2) (.bool false) (.slice a3 l3 c3))⟩ (fun hS => ?_)
   clear hK K hall
   refine WA.tp 17 rfl ?_
   refine WA.done (by kernel_rfl) ?_
   clear hS kq' kt' kz' kr' nQ' nT' n2 n3 ho hv bL ky
   go_wp2
   exact post_s6 (p := 8) (u := 9) (v := .int .i64 0) (by kernel_rfl) rfl rfl rfl K6 ⟨gv, gy, N, _, u, _, cv, a2, a3, l2, c2, l3, c3, rfl, R6.out, V6.out, R3.out, V3.out, N2.out, N3.out, BB.out⟩
end Go.Proofs.YtbafjmjcepcckaaGreatDoor
