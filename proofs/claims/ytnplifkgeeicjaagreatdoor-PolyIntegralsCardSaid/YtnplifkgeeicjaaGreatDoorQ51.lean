import Derived.Test.YtnplifkgeeicjaaGreatDoorQ40
namespace Go.Proofs.YtnplifkgeeicjaaGreatDoor
open Go.RowKit
def ndT : List (List Int) := [[2, 0, 0], [0, 2, 0], [0, 0, 2], [1, 1, 0], [0, 1, 1], [1, 0, 1]]
def Hl (i j : Nat) : Int := (ndT.getD i []).getD j 0
theorem Lm : ∀ k, k < 6 → ∀ j, j < 3 → -1000000 ≤ Hl k j ∧ Hl k j ≤ 1000000 := by decide
def Ff (Zc Zs : Nat → Int) (T : Int) (k : Nat) : Int := (Zc 0 * T + Zc 1 * D6 Zs (Hl k) 3 + Zc 2 * D6 (fun q => Zs (3 + q)) (Hl k) 3) * T + (Zc 3 * D6 Zs (Hl k) 3 + Zc 4 * D6 (fun q => Zs (3 + q)) (Hl k) 3) * D6 Zs (Hl k) 3 + Zc 5 * D6 (fun q => Zs (3 + q)) (Hl k) 3 * D6 (fun q => Zs (3 + q)) (Hl k) 3
theorem Dx {w w' : World} {B k n : Nat} {t : TypeId} {v : Value} {xs : List Value} (h : w.ownsRow B t k v n xs) (b : Below w.heap.size w w') : w'.ownsRow B t k v n xs := by
 refine ⟨h.1, ?_⟩
 rcases h.2 with h | ⟨g, cap, cur, e, hB, hg, r⟩
 ·exact Or.inl h
 ·refine Or.inr ⟨g, cap, cur, e, hB, ?_, r⟩
  rw [b.block g ?_]
  ·exact hg
  ·rcases Nat.lt_or_ge g w.heap.size with q | q
   ·exact q
   ·rw [Array.getElem?_eq_none q] at hg; cases hg
theorem Ht {w w' : World} {B k n : Nat} {t : TypeId} {v : Value} {xs : List Value} (h : w.ownsRow B t k v n xs) (hN : ∀ g, v.ownBlock = some g → NI w g) (b : Below w.heap.size w w') : ∀ g, v.ownBlock = some g → NI w' g := fun g hg i u hu => by
 have := (h.lt g hg).2
 rw [World.cell?_of_block (show w'.heap[(⟨g, i, none⟩ : Addr).block]? = w.heap[(⟨g, i, none⟩ : Addr).block]? from b.block g this)] at hu
 exact hN g hg i u hu
theorem Bdn {w : World} {g : Nat} {t : TypeId} {f : Bool} {v : Value} (h : Be w g [Iz f, v] t) : Hm w (some ⟨g, 0, none⟩) 1 (fun _ => f) (fun _ => v) := fun q hq => by
 obtain rfl : q = 0 := by omega
 exact ⟨g, 0, rfl, h.cell 0, h.cell 1⟩
theorem NV.setNI {w : World} {n : Bool} {v : Value} {z : Int} {L g : Nat} (h : NV w n v z L) (hN : NI w g) (i : Nat) (x : Value) : NV (w.setCell ⟨g, i, none⟩ x) n v z L := by
 obtain ⟨k, ⟨a, cap, rfl, hcap, hc⟩, h1, h2⟩ := h
 refine ⟨k, ⟨a, cap, rfl, hcap, fun j hj => ?_⟩, h1, h2⟩
 obtain ⟨b, off, rfl, hcell⟩ := hc j hj
 refine ⟨b, off, rfl, ?_⟩
 have hne : b ≠ g := fun e => by subst e; exact hN _ _ hcell _ _ rfl
 rw [World.cell?_setCell_other _ _ _ _ (fun e => hne (by injection e with e; exact e.symm))]
 exact hcell
theorem Ll {cs : List Value} {x : Value} (hn : ∀ u ∈ cs, O2 u) (hx : O2 x) (i : Nat) : ∀ u ∈ cs.set i x, O2 u := fun u hu => (List.mem_or_eq_of_mem_set hu).elim (hn u) (fun e => e ▸ hx)
abbrev Rv (w : World) (g : Nat) (x0 x1 x2 x3 x4 x5 : Value) : World := (((((w.setCell ⟨g, 0, none⟩ x0).setCell ⟨g, 1, none⟩ x1).setCell ⟨g, 2, none⟩ x2).setCell ⟨g, 3, none⟩ x3).setCell ⟨g, 4, none⟩ x4).setCell ⟨g, 5, none⟩ x5
theorem NV.set6w {w : World} {n : Bool} {v : Value} {z : Int} {L g : Nat} {t : TypeId} {cs : List Value} (h : NV w n v z L) (hc : Be w g cs t) (hn : ∀ u ∈ cs, O2 u) {x0 x1 x2 x3 x4 x5 : Value} (h0 : O2 x0) (h1 : O2 x1) (h2 : O2 x2) (h3 : O2 x3) (h4 : O2 x4) : NV (Rv w g x0 x1 x2 x3 x4 x5) n v z L := by
 have m0 := h.setNI (Kw hc hn) 0 x0
 have c0 := hc.set 0 x0
 have n0 := Ll hn h0 0
 have m1 := m0.setNI (Kw c0 n0) 1 x1
 have c1 := c0.set 1 x1
 have n1 := Ll n0 h1 1
 have m2 := m1.setNI (Kw c1 n1) 2 x2
 have c2 := c1.set 2 x2
 have n2 := Ll n1 h2 2
 have m3 := m2.setNI (Kw c2 n2) 3 x3
 have c3 := c2.set 3 x3
 have n3 := Ll n2 h3 3
 have m4 := m3.setNI (Kw c3 n3) 4 x4
 have c4 := c3.set 4 x4
 have n4 := Ll n3 h4 4
 exact m4.setNI (Kw c4 n4) 5 x5
theorem Ke {w : World} {b off n g i : Nat} {N : Nat → Bool} {v : Nat → Value} (h : Hm w (some ⟨b, off, none⟩) n N v) (hne : b ≠ g) (x : Value) : Hm (w.setCell ⟨g, i, none⟩ x) (some ⟨b, off, none⟩) n N v := fun j hj => by
 obtain ⟨b', off', e, h0, h1⟩ := h j hj
 injection e with e
 injection e with e1 e2
 subst e1 e2
 refine ⟨b, off, rfl, ?_, ?_⟩
 ·rw [World.cell?_setCell_other _ _ _ _ (fun e => hne (by injection e with e; exact e.symm))]; exact h0
 ·rw [World.cell?_setCell_other _ _ _ _ (fun e => hne (by injection e with e; exact e.symm))]; exact h1
theorem Sb {w : World} {b off n g : Nat} {N : Nat → Bool} {v : Nat → Value} (h : Hm w (some ⟨b, off, none⟩) n N v) (hne : b ≠ g) (x0 x1 x2 x3 x4 x5 : Value) : Hm (Rv w g x0 x1 x2 x3 x4 x5) (some ⟨b, off, none⟩) n N v := Ke (Ke (Ke (Ke (Ke (Ke h hne x0) hne x1) hne x2) hne x3) hne x4) hne x5
theorem Be.oths {w : World} {g g' : Nat} {cs : List Value} {t : TypeId} (h : Be w g cs t) (hne : g ≠ g') (x0 x1 x2 x3 x4 x5 : Value) : Be (Rv w g' x0 x1 x2 x3 x4 x5) g cs t := (((((h.w hne 0 x0).w hne 1 x1).w hne 2 x2).w hne 3 x3).w hne 4 x4).w hne 5 x5
theorem WA.genZ {P : Program} {ops : Array Oper} {Q : Exit → Act → World → Prop} {S : World → Prop} {l : Array Bool} {a : Act} {w : World} {i s : Nat} (Z : Value → World → Prop) (h : ∀ b x, (b = true → Z x w) → WA P ops Q S (l.setIfInBounds i b) (a.put (some s) x) w)
  (hl : l.setIfInBounds i false = l := by kernel_rfl) : WA P ops Q S l a w := by
 have := h false (a.tmps.getD s undef) (fun h => by cases h)
 rw [hl, Lh] at this
 exact this
theorem L6 {w : World} {g : Nat} {x y z : Value} (h : Gy w g x y z) (o : Obj) : Gy (w.alloc o) g x y z := ⟨Bh h.1 (Ct _ _), Bh h.2.1 (Ct _ _), Bh h.2.2 (Ct _ _)⟩
theorem Th {w : World} {g : Nat} {x y : Value} (h : Fb w g x y) (o : Obj) : Fb (w.alloc o) g x y := ⟨Bh h.1 (Ct _ _), Bh h.2 (Ct _ _)⟩
theorem WA.gen2R {P : Program} {ops : Array Oper} {Q : Exit → Act → World → Prop} {S : World → Prop} {l : Array Bool} {a : Act} {w : World} {i s i' s' : Nat} (Z Z' : Value → World → Prop) (h : ∀ b b' x x', (b = true → Z x w) → (b' = true → Z' x' w) → (b = true → b' = true → x ≠ x') → WA P ops Q S ((l.setIfInBounds i b).setIfInBounds i' b') ((a.put (some s) x).put (some s') x') w)
  (hl : (l.setIfInBounds i false).setIfInBounds i' false = l := by kernel_rfl) : WA P ops Q S l a w := by
 have := h false false (a.tmps.getD s undef) (a.tmps.getD s' undef) (fun h => by cases h) (fun h => by cases h) (fun h => by cases h)
 rw [hl, Lh, Lh] at this
 exact this
theorem Bgl (k : Nat) (hk : k < 6) (w : World) : (Instr.index 116 (.agg #[.int .i64 2, .int .i64 0, .int .i64 0, .int .i64 0, .int .i64 2, .int .i64 0, .int .i64 0, .int .i64 0, .int .i64 2, .int .i64 1, .int .i64 1, .int .i64 0, .int .i64 0, .int .i64 1, .int .i64 1, .int .i64 1, .int .i64 0, .int .i64 1]) (.int .i64 k)).run Tryz.prog w = .ok (.agg #[.int .i64 (Hl k 0), .int .i64 (Hl k 1), .int .i64 (Hl k 2)]) w := by
 obtain rfl | rfl | rfl | rfl | rfl | rfl : k = 0 ∨ k = 1 ∨ k = 2 ∨ k = 3 ∨ k = 4 ∨ k = 5 := by omega
 all_goals kernel_rfl
theorem Pe {w : World} {g : Nat} {t : TypeId} {m : Nat → Bool} {v : Nat → Value} {N j n : Nat} (h : Ck w g t (N * 2) (Na m v N)) (hj : j + n ≤ N) : Hm w (some ⟨g, j * 2, none⟩) n (fun q => m (j + q)) (fun q => v (j + q)) := fun q hq => by
 refine ⟨g, j * 2, rfl, ?_, ?_⟩
 ·rw [← Nat.add_mul, h.cell (by omega), Bho m v (by omega)]
 ·rw [← Nat.add_mul, h.cell (by omega), Bhn m v (by omega)]
theorem Bfd {w : World} {g : Nat} {t : TypeId} {f : Nat → Int} (h : Be w g [.int .i64 (f 0), .int .i64 (f 1), .int .i64 (f 2)] t) : RdW w (some ⟨g, 0, none⟩) 3 f := fun j hj => by
 refine ⟨g, 0, rfl, ?_⟩
 match j, hj with
 | 0, _ => exact h.cell 0
 | 1, _ => exact h.cell 1
 | 2, _ => exact h.cell 2
theorem Bfc {w : World} {g : Nat} {t : TypeId} {f : Nat → Int} (h : Be w g [.int .i64 (f 0), .int .i64 (f 1), .int .i64 (f 2), .int .i64 (f 3), .int .i64 (f 4), .int .i64 (f 5)] t) : RdW w (some ⟨g, 0, none⟩) 6 f := fun j hj => by
 refine ⟨g, 0, rfl, ?_⟩
 match j, hj with
 | 0, _ => exact h.cell 0
 | 1, _ => exact h.cell 1
 | 2, _ => exact h.cell 2
 | 3, _ => exact h.cell 3
 | 4, _ => exact h.cell 4
 | 5, _ => exact h.cell 5
set_option maxRecDepth 100000 in
set_option maxHeartbeats 16000000 in
theorem Xt (n0 n1 n2 n3 n4 n5 p0 p1 p2 p3 p4 p5 : Bool) (s0 d0 s1 d1 s2 d2 s3 d3 s4 d4 s5 d5 q0 r0 q1 r1 q2 r2 q3 r3 q4 r4 q5 r5 : ByteArray) (zN : Bool) (zS zD : ByteArray) (Zc Zs : Nat → Int) (Qu U A2 AB : Int) (L Lu : Nat) (w : World) (hL : L ≤ 200) (hLu : Lu ≤ 200) (hz : zS.toList.isEmpty = false) (tg : TypeId) (fr : Nat × Nat)
  (ht : w.heap[2]? = some (.cells #[.int .i64 2, .int .i64 0, .int .i64 0, .int .i64 0, .int .i64 2, .int .i64 0, .int .i64 0, .int .i64 0, .int .i64 2, .int .i64 1, .int .i64 1, .int .i64 0, .int .i64 0, .int .i64 1, .int .i64 1, .int .i64 1, .int .i64 0, .int .i64 1] tg fr))
  (HC : Hid (∀ w1 B, Below w.heap.size w w1 → Be w1 B (Di p0 q0 r0 p1 q1 r1 p2 q2 r2 p3 q3 r3 p4 q4 r4 p5 q5 r5) 30 → Calls Tryz.prog 59 #[(Cp n0 s0 d0 n1 s1 d1 n2 s2 d2 n3 s3 d3 n4 s4 d4 n5 s5 d5), .slice (some ⟨B, 0, none⟩) 3 3] w1 (Re w1 (.int .i64 0))))
  (HA : Hid (∀ w1, Below w.heap.size w w1 → Calls Tryz.prog 60 #[(B4 p0 q0 r0 p1 q1 r1), (B4 p2 q2 r2 p3 q3 r3), (B4 p4 q4 r4 p5 q5 r5)] w1 (Re w1 (.tuple #[(Bo zN zS zD), .int .i64 0]))))
  (HG : Hid (∀ w1, Below w.heap.size w w1 → Calls Tryz.prog 61 #[(Cp n0 s0 d0 n1 s1 d1 n2 s2 d2 n3 s3 d3 n4 s4 d4 n5 s5 d5)] w1 fun e w' => ∃ g m v a l c, e = .returned (.agg #[.slice (some ⟨g, 0, none⟩) 6 6, Iz false, .slice a l c]) ∧ Ck w' g 66 (6 * 2) (Na m v 6) ∧ Km w' m v Zc L 6 ∧ NV w' false (.slice a l c) Qu Lu ∧ Below w1.heap.size w1 w'))
  (HH : Hid (∀ w1 B, Below w.heap.size w w1 → Be w1 B (Di p0 q0 r0 p2 q2 r2 p4 q4 r4 p1 q1 r1 p3 q3 r3 p5 q5 r5) 26 → Calls Tryz.prog 62 #[.slice (some ⟨B, 0, none⟩) 6 6] w1 fun e w' => ∃ g m v a l c, w1.heap.size ≤ g ∧ e = .returned (.tuple #[.slice (some ⟨g, 0, none⟩) 6 6, .agg #[Iz false, .slice a l c]]) ∧ Ck w' g 66 (6 * 2) (Na m v 6) ∧ Km w' m v Zs L 6 ∧ NV w' false (.slice a l c) U Lu ∧ Below w1.heap.size w1 w'))
  (H2 : Hid (∀ w1, Calls Tryz.prog 66 #[.agg #[Iz false, I zS]] w1 fun e w' => ∃ a l c, e = .returned (.agg #[Iz false, .slice a l c]) ∧ NV w' false (.slice a l c) A2 Lu ∧ Below w1.heap.size w1 w'))
  (H3 : Hid (∀ w1, Calls Tryz.prog 66 #[.agg #[Iz false, I zD]] w1 fun e w' => ∃ a l c, e = .returned (.agg #[Iz false, .slice a l c]) ∧ NV w' false (.slice a l c) AB Lu ∧ Below w1.heap.size w1 w')) :
  Calls Tryz.prog 30 #[(Cp n0 s0 d0 n1 s1 d1 n2 s2 d2 n3 s3 d3 n4 s4 d4 n5 s5 d5), (B4 p0 q0 r0 p1 q1 r1), (B4 p2 q2 r2 p3 q3 r3), (B4 p4 q4 r4 p5 q5 r5)] w fun e w' => ∃ (g gy : Nat) (N Ny : Nat → Bool) (v vy : Nat → Value) (c : Nat) (a2 a3 : Option Addr) (l2 c2 l3 c3 : Nat), e = .returned (.tuple #[.agg #[.slice (some ⟨g, 0, none⟩) 6 c, .slice (some ⟨gy, 0, none⟩) 3 3, Iz false, .slice a2 l2 c2, Iz false, .slice a3 l3 c3], .int .i64 0]) ∧
   Hm w' (some ⟨g, 0, none⟩) 6 N v ∧ Km w' N v (Ff Zc Zs (U + U)) 700 6 ∧ Hm w' (some ⟨gy, 0, none⟩) 3 Ny vy ∧ Km w' Ny vy (Pw Qu (U + U) (U + U)) (Lu + 1) 3 ∧ NV w' false (.slice a2 l2 c2) A2 Lu ∧ NV w' false (.slice a3 l3 c3) AB Lu ∧ Below w.heap.size w w' := by
 have HT := Ba ht
 have ht0 : 2 < w.heap.size := by
  rcases Nat.lt_or_ge 2 w.heap.size with q | q
  ·exact q
  ·rw [Array.getElem?_eq_none q] at ht; cases ht
 clear ht
 go_enter Tryz.func30, Tryz.ntmps30
 go_upto_region 1 with fail
 obtain ⟨w0, hq, kf, ka, kb, kc, kr, bb⟩ := mk5 w (Di n0 s0 d0 n1 s1 d1 n2 s2 d2 n3 s3 d3 n4 s4 d4 n5 s5 d5) (Cn p0 q0 r0 p1 q1 r1) (Cn p2 q2 r2 p3 q3 r3) (Cn p4 q4 r4 p5 q5 r5) [.slice none 0 0, .slice none 0 0, Iz false, .slice none 0 0, Iz false, .slice none 0 0] 28 30 30 30 68
 rw [← hq]
 clear hq
 obtain ⟨x0, x1, x2, x3, x4, x5⟩ := Cw ka
 obtain ⟨y0, y1, y2, y3, y4, y5⟩ := Cw kb
 obtain ⟨z0, z1, z2, z3, z4, z5⟩ := Cw kc
 go_wp2_with (refine Je rfl 28 _ rfl _ rfl 28 _ (0, 0) _ kf Tryz.underlying28 rfl (by kernel_rfl) ?_)
 clear x0 x1 x2 x3 x4 x5 y0 y1 y2 y3 y4 y5 z0 z1 z2 z3 z4 z5
 obtain ⟨w1, hq, kl, b1⟩ := D7 w0 (Di p0 q0 r0 p1 q1 r1 p2 q2 r2 p3 q3 r3 p4 q4 r4 p5 q5 r5) 30
 rw [← hq]
 clear hq
 replace kf := kf.b b1
 replace ka := ka.b b1
 replace kb := kb.b b1
 replace kc := kc.b b1
 replace kr := kr.b b1
 replace bb := Ia bb b1
 clear b1
 go_fit (HC.out _ _ bb kl)
 rintro e w2 ⟨rfl, b1⟩
 clear kl
 replace kf := kf.b b1
 replace ka := ka.b b1
 replace kb := kb.b b1
 replace kc := kc.b b1
 replace kr := kr.b b1
 replace bb := Ia bb b1
 clear b1
 obtain ⟨x0, x1, x2, x3, x4, x5⟩ := Cw ka
 obtain ⟨y0, y1, y2, y3, y4, y5⟩ := Cw kb
 obtain ⟨z0, z1, z2, z3, z4, z5⟩ := Cw kc
 go_wp2_with fail
 clear x0 x1 x2 x3 x4 x5 y0 y1 y2 y3 y4 y5 z0 z1 z2 z3 z4 z5
 go_fit (HA.out _ bb)
 rintro e w3 ⟨rfl, b1⟩
 replace kf := kf.b b1
 replace ka := ka.b b1
 replace kb := kb.b b1
 replace kc := kc.b b1
 replace kr := kr.b b1
 replace bb := Ia bb b1
 clear b1
 have t3 := Ba kr.lt
 go_upto_region 5 with fail
 obtain ⟨w4, hq, kz, b1⟩ := D7 w3 (Bx zN zS zD) 26
 rw [← hq]
 clear hq
 replace kf := kf.b b1
 replace ka := ka.b b1
 replace kb := kb.b b1
 replace kc := kc.b b1
 replace kr := kr.b b1
 replace bb := Ia bb b1
 clear b1
 obtain ⟨x0, x1, x2⟩ := Ch kz
 go_wp2_with (refine Je rfl 28 _ rfl _ rfl 28 _ (0, 0) _ kf Tryz.underlying28 rfl (by kernel_rfl) ?_)
 clear x0 x1 x2
 go_fit (HG.out _ bb)
 rintro e w5 ⟨gc, mc, vc, uca, ucl, ucc, rfl, kG, hvc, nQ, b1⟩
 clear kf
 replace kG := Ba kG
 replace hvc := Ba hvc
 replace ka := ka.b b1
 replace kb := kb.b b1
 replace kc := kc.b b1
 replace kr := kr.b b1
 replace kz := kz.b b1
 replace bb := Ia bb b1
 clear b1
 have t5 := Ba kr.lt
 go_upto_region 8 with fail
 obtain ⟨w6, hq, kq, b1⟩ := D7 w5 [.slice (some ⟨gc, 0, none⟩) 6 6, Iz false, .slice uca ucl ucc] 111
 rw [← hq]
 clear hq
 replace kG := Ba (kG.out.b b1)
 replace hvc := Ba (hvc.out.b b1)
 replace ka := ka.b b1
 replace kb := kb.b b1
 replace kc := kc.b b1
 replace kr := kr.b b1
 replace kz := kz.b b1
 replace nQ := nQ.b b1
 replace bb := Ia bb b1
 clear b1
 obtain ⟨x0, x1, x2, x3, x4, x5⟩ := Cw ka
 obtain ⟨y0, y1, y2, y3, y4, y5⟩ := Cw kb
 obtain ⟨z0, z1, z2, z3, z4, z5⟩ := Cw kc
 go_wp2_with fail
 clear x0 x1 x2 x3 x4 x5 y0 y1 y2 y3 y4 y5 z0 z1 z2 z3 z4 z5
 obtain ⟨w7, hq, kl, b1⟩ := D7 w6 (Di p0 q0 r0 p2 q2 r2 p4 q4 r4 p1 q1 r1 p3 q3 r3 p5 q5 r5) 26
 rw [← hq]
 clear hq ka kb kc
 replace kG := Ba (kG.out.b b1)
 replace hvc := Ba (hvc.out.b b1)
 replace kr := kr.b b1
 replace kz := kz.b b1
 replace nQ := nQ.b b1
 replace kq := kq.b b1
 replace bb := Ia bb b1
 clear b1
 go_fit (HH.out _ _ bb kl)
 rintro e w8 ⟨gs, ms, vs, uta, utl, utc, gsl, rfl, kS, hvs, nU, b1⟩
 clear kl gsl
 replace kG := Ba (kG.out.b b1)
 replace hvc := Ba (hvc.out.b b1)
 replace kS := Ba kS
 replace hvs := Ba hvs
 replace kr := kr.b b1
 replace kz := kz.b b1
 replace nQ := nQ.b b1
 replace kq := kq.b b1
 replace bb := Ia bb b1
 clear b1
 go_upto_region 9 with fail
 obtain ⟨w9, hq, ku, b1⟩ := D7 w8 [Iz false, .slice uta utl utc] 66
 rw [← hq]
 clear hq
 replace kG := Ba (kG.out.b b1)
 replace hvc := Ba (hvc.out.b b1)
 replace kS := Ba (kS.out.b b1)
 replace hvs := Ba (hvs.out.b b1)
 replace kr := kr.b b1
 replace kz := kz.b b1
 replace nQ := nQ.b b1
 replace kq := kq.b b1
 replace nU := nU.b b1
 replace bb := Ia bb b1
 clear b1
 obtain ⟨x0, x1⟩ := B7 ku
 go_wp2_with fail
 clear x0 x1
 go_fit (Ef _ _ _ _ U U Lu _ (by omega) nU nU)
 rintro e w10 ⟨ft, vt, rfl, nT, b1⟩
 obtain ⟨ta, tl, tc, rfl⟩ := nT.slice
 replace kG := Ba (kG.out.b b1)
 replace hvc := Ba (hvc.out.b b1)
 replace kS := Ba (kS.out.b b1)
 replace hvs := Ba (hvs.out.b b1)
 clear ku nU
 replace kr := kr.b b1
 replace kz := kz.b b1
 replace nQ := nQ.b b1
 replace kq := kq.b b1
 replace bb := Ia bb b1
 clear b1
 have t10 := Ba kr.lt
 go_upto_region 11 with fail
 obtain ⟨w11, hq, kt, b1⟩ := D7 w10 [Iz ft, .slice ta tl tc] 66
 rw [← hq]
 clear hq
 replace kG := Ba (kG.out.b b1)
 replace hvc := Ba (hvc.out.b b1)
 replace kS := Ba (kS.out.b b1)
 replace hvs := Ba (hvs.out.b b1)
 replace kr := kr.b b1
 replace kz := kz.b b1
 replace nQ := nQ.b b1
 replace kq := kq.b b1
 replace nT := nT.b b1
 replace bb := Ia bb b1
 clear b1
 go_wp2_with (refine Je rfl 116 _ rfl 2 rfl tg _ fr _ (Uz HT.out bb ht0) Tryz.underlying116 rfl (by kernel_rfl) ?_)
 have hI : Hid (∀ k w1, k < 6 → (Instr.index 116 (.agg #[.int .i64 2, .int .i64 0, .int .i64 0, .int .i64 0, .int .i64 2, .int .i64 0, .int .i64 0, .int .i64 0, .int .i64 2, .int .i64 1, .int .i64 1, .int .i64 0, .int .i64 0, .int .i64 1, .int .i64 1, .int .i64 1, .int .i64 0, .int .i64 1]) (.int .i64 (k : Nat))).run Tryz.prog w1 = .ok (.agg #[.int .i64 (Hl k 0), .int .i64 (Hl k 1), .int .i64 (Hl k 2)]) w1) := fun k w1 hk => Bgl k hk w1
 clear HT ht0
 generalize (#[.int .i64 2, .int .i64 0, .int .i64 0, .int .i64 0, .int .i64 2, .int .i64 0, .int .i64 0, .int .i64 0, .int .i64 2, .int .i64 1, .int .i64 1, .int .i64 0, .int .i64 0, .int .i64 1, .int .i64 1, .int .i64 1, .int .i64 0, .int .i64 1] : Array Value) = TN at *
 have HX : Hid (∀ w1, Below w11.heap.size w11 w1 → Hm w1 (some ⟨gs, 0, none⟩) 3 ms vs) := fun w1 b => by
  have := (Pe (j := 0) (n := 3) kS.out (by omega)).b b
  simpa using this
 have HY : Hid (∀ w1, Below w11.heap.size w11 w1 → Hm w1 (some ⟨gs, 6, none⟩) 3 (fun q => ms (3 + q)) (fun q => vs (3 + q))) := fun w1 b => (Pe (j := 3) (n := 3) kS.out (by omega)).b b
 have bL := bb
 go_loopw [17, 67] (fun v i wr => Below w11.heap.size w11 wr ∧ ∃ (k : Nat) (N : Nat → Bool) (u : Nat → Value), k ≤ 6 ∧ i = .int .i64 k ∧ wr.ownsRow w11.heap.size 66 2 v k (Mw k N u) ∧ (∀ g, v.ownBlock = some g → NI wr g) ∧ Km wr N u (Ff Zc Zs (U + U)) 700 k) (fun _ i _ => 6 - (intOf i).toNat)
 case atStart => exact ⟨Jg _ _, 0, fun _ => false, fun _ => .slice none 0 0, by omega, rfl, World.ownsRow_nil _ _ _ _, fun g h => (by cases h), fun q hq => (by omega)⟩
 case round =>
  obtain ⟨bb, k, N, u, hk, rfl, ho, hN, hv⟩ := hrel
  replace ho := Ba ho
  replace hN := Ba hN
  replace hv := Ba hv
  by_cases hkm : k < 6
  ·have i1 : (k : Int) < 6 := by omega
   have i2 : ¬ (k : Int) < 0 := by omega
   go_upto_region 14 with (refine Ek rfl 116 _ _ rfl TN k rfl rfl _ (hI.out k _ hkm) ?_)
   obtain ⟨wq, hq, kw, b1⟩ := D7 wr [.int .i64 (Hl k 0), .int .i64 (Hl k 1), .int .i64 (Hl k 2)] 83
   rw [← hq]
   clear hq
   replace hN := Ba (Ht ho.out hN.out b1)
   replace ho := Ba (Dx ho.out b1)
   replace hv := Ba (hv.out.b b1)
   have bq := Ia bb b1
   clear b1 bb
   refine Jc (S := SB wq) (by kernel_rfl) (Cd _) (fun bc => ?_)
   refine WA.start (n := 12) (by kernel_rfl) ?_
   refine WA.tk 0 rfl ?_
   refine WA.tk 1 rfl ?_
   refine WA.tk 2 rfl ?_
   refine WA.tk 4 rfl ?_
   refine WA.tk 5 rfl ?_
   refine WA.tk 6 rfl ?_
   refine WA.gen2R (i := 8) (s := 20) (i' := 9) (s' := 21) (Pt wq [Iz false, .slice none 0 0] 66) (Pt wq [Iz false, .slice none 0 0] 66) (fun b b' x x' hz hy hn => ?_)
   simp only [Jp]
   replace hz := P2.mk hz hy hn
   clear hy hn
   revert b b' x x'
   refine WA.two 12 119 3 8 9 rfl rfl rfl bc ?_
   clear bc
   intro b b' x x' w' hz bx bc K hK
   clear bx
   simp only [Jq]
   go_simp
   go_fit (Fo (some ⟨gs, 0, none⟩) (some ⟨wr.heap.size, 0, none⟩) 3 6 3 3 ms vs Zs (Hl k) L _ (by omega) (by omega) (by omega) (HX.out _ (Ia bq bc)) (fun q hq => (hvs.out.b (Ia bq bc)) q (by omega)) (Bfd (kw.b bc)) (fun j w1 hj => (F9 _ (Lm k hkm j hj).1 (Lm k hkm j hj).2 w1).mono (fun e w' h => by obtain ⟨a, l, c, h⟩ := h; exact ⟨_, a, l, c, h⟩)))
   rintro e wn ⟨f1, a1, l1, c1, rfl, n1, bn⟩
   replace bc := Ia bc bn
   try go_wp2_with fail
   refine hK.out _ _ bc (fun _ => ?_)
   replace hz := hz.b bn
   clear hK K bn
   revert b b' x x'
   refine WA.two 12 127 7 8 9 rfl rfl rfl bc ?_
   clear bc
   intro b b' x x' w' hz bx bc K hK
   replace n1 := n1.b bx
   clear bx
   simp only [Jq]
   go_simp
   go_fit (Fo (some ⟨gs, 6, none⟩) (some ⟨wr.heap.size, 0, none⟩) 3 3 3 3 (fun q => ms (3 + q)) (fun q => vs (3 + q)) (fun q => Zs (3 + q)) (Hl k) L _ (by omega) (by omega) (by omega) (HY.out _ (Ia bq bc)) (fun q hq => (hvs.out.b (Ia bq bc)) (3 + q) (by omega)) (Bfd (kw.b bc)) (fun j w1 hj => (F9 _ (Lm k hkm j hj).1 (Lm k hkm j hj).2 w1).mono (fun e w' h => by obtain ⟨a, l, c, h⟩ := h; exact ⟨_, a, l, c, h⟩)))
   rintro e wn ⟨f2, a2, l2, c2, rfl, n2, bn⟩
   replace bc := Ia bc bn
   try go_wp2_with fail
   refine hK.out _ _ bc (fun _ => ?_)
   replace hz := hz.b bn
   replace n1 := n1.b bn
   clear hK K bn
   revert b b' x x'
   refine WA.fin2 8 9 rfl rfl bc ?_
   clear bc
   intro x x' w' hz bx bc
   replace n1 := n1.b bx
   replace n2 := n2.b bx
   obtain ⟨g0, rfl, h0, k0⟩ := hz.p rfl
   obtain ⟨g1, rfl, h1, k1⟩ := hz.p' rfl
   have n01 : ¬ g0 = g1 := fun e => hz.ne rfl rfl (by rw [e])
   clear bx hz
   obtain ⟨e0, e1⟩ := B7 k0
   have q0 := Be.o k0 0
   have q1 := Be.o k0 1
   refine WA.call 10 rfl (fun K hK => ?_)
   simp only [Jq]
   go_simp
   try go_wp2_with fail
   clear e0 e1 q0 q1
   replace bc := Bi (Bi bc h0 0 (Iz f1)) h0 1 (.slice a1 l1 c1)
   refine hK.out _ _ bc (fun _ => ?_)
   clear hK K
   replace n1 := n1.set2 k0 (Iz f1) (.slice a1 l1 c1)
   replace n2 := n2.set2 k0 (Iz f1) (.slice a1 l1 c1)
   replace k1 := k1.oth2 (fun e => n01 e.symm) (Iz f1) (.slice a1 l1 c1)
   replace k0 := (k0.set 0 (Iz f1)).set 1 (.slice a1 l1 c1)
   obtain ⟨e0, e1⟩ := B7 k1
   have q0 := Be.o k1 0
   have q1 := Be.o k1 1
   refine WA.call 11 rfl (fun K hK => ?_)
   simp only [Jq]
   go_simp
   try go_wp2_with fail
   clear e0 e1 q0 q1
   replace bc := Bi (Bi bc h1 0 (Iz f2)) h1 1 (.slice a2 l2 c2)
   refine hK.out _ _ bc (fun _ => ?_)
   clear hK K
   replace n1 := n1.set2 k1 (Iz f2) (.slice a2 l2 c2)
   replace n2 := n2.set2 k1 (Iz f2) (.slice a2 l2 c2)
   replace k0 := k0.oth2 n01 (Iz f2) (.slice a2 l2 c2)
   replace k1 := (k1.set 0 (Iz f2)).set 1 (.slice a2 l2 c2)
   refine WA.done (by kernel_rfl) ?_
   generalize (((w'.setCell ⟨g0, 0, none⟩ (Iz f1)).setCell ⟨g0, 1, none⟩ (.slice a1 l1 c1)).setCell ⟨g1, 0, none⟩ (Iz f2)).setCell ⟨g1, 1, none⟩ (.slice a2 l2 c2) = wX at *
   have bX := Ia bq bc
   replace hN := Ba (Ht ho.out hN.out bc)
   replace ho := Ba (Dx ho.out bc)
   replace hv := Ba (hv.out.b bc)
   clear bc bq kw h0 h1 n01 HX HY hI
   have kq' := kq.b bX
   have kt' := kt.b bX
   obtain ⟨x0, x1, x2⟩ := Ch kq'
   obtain ⟨y0, y1⟩ := B7 k0
   obtain ⟨y2, y3⟩ := B7 k1
   obtain ⟨y4, y5⟩ := B7 kt'
   go_wp2_with fail
   clear x0 x1 x2 y0 y1 y2 y3 y4 y5 kq' kt' k0 k1
   go_fit (Bdx mc vc false f1 f2 ft uca a1 a2 ta ucl ucc l1 c1 l2 c2 tl tc Zc _ _ (U + U) L 204 gc _ (by omega) (kG.out.b bX) (hvc.out.b bX) (n1.mono (by omega)) (n2.mono (by omega)) ((nT.b bX).mono (by omega)))
   rintro e wy ⟨fy, ay, ly, cy, rfl, ny, b1⟩
   clear n1 n2
   replace hN := Ba (Ht ho.out hN.out b1)
   replace ho := Ba (Dx ho.out b1)
   replace hv := Ba (hv.out.b b1)
   replace bX := Ia bX b1
   clear b1
   have sX := bX.size
   have KN := Ba (Bdn (Be.new wy [Iz fy, .slice ay ly cy] 66))
   have HS : Hid (w11.heap.size ≤ (wy.alloc (.cells #[Iz fy, .slice ay ly cy] 66)).heap.size) := Jf sX (by simp)
   go_wp2_with (at_builtin; refine Ps rfl _ _ rfl u17 k (Mw k N u) rfl w11.heap.size (ho.out.alloc _) HS.out wy.heap.size 0 1 1 (fun _ => fy) (fun _ => .slice ay ly cy) rfl KN.out (fun q hq => ⟨_, _, _, rfl⟩) (by omega) (Ht ho.out hN.out (Ct _ _)) ?_; intro v' w2 o2 hg2 hn2)
   rw [Qt] at o2
   have hna := Ht ho.out hN.out (Ct wy (.cells #[Iz fy, .slice ay ly cy] 66))
   have B2 : Hid (Below w11.heap.size w11 w2) := Below.grown (bX.alloc sX _) hg2 HS.out (fun g hg => (ho.out.lt g hg).1)
   have V2 : Hid (Km w2 (Ei k N (fun _ => fy)) (Ei k u (fun _ => .slice ay ly cy)) (Ff Zc Zs (U + U)) 700 (k + 1)) := fun q hq => by
    unfold Ei
    by_cases hqk : q < k
    ·rw [if_pos hqk, if_pos hqk]
     exact ⟨((hv.out q hqk).1.b (Ct _ _)).grown hg2 hna, (hv.out q hqk).2⟩
    ·obtain rfl : q = k := by omega
     rw [if_neg hqk, if_neg hqk]
     exact ⟨((ny.b (Ct _ _)).grown hg2 hna).mono (by omega), _, _, _, rfl⟩
   replace o2 := Ba o2
   replace hn2 := Ba hn2
   clear hg2 hna ho hN hv ny KN HS bX
   go_wp2
   exact ⟨⟨B2.out, k + 1, _, _, by omega, by go_num, o2.out, hn2.out, V2.out⟩, by simp [intOf]; omega⟩
  ·obtain rfl : k = 6 := by omega
   have i3 : ¬ ((6 : Nat) : Int) < 6 := by omega
   obtain ⟨gv, cv, rfl, hgv⟩ := Pf ho.out (by omega)
   have t11 := Ba kr.lt
   clear HX HY hI hkm kS hvs
   go_upto_region 17 with fail
   clear i3
   have bd := Cd wr
   replace hv := Ba (hv.out.b bd)
   replace ho := Ba (Dx ho.out bd)
   replace bb := Ia bb bd
   have kq' := kq.b bb
   have kt' := kt.b bb
   have kz' := kz.b bb
   have kr' := kr.b bb
   have nQ' := nQ.b bb
   have nT' := nT.b bb
   replace bL := Ia bL bb
   clear bd bb kq kt kz kr nQ nT kG hvc
   refine Jc (S := fun w' => Gy w' w5.heap.size (.slice (some ⟨gc, 0, none⟩) 6 6) (Iz false) (.slice uca ucl ucc) ∧ Fb w' w10.heap.size (Iz ft) (.slice ta tl tc) ∧ Gy w' w3.heap.size (Iz zN) (I zS) (I zD)) (by kernel_rfl) ⟨Ch kq', B7 kt', Ch kz'⟩ (fun hS => ?_)
   generalize wr.drew = wd at *
   refine WA.start (n := 18) (by kernel_rfl) ?_
   refine WA.tp 0 rfl ?_
   refine WA.tp 1 rfl ?_
   refine WA.tp 2 rfl ?_
   refine WA.tp 3 rfl ?_
   refine WA.tp 4 rfl ?_
   refine WA.tp 6 rfl ?_
   refine WA.tp 7 rfl ?_
   refine WA.tp 8 rfl ?_
   refine WA.tp 9 rfl ?_
   refine WA.tp 11 rfl ?_
   refine WA.tp 12 rfl ?_
   refine WA.tp 13 rfl ?_
   refine WA.genZ (i := 5) (s := 92) (PtS [Iz false, .slice uca ucl ucc, Iz ft, .slice ta tl tc, Iz ft, .slice ta tl tc] 66 3) (fun b x hz => ?_)
   simp only [Jp]
   revert b x
   refine WA.oneS 18 15327 10 5 rfl rfl (fun w' h => ⟨L6 h.1 _, Th h.2.1 _, L6 h.2.2 _⟩) hS ?_
   clear hS
   intro b x w' hz bx hS K hK
   replace hv := Ba (hv.out.b bx)
   replace ho := Ba (Dx ho.out bx)
   replace kq' := kq'.b bx
   replace kt' := kt'.b bx
   replace kz' := kz'.b bx
   replace kr' := kr'.b bx
   replace nQ' := nQ'.b bx
   replace nT' := nT'.b bx
   replace bL := Ia bL bx
   clear bx hS
   simp only [Jq]
   go_simp
   go_fit (H2.out _)
   rintro e wn ⟨a2, l2, c2, rfl, n2, bn⟩
   replace hz := fun h => (hz h).b bn
   replace hv := Ba (hv.out.b bn)
   replace ho := Ba (Dx ho.out bn)
   replace kq' := kq'.b bn
   replace kt' := kt'.b bn
   replace kz' := kz'.b bn
   replace kr' := kr'.b bn
   replace nQ' := nQ'.b bn
   replace nT' := nT'.b bn
   replace bL := Ia bL bn
   clear bn
   try go_wp2_with fail
   refine hK.out _ _ ⟨Ch kq', B7 kt', Ch kz'⟩ (fun hS => ?_)
   clear hK K
   revert b x
   refine WA.oneS 18 16351 14 5 rfl rfl (fun w' h => ⟨L6 h.1 _, Th h.2.1 _, L6 h.2.2 _⟩) hS ?_
   clear hS
   intro b x w' hz bx hS K hK
   replace hv := Ba (hv.out.b bx)
   replace ho := Ba (Dx ho.out bx)
   replace kq' := kq'.b bx
   replace kt' := kt'.b bx
   replace kz' := kz'.b bx
   replace kr' := kr'.b bx
   replace nQ' := nQ'.b bx
   replace nT' := nT'.b bx
   replace n2 := n2.b bx
   replace bL := Ia bL bx
   clear bx hS
   simp only [Jq]
   go_simp
   go_fit (H3.out _)
   rintro e wn ⟨a3, l3, c3, rfl, n3, bn⟩
   replace hz := fun h => (hz h).b bn
   replace hv := Ba (hv.out.b bn)
   replace ho := Ba (Dx ho.out bn)
   replace kq' := kq'.b bn
   replace kt' := kt'.b bn
   replace kz' := kz'.b bn
   replace kr' := kr'.b bn
   replace nQ' := nQ'.b bn
   replace nT' := nT'.b bn
   replace n2 := n2.b bn
   replace bL := Ia bL bn
   clear bn
   try go_wp2_with fail
   refine hK.out _ _ ⟨Ch kq', B7 kt', Ch kz'⟩ (fun hS => ?_)
   clear hK K
   revert b x
   refine WA.finS 5 rfl (fun w' h => ⟨L6 h.1 _, Th h.2.1 _, L6 h.2.2 _⟩) hS ?_
   clear hS
   intro x w' hz bx hS
   obtain ⟨gy, rfl, ky⟩ := hz
   replace hv := Ba (hv.out.b bx)
   replace ho := Ba (Dx ho.out bx)
   replace kq' := kq'.b bx
   replace kt' := kt'.b bx
   replace kz' := kz'.b bx
   replace kr' := kr'.b bx
   replace nQ' := nQ'.b bx
   replace nT' := nT'.b bx
   replace n2 := n2.b bx
   replace n3 := n3.b bx
   replace bL := Ia bL bx
   clear bx
   refine WA.tp 15 rfl ?_
   obtain ⟨e0, e1, e2, e3, e4, e5⟩ := Cw kr'
   have f0 := Be.o kr' 0
   have f1 := Be.o kr' 1
   have f2 := Be.o kr' 2
   have f3 := Be.o kr' 3
   have f4 := Be.o kr' 4
   have f5 := Be.o kr' 5
   clear hS
   refine WA.cal 16 rfl (fun K hK => ?_)
   simp only [Jq]
   go_simp
   try go_wp2_with fail
   clear e0 e1 e2 e3 e4 e5 f0 f1 f2 f3 f4 f5
   have hgy : gy ≠ w.heap.size + 1 + 1 + 1 + 1 := fun e => by
    subst e
    have h := (show w'.heap[w.heap.size + 1 + 1 + 1 + 1]? = _ from kr').symm.trans (show w'.heap[w.heap.size + 1 + 1 + 1 + 1]? = _ from ky)
    injection h with h
    injection h with h1 h2
    exact absurd h2 (by decide)
   have g3 : w3.heap.size ≠ w.heap.size + 1 + 1 + 1 + 1 := by have := t3.out; omega
   have g5 : w5.heap.size ≠ w.heap.size + 1 + 1 + 1 + 1 := by have := t5.out; omega
   have g10 : w10.heap.size ≠ w.heap.size + 1 + 1 + 1 + 1 := by have := t10.out; omega
   have ggv : gv ≠ w.heap.size + 1 + 1 + 1 + 1 := by have := t11.out; omega
   have hnk : ∀ u ∈ [.slice none 0 0, .slice none 0 0, Iz false, .slice none 0 0, Iz false, .slice none 0 0], O2 u := by simp [O2]
   have hall := fun (n : Bool) (v : Value) (z : Int) (L : Nat) (h : NV w' n v z L) => h.set6w kr' hnk (x5 := .slice a3 l3 c3) (Sr (some ⟨gv, 0, none⟩) 6 cv) (Sr (some ⟨gy, 0, none⟩) 3 3) (Ws false) (Sr a2 l2 c2) (Ws false)
   have R6 := Ba (Sb (Qe ho.out) ggv (.slice (some ⟨gv, 0, none⟩) 6 cv) (.slice (some ⟨gy, 0, none⟩) 3 3) (Iz false) (.slice a2 l2 c2) (Iz false) (.slice a3 l3 c3))
   have R3 := Ba (Sb (w := w') (b := gy) (off := 0) (n := 3) (X8 ky) hgy (.slice (some ⟨gv, 0, none⟩) 6 cv) (.slice (some ⟨gy, 0, none⟩) 3 3) (Iz false) (.slice a2 l2 c2) (Iz false) (.slice a3 l3 c3))
   have V6 := Ba (show Km (Rv w' (w.heap.size + 1 + 1 + 1 + 1) (.slice (some ⟨gv, 0, none⟩) 6 cv) (.slice (some ⟨gy, 0, none⟩) 3 3) (Iz false) (.slice a2 l2 c2) (Iz false) (.slice a3 l3 c3)) N u (Ff Zc Zs (U + U)) 700 6 from fun q hq => ⟨hall _ _ _ _ (hv.out q hq).1, (hv.out q hq).2⟩)
   have V3 := Ba (show Km (Rv w' (w.heap.size + 1 + 1 + 1 + 1) (.slice (some ⟨gv, 0, none⟩) 6 cv) (.slice (some ⟨gy, 0, none⟩) 3 3) (Iz false) (.slice a2 l2 c2) (Iz false) (.slice a3 l3 c3)) (Pw false ft ft) (fun j => .slice (Pw uca ta ta j) (Pw ucl tl tl j) (Pw ucc tc tc j)) (Pw Qu (U + U) (U + U)) (Lu + 1) 3 from fun q hq => by
    match q, hq with
    | 0, _ => exact ⟨hall _ _ _ _ (nQ'.mono (by omega)), _, _, _, rfl⟩
    | 1, _ => exact ⟨hall _ _ _ _ nT', _, _, _, rfl⟩
    | 2, _ => exact ⟨hall _ _ _ _ nT', _, _, _, rfl⟩)
   have N2 := Ba (hall _ _ _ _ n2)
   have N3 := Ba (hall _ _ _ _ n3)
   have BB := Ba (Mu bL (show w.heap.size ≤ w.heap.size + 1 + 1 + 1 + 1 by omega) (.slice (some ⟨gv, 0, none⟩) 6 cv) (.slice (some ⟨gy, 0, none⟩) 3 3) (Iz false) (.slice a2 l2 c2) (Iz false) (.slice a3 l3 c3))
   have K6 := kr'.set6 (.slice (some ⟨gv, 0, none⟩) 6 cv) (.slice (some ⟨gy, 0, none⟩) 3 3) (Iz false) (.slice a2 l2 c2) (Iz false) (.slice a3 l3 c3)
   refine hK.out _ _ ⟨Ch (kq'.oths g5 (.slice (some ⟨gv, 0, none⟩) 6 cv) (.slice (some ⟨gy, 0, none⟩) 3 3) (Iz false) (.slice a2 l2 c2) (Iz false) (.slice a3 l3 c3)), B7 (kt'.oths g10 (.slice (some ⟨gv, 0, none⟩) 6 cv) (.slice (some ⟨gy, 0, none⟩) 3 3) (Iz false) (.slice a2 l2 c2) (Iz false) (.slice a3 l3 c3)), Ch (kz'.oths g3 (.slice (some ⟨gv, 0, none⟩) 6 cv) (.slice (some ⟨gy, 0, none⟩) 3 3) (Iz false) (.slice a2 l2 c2) (Iz false) (.slice a3 l3 c3))⟩ (fun hS => ?_)
   clear hK K hall
   refine WA.tp 17 rfl ?_
   refine WA.done (by kernel_rfl) ?_
   clear hS kq' kt' kz' kr' nQ' nT' n2 n3 ho hv bL ky
   go_wp2
   exact Qh (p := 8) (u := 9) (v := .int .i64 0) (by kernel_rfl) rfl rfl rfl K6 ⟨gv, gy, N, _, u, _, cv, a2, a3, l2, c2, l3, c3, rfl, R6.out, V6.out, R3.out, V3.out, N2.out, N3.out, BB.out⟩
end Go.Proofs.YtnplifkgeeicjaaGreatDoor
