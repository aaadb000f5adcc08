import Derived.Test.YtnplifkgeeicjaaGreatDoorQ01
import Derived.Test.YtnplifkgeeicjaaGreatDoorQ33
import Derived.Test.YtnplifkgeeicjaaGreatDoorQ34
set_option maxRecDepth 100000
set_option maxHeartbeats 8000000
namespace Go.Proofs.YtnplifkgeeicjaaGreatDoor
open Go.RowKit Go.Shelf
theorem Bz.put {g0 g1 ga gb : Nat} {w wr w' : World} (h : Bz g0 g1 w wr) (k : Bz ga gb wr w') (fa : ga = g0 ∨ ga = g1 ∨ w.heap.size ≤ ga) (fb : gb = g0 ∨ gb = g1 ∨ w.heap.size ≤ gb) : Bz g0 g1 w w' :=
 ⟨k.os.trans h.os, k.tape.trans h.tape, k.output.trans h.output, Jf h.size k.size, fun i hi h0 h1 => (k.block i (Jl hi h.size) (by omega) (by omega)).trans (h.block i hi h0 h1)⟩
theorem B6.u64 {w : World} {g : Nat} {ys : List Nat} (h : B6 w g ys) {j : Nat} {v : Value} (hc : w.cell? ⟨g, j, none⟩ = some v) : ∃ n : Int, v = .int .u64 n := by
 by_cases hj : j < ys.length
 ·rw [h.cell hj] at hc
  exact ⟨_, (Option.some.inj hc).symm⟩
 ·unfold B6 at h
  have hn : ys[j]? = none := List.getElem?_eq_none (by omega)
  simp [World.cell?, h, Dd, hn] at hc
theorem Fi.grew2 {ga gb : Nat} {w w' : World} {ya yb : List Nat} (h : Fi w) (ka : B6 w ga ya) (kb : B6 w gb yb) (k : Bz ga gb w w') : Fi w' := fun j hj => by
 have hc := h j hj
 have hlt := World.block_lt_of_cell? w _ hc
 have na : Fg.g 1 ≠ ga := fun e => by
  rw [e] at hc
  obtain ⟨n, hn⟩ := ka.u64 hc
  cases hn
 have nb : Fg.g 1 ≠ gb := fun e => by
  rw [e] at hc
  obtain ⟨n, hn⟩ := kb.u64 hc
  cases hn
 rw [World.cell?_of_block (w := w) (k.block _ hlt na nb)]
 exact hc
theorem Bz.of_only {g0 g1 g : Nat} {w wr w' : World} (h : Bz g0 g1 w wr) (k : Ca g wr w') (f : g = g0 ∨ g = g1 ∨ w.heap.size ≤ g) : Bz g0 g1 w w' :=
 h.put (Bz.left (g' := g) k) f f
theorem Bz.of_below {g0 g1 : Nat} {w wr w' : World} (h : Bz g0 g1 w wr) (k : Below wr.heap.size wr w') : Bz g0 g1 w w' := h.trans (Bz.of k)
structure Gj (g0 g1 G : Nat) (w wr : World) (ga gb A B : Nat) (qa qb : List Nat) : Prop where
 ka : B6 wr ga (M.digs Bb A ++ qa)
 kb : B6 wr gb (M.digs Bb B ++ qb)
 ne : ga ≠ gb
 fa : ga = g0 ∨ ga = g1 ∨ w.heap.size ≤ ga
 fb : gb = g0 ∨ gb = g1 ∨ w.heap.size ≤ gb
 cap : (M.digs Bb A).length ≤ (M.digs Bb B ++ qb).length
 le : B ≤ A
 gcd : Nat.gcd A B = G
 size : (M.digs Bb A).length ≤ 4000
 tab : Fi wr
 gr : Bz g0 g1 w wr
def Hq (g A : Nat) (q : List Nat) : Value := .slice (some ⟨g, 0, none⟩) (M.digs Bb A).length (M.digs Bb A ++ q).length
theorem Gj.rdA {g0 g1 G : Nat} {w wr : World} {ga gb A B : Nat} {qa qb : List Nat} (h : Gj g0 g1 G w wr ga gb A B qa qb) : Rd wr (Hq ga A qa) (M.digs Bb A) := Bk.rd (t := 170) h.ka _ (by simp)
theorem Gj.rdB {g0 g1 G : Nat} {w wr : World} {ga gb A B : Nat} {qa qb : List Nat} (h : Gj g0 g1 G w wr ga gb A B qa qb) : Rd wr (Hq gb B qb) (M.digs Bb B) := Bk.rd (t := 170) h.kb _ (by simp)
theorem Gj.b {g0 g1 G : Nat} {w wr w' : World} {ga gb A B : Nat} {qa qb : List Nat} (h : Gj g0 g1 G w wr ga gb A B qa qb) (k : Below wr.heap.size wr w') : Gj g0 g1 G w w' ga gb A B qa qb :=
 ⟨h.ka.b k, h.kb.b k, h.ne, h.fa, h.fb, h.cap, h.le, h.gcd, h.size, h.tab.b k, h.gr.of_below k⟩
theorem Cf {A B : Nat} (h : B ≤ A) : (M.digs Bb B).length ≤ (M.digs Bb A).length := Kg Bg h
def Bf8 (v : Value) (w : World) : Nat := match v with
 | .slice (some a) n _ => M.val Bb ((List.range n).map fun j => match w.cell? ⟨a.block, j, none⟩ with | some (.int _ z) => z.toNat | _ => 0)
 | _ => 0
theorem Kc {w : World} {g A : Nat} {q : List Nat} (h : B6 w g (M.digs Bb A ++ q)) : Bf8 (Hq g A q) w = A := by
 have e : ((List.range (M.digs Bb A).length).map fun j => match w.cell? ⟨g, j, none⟩ with | some (.int _ z) => z.toNat | _ => 0) = M.digs Bb A := by
  apply List.ext_getElem
  ·simp
  ·intro i h1 h2
   have hc := h.cell (j := i) (by rw [Ji]; omega)
   simp only [List.getElem_map, List.getElem_range, hc]
   simp [lm, List.getElem?_append_left h2, h2]
 show M.val Bb _ = A
 rw [e, M.val_digs Bg]
theorem Gj.divided {g0 g1 G : Nat} {w wr w' : World} {ga gb A B : Nat} {qa qb : List Nat} (h : Gj g0 g1 G w wr ga gb A B qa qb) (hB : 0 < B)
  (k : B6 w' ga (M.digs Bb (A % B) ++ (M.digs Bb A ++ qa).drop (M.digs Bb (A % B)).length)) (o : Ca ga wr w') :
  Gj g0 g1 G w w' gb ga B (A % B) qb ((M.digs Bb A ++ qa).drop (M.digs Bb (A % B)).length) := by
 have hlt : A % B < B := Nat.mod_lt _ hB
 refine ⟨?_, k, h.ne.symm, h.fb, h.fa, ?_, by omega, ?_, Jf (Cf h.le) h.size, h.tab.grew2 h.ka h.ka (Bz.left o), h.gr.of_only o h.fa⟩
 ·have := h.kb
  unfold B6 at this ⊢
  rw [o.block gb h.ne.symm]; exact this
 ·have l1 := Cf h.le
  have l2 := Cf (Nat.le_of_lt hlt)
  rw [Ji, List.length_drop, Ji]
  omega
 ·rw [Nat.gcd_comm, ← Nat.gcd_rec, Nat.gcd_comm]
  exact h.gcd
open Go.RowKit Go.Shelf
theorem val_zeros (b : Nat) : ∀ n, M.val b (List.replicate n 0) = 0
 | 0 => rfl
 | n + 1 => by rw [List.replicate_succ, M.val_cons, val_zeros b n]; simp
theorem Pj (n : Nat) : M.Low Bb (List.replicate n 0) := fun x hx => by rw [List.eq_of_mem_replicate hx]; exact Bl
theorem Bch (g0 g1 X Y m0 m1 : Nat) (w : World) (hm0 : (M.digs Bb X).length = m0) (hm1 : (M.digs Bb Y).length = m1) (k0 : B6 w g0 (M.digs Bb X)) (k1 : B6 w g1 (M.digs Bb Y)) (h0 : m0 ≤ 4000) (h1 : m1 ≤ 4000) (hT : Fi w) :
  Calls Tryz.prog 172 #[.slice (some ⟨g0, 0, none⟩) m0 m0, .slice (some ⟨g1, 0, none⟩) m1 m1] w fun e w' => ∃ v, e = .returned v ∧ Rd w' v (M.digs Bb (Nat.gcd X Y)) ∧ Bz g0 g1 w w' := by
 have HC : Hid (Calls Tryz.prog 198 #[.slice (some ⟨g0, 0, none⟩) m0 m0, .slice (some ⟨g1, 0, none⟩) m1 m1] w (Re w (.tuple #[.int .i64 (Dj X Y), .int .i64 0]))) := by
  have := Xa (.slice (some ⟨g0, 0, none⟩) m0 m0) (.slice (some ⟨g1, 0, none⟩) m1 m1) (M.digs Bb X) (M.digs Bb Y) w (by rw [← hm0]; exact k0.rd0 _ (Jb _)) (by rw [← hm1]; exact k1.rd0 _ (Jb _)) (M.Low.digs Bg X) (M.Low.digs Bg Y) (by omega) (by omega)
  rwa [M.val_digs Bg, M.val_digs Bg] at this
 by_cases hXY : X < Y
 ·have c1 : Dj X Y < 0 := by rw [Ha hXY]; omega
  generalize Dj X Y = cc at *
  have HM0 := Ba hm0
  have HM1 := Ba hm1
  have hle : m0 ≤ m1 := by rw [← hm0, ← hm1]; exact Cf (by omega)
  have RY : Hid (∀ w1, Below w.heap.size w w1 → ∀ w2, Below w1.heap.size w1 w2 → Rd w2 (.slice (some ⟨g0, 0, none⟩) m0 m0) (M.digs Bb X)) := by
   intro w1 b1 w2 b2
   rw [← hm0]
   exact ((k0.b b1).b b2).rd0 _ (Jb _)
  have FIT : Hid ((M.digs Bb X).length ≤ m1) := by show _ ≤ _; omega
  clear hm0 hm1
  go_enter Tryz.func172, Tryz.ntmps172
  go_wp2_with fail
  refine (HC.out).mono ?_
  rintro e w1 ⟨rfl, b1⟩
  go_wp2_with (first
   | (at_make; refine G5 rfl _ _ rfl _ _ 0 m1 rfl rfl (by omega) (by omega) (by omega) (by omega) ?_; intro w2 kn b2)
   | (at_builtin; refine Gd rfl _ _ rfl w1.heap.size m1 (List.replicate m1 0) (M.digs Bb X) rfl kn (by simp) (.slice (some ⟨g0, 0, none⟩) m0 m0) rfl (RY.out w1 b1 w2 b2) FIT.out ?_; intro w3 kn3 o3))
  have IN : Hid (Gj g0 g1 (Nat.gcd X Y) w w3 g1 w1.heap.size Y X [] (List.drop (M.digs Bb X).length (List.replicate m1 0))) := by
   have l0 := k1.lt
   have e1 := b1.size
   have hb3 : Below w1.heap.size w1 w3 := ⟨o3.os.trans b2.os, o3.tape.trans b2.tape, o3.output.trans b2.output, by rw [o3.size]; exact b2.size, fun i hi => (o3.block i (by omega)).trans (b2.block i hi)⟩
   have hbb := Ia b1 hb3
   refine ⟨by simpa using k1.b hbb, kn3, by omega, Or.inr (Or.inl rfl), Or.inr (Or.inr e1), ?_, by omega, Nat.gcd_comm _ _, by rw [HM1.out]; exact h1, hT.b hbb, Bz.of hbb⟩
   have := FIT.out
   rw [HM1.out, Ji, List.length_drop, List.length_replicate]
   omega
  have V0 : Hid (Value.slice (some ⟨g1, 0, none⟩) m1 m1 = Hq g1 Y []) := by
   show _ = _
   unfold Hq
   rw [List.append_nil, HM1.out]
  have V1 : Hid (Value.slice (some ⟨w1.heap.size, 0, none⟩) (M.digs Bb X).length m1 = Hq w1.heap.size X (List.drop (M.digs Bb X).length (List.replicate m1 0))) := by
   have := FIT.out
   have e : (M.digs Bb X ++ List.drop (M.digs Bb X).length (List.replicate m1 0)).length = m1 := by rw [Ji, List.length_drop, List.length_replicate]; omega
   show _ = _
   unfold Hq
   rw [e]
  generalize hG : Nat.gcd X Y = G at *
  have HG := Ba hG
  clear hG kn3 o3 kn b2 b1 k0 k1 hT HC RY FIT hle
  go_loopw [0, 1] (fun vx vy wr => ∃ ga gb A B qa qb, vx = Hq ga A qa ∧ vy = Hq gb B qb ∧ Gj g0 g1 G w wr ga gb A B qa qb) (fun _ vy wr => Bf8 vy wr)
  case atStart => exact ⟨_, _, _, _, _, _, V0.out, V1.out, IN.out⟩
  case round =>
   clear V0 V1 IN
   obtain ⟨ga, gb, A, B, qa, qb, rfl, rfl, RR⟩ := hrel
   have ME := Ba (Kc RR.kb)
   have R := Ba RR
   by_cases hn : 1 < (M.digs Bb B).length
   ·have LS : Hid (Calls Tryz.prog 204 #[Hq ga A qa, Hq gb B qb] wr fun e w' => ∃ a b c d : Nat, e = .returned (Rr a b c d) ∧ a < Bb ∧ b < Bb ∧ c < Bb ∧ d < Bb ∧
      (b = 0 ∨ ∃ X' Y', M.Eu a b c d A B X' Y' ∧ 0 < Y' ∧ Y' < X' ∧ 1 ≤ c ∧ 1 ≤ d) ∧ Below wr.heap.size wr w') := by
     have l1 := Cf RR.le
     have l2 := RR.size
     have := Ob (some ⟨ga, 0, none⟩) (some ⟨gb, 0, none⟩) (M.digs Bb A ++ qa).length (M.digs Bb B ++ qb).length ((M.digs Bb A).length - 1) (M.digs Bb A) (M.digs Bb B) wr RR.rdA RR.rdB (M.Low.digs Bg A) (M.Low.digs Bg B) (by omega) (by omega) (by omega) (by omega)
      (by have := M.trim_digs Bg A ((M.digs Bb A).length - 1) (by omega); unfold lm; omega) (by rw [M.val_digs Bg, M.val_digs Bg]; exact RR.le)
     rw [M.val_digs Bg, M.val_digs Bg] at this
     exact this
    have hn1 : (1 : Int) < ((M.digs Bb B).length : Nat) := by omega
    have HN := Ba hn
    unfold Hq at *
    generalize hna : (M.digs Bb A).length = na at *
    generalize hnb : (M.digs Bb B).length = nb at *
    generalize hca : (M.digs Bb A ++ qa).length = ca at *
    generalize hcb : (M.digs Bb B ++ qb).length = cb at *
    have NA := Ba hna
    have NB := Ba hnb
    have CA := Ba hca
    have CB := Ba hcb
    clear hna hnb hca hcb RR hn
    go_wp2_with fail
    refine (LS.out).mono ?_
    rintro e w4 ⟨a, b, c, d, rfl, ha, hb, hc, hd, hs, b4⟩
    unfold Rr
    have NO := Ba (fun w => Sp a b c d w)
    unfold Rr at NO
    obtain ⟨w5, hw5⟩ : ∃ w5, w5 = w4.alloc (.cells #[.int .u64 (a : Nat), .int .u64 (b : Nat), .int .u64 (c : Nat), .int .u64 (d : Nat)] 276) := ⟨_, rfl⟩
    have kS : Be w5 w4.heap.size [.int .u64 (a : Nat), .int .u64 (b : Nat), .int .u64 (c : Nat), .int .u64 (d : Nat)] 276 := by rw [hw5]; exact Be.new _ _ _
    have b5 : Below w4.heap.size w4 w5 := by rw [hw5]; go_grown
    have lga := (R.out.b b4).ka.lt
    have lgb := (R.out.b b4).kb.lt
    replace R := Ba ((R.out.b b4).b b5)
    go_wp2_with fail
    rw [← hw5]
    clear hw5
    refine (NO.out _).mono ?_
    rintro e w6 ⟨rfl, b6⟩
    replace kS := kS.b b6
    replace R := Ba (R.out.b b6)
    have s0 := Mt kS
    have s1 := Ms kS
    have s2 := Mr kS
    have s3 := Mq kS
    have HA := Ba ha
    have HB := Ba hb
    have HC := Ba hc
    have HD := Ba hd
    have HS := Ba hs
    clear NO LS b4 b5 b6 ha hb hc hd hs
    have hB0 : 0 < B := by
     rcases Nat.eq_zero_or_pos B with e | e
     ·have h2 := HN.out
      have h3 := NB.out
      rw [e, M.digs_zero] at h3
      simp at h3
      omega
     ·exact e
    by_cases hb0 : b = 0
    ·have DM : Hid (Calls Tryz.prog 173 #[.slice (some ⟨ga, 0, none⟩) na ca, .slice (some ⟨gb, 0, none⟩) nb cb] w6 fun e w' => ∃ q r, e = .returned (.tuple #[q, r, .int .i64 0]) ∧ Rd w' r (M.digs Bb (A % B)) ∧ Below w6.heap.size w6 w') := by
      have rA := R.out.rdA
      have rB := R.out.rdB
      unfold Hq at rA rB
      rw [NA.out, CA.out] at rA
      rw [NB.out, CB.out] at rB
      have l1 := Cf R.out.le
      refine (Gb _ _ _ _ w6 rA rB (M.Low.digs Bg A) (M.Low.digs Bg B) R.out.size (Jf l1 R.out.size)).mono ?_
      rintro e w' ⟨-, h, hb⟩
      rw [M.val_digs Bg, M.val_digs Bg] at h
      obtain ⟨q, r, h1, -, h3⟩ := h hB0
      exact ⟨q, r, h1, h3, hb⟩
     rw [decide_eq_true hb0]
     go_wp2_with fail
     refine (DM.out).mono ?_
     rintro e w7 ⟨q, r, rfl, rr, b7⟩
     replace R := Ba (R.out.b b7)
     have KA := Ba R.out.ka
     have l3 : (M.digs Bb (A % B)).length ≤ ca := by
      have l1 := Cf (Jf (Nat.le_of_lt (Nat.mod_lt A hB0)) R.out.le)
      have := CA.out
      rw [Ji] at this
      omega
     have L3 := Ba l3
     have RR := Ba rr
     obtain ⟨ar, cr, rfl, -, -⟩ := id rr
     clear rr l3 b7 DM
     go_wp2_with (first
      | (at_builtin; refine Gd rfl _ _ rfl ga ca (M.digs Bb A ++ qa) (M.digs Bb (A % B)) rfl KA.out CA.out _ rfl RR.out L3.out ?_; intro w8 k8 o8))
     have e8 : (M.digs Bb (A % B) ++ (M.digs Bb A ++ qa).drop (M.digs Bb (A % B)).length).length = ca := by
      have := L3.out
      have := CA.out
      rw [Ji, List.length_drop]
      omega
     refine ⟨⟨gb, ga, B, A % B, qb, (M.digs Bb A ++ qa).drop (M.digs Bb (A % B)).length, by rw [NB.out, CB.out], by rw [e8], R.out.divided hB0 k8 o8⟩, ?_⟩
     have m8 := Kc k8
     unfold Hq at m8
     rw [e8] at m8
     rw [m8, ME.out]
     exact Nat.mod_lt A hB0
    ·rw [decide_eq_false hb0]
     have LO : Hid (Calls Tryz.prog 206 #[.slice (some ⟨gb, 0, none⟩) nb cb, .int .i64 (na : Nat)] w6 fun e w' => e = .returned (.slice (some ⟨gb, 0, none⟩) na cb) ∧ B6 w' gb (M.digs Bb B ++ List.replicate (na - nb) 0 ++ qb.drop (na - nb)) ∧ Ca gb w6 w') := by
      have l1 := Cf R.out.le
      have l2 := R.out.cap
      have l4 := R.out.size
      have e1 := NA.out
      have e2 := NB.out
      have := Oc gb (M.digs Bb B) qb na cb w6 R.out.kb (by omega) (by omega) CB.out.symm (by omega)
      rw [NB.out] at this
      exact this
     go_wp2_with fail
     refine (LO.out).mono ?_
     rintro e w7 ⟨rfl, k7, o7⟩
     have kS7 : Be w7 w4.heap.size [.int .u64 (a : Nat), .int .u64 (b : Nat), .int .u64 (c : Nat), .int .u64 (d : Nat)] 276 := by
      unfold Be at kS ⊢
      rw [o7.block _ (by omega)]; exact kS
     have ka7 : B6 w7 ga (M.digs Bb A ++ qa) := o7.blk R.out.ka R.out.ne
     have t0 := Mt kS7
     have t1 := Ms kS7
     have t2 := Mr kS7
     have t3 := Mq kS7
     obtain ⟨X', Y', eu, y0, yx, c1', d1'⟩ : ∃ X' Y', M.Eu a b c d A B X' Y' ∧ 0 < Y' ∧ Y' < X' ∧ 1 ≤ c ∧ 1 ≤ d := by
      rcases HS.out with h | h
      ·exact absurd h hb0
      ·exact h
     have hXA : X' ≤ A := by
      have := eu.x
      have := Jo X' d1'
      omega
     have hYB : Y' < B := by
      have := eu.y
      have := Jo X' c1'
      omega
     have ln : (M.digs Bb B ++ List.replicate (na - nb) 0).length = na := by
      have l1 := Cf R.out.le
      rw [NA.out, NB.out] at l1
      rw [Ji, List.length_replicate, NB.out]
      omega
     have vB : M.val Bb (M.digs Bb B ++ List.replicate (na - nb) 0) = B := by
      rw [M.val_append, M.val_digs Bg, val_zeros, Nat.mul_zero, Nat.add_zero]
     have hA : A < Bb ^ na := by
      have := M.val_lt Bl (M.Low.digs Bg A)
      rwa [M.val_digs Bg, NA.out] at this
     have TK : Hid (Calls Tryz.prog 207 #[.agg #[.int .u64 (a : Nat), .int .u64 (b : Nat), .int .u64 (c : Nat), .int .u64 (d : Nat)], .slice (some ⟨ga, 0, none⟩) na ca, .slice (some ⟨gb, 0, none⟩) na cb] w7 fun e w' =>
       ∃ xs' ys' : List Nat, e = .returned (.tuple #[]) ∧ B6 w' ga (xs' ++ qa) ∧ B6 w' gb (ys' ++ qb.drop (na - nb)) ∧ xs'.length = na ∧ ys'.length = na ∧ M.Low Bb xs' ∧ M.Low Bb ys' ∧ M.val Bb xs' = X' ∧ M.val Bb ys' = Y' ∧ Bz ga gb w7 w') := by
      have hca : (M.digs Bb A).length ≤ cb := by
       have := R.out.cap
       rw [CB.out] at this
       exact this
      have := L7 a b c d ga gb 170 (M.digs Bb A) (M.digs Bb B ++ List.replicate (na - nb) 0) qa (qb.drop (na - nb)) ca na cb w7 ka7 k7 R.out.ne (by rw [ln, NA.out]) HA.out HB.out HC.out HD.out (M.Low.digs Bg A)
       ((M.Low.digs Bg B).append (Pj _)) hca (by rw [NA.out]; have := R.out.size; rw [NA.out] at this; omega) X' Y'
       (by rw [M.val_digs Bg, vB]; rcases eu.take with ⟨h, -⟩ | ⟨h, -⟩; exact Or.inl h; exact Or.inr h) (by rw [M.val_digs Bg, vB]; rcases eu.take with ⟨-, h⟩ | ⟨-, h⟩; exact Or.inr h; exact Or.inl h)
       (by rw [NA.out]; omega) (by rw [NA.out]; omega)
      rw [NA.out] at this
      exact this
     have EU := Ba eu
     have HXA := Ba hXA
     have HYB := Ba hYB
     have YX := Ba yx
     clear s0 s1 s2 s3 eu hXA hYB yx c1' d1' ln vB hA LO
     go_wp2_with fail
     refine (TK.out).mono ?_
     rintro e w8 ⟨xs', ys', rfl, k8, k9, n8, n9, lx8, ly8, v8, v9, g8⟩
     have hna4 : na ≤ 4000 := by have := R.out.size; rw [NA.out] at this; exact this
     have lca : na ≤ ca := by have h1 := NA.out; have h2 := CA.out; rw [Ji] at h2; omega
     have lcb : na ≤ cb := by have h1 := R.out.cap; rw [NA.out, CB.out] at h1; exact h1
     have SX := Ba (Gg w8 (some ⟨ga, 0, none⟩) ca xs' (Bk.rd (t := 170) k8 ca (by omega)) lx8 (by omega))
     have SY := Ba (Gg w8 (some ⟨gb, 0, none⟩) cb ys' (Bk.rd (t := 170) k9 cb (by omega)) ly8 (by omega))
     rw [n8, v8] at SX
     rw [n9, v9] at SY
     have N8 := Ba n8
     have N9 := Ba n9
     clear n8 n9 v8 v9
     go_wp2_with fail
     refine (SX.out).mono ?_
     rintro e w9 ⟨i1, rfl, li1, t8, rfl⟩
     go_wp2_with fail
     refine (SY.out).mono ?_
     rintro e w10 ⟨i2, rfl, li2, t9, rfl⟩
     have T8 := Ba t8
     have T9 := Ba t9
     clear t8 t9
     go_wp2
     have d8 : M.digs Bb X' ++ (xs'.drop i1 ++ qa) = xs' ++ qa := by rw [← T8.out, ← List.append_assoc, List.take_append_drop]
     have d9 : M.digs Bb Y' ++ (ys'.drop i2 ++ qb.drop (na - nb)) = ys' ++ qb.drop (na - nb) := by rw [← T9.out, ← List.append_assoc, List.take_append_drop]
     have n1 : (M.digs Bb X').length = i1 := by rw [← T8.out, List.length_take, N8.out]; omega
     have n2 : (M.digs Bb Y').length = i2 := by rw [← T9.out, List.length_take, N9.out]; omega
     have c8 : (xs' ++ qa).length = ca := by
      have h1 := NA.out
      have h2 := CA.out
      rw [Ji] at h2 ⊢
      rw [N8.out]
      omega
     have c9 : (ys' ++ qb.drop (na - nb)).length = cb := by
      have h1 := NB.out
      have h2 := CB.out
      have l1 := Cf R.out.le
      rw [NA.out, NB.out] at l1
      rw [Ji] at h2 ⊢
      rw [N9.out, List.length_drop]
      omega
     have g7 : Bz ga gb w6 w7 := Bz.right o7
     refine ⟨⟨ga, gb, X', Y', xs'.drop i1 ++ qa, ys'.drop i2 ++ qb.drop (na - nb), by rw [n1, d8, c8], by rw [n2, d9, c9], ?_⟩, ?_⟩
     ·refine ⟨by rw [d8]; exact k8, by rw [d9]; exact k9, R.out.ne, R.out.fa, R.out.fb, by rw [n1, d9, c9]; omega, Nat.le_of_lt YX.out, by rw [EU.out.gcd]; exact R.out.gcd, by omega, ?_, ?_⟩
      ·exact (R.out.tab.grew2 R.out.ka R.out.kb g7).grew2 ka7 k7 g8
      ·exact (R.out.gr.put g7 R.out.fa R.out.fb).put g8 R.out.fa R.out.fb
     ·have m9 := Kc (g := gb) (A := Y') (q := ys'.drop i2 ++ qb.drop (na - nb)) (by rw [d9]; exact k9)
      unfold Hq at m9
      rw [n2, d9, c9] at m9
      rw [m9, ME.out]
      exact HYB.out
   ·have hn1 : ¬ (1 : Int) < ((M.digs Bb B).length : Nat) := by omega
    rcases Nat.eq_zero_or_pos B with hB0 | hB0
    ·have z : M.digs Bb B = [] := by rw [hB0, M.digs_zero]
     have rA := RR.rdA
     have gg := RR.gcd
     rw [hB0, Nat.gcd_zero_right] at gg
     have GR := Ba RR.gr
     have RA := Ba rA
     have GG := Ba gg
     clear gg rA R ME RR hn hn1
     unfold Hq at *
     rw [z]
     go_wp2_with fail
     go_ret
     exact ⟨_, rfl, by rw [HG.out, ← GG.out]; exact RA.out, GR.out⟩
    ·have lB : B < Bb := by
      have h1 := M.val_lt Bl (M.Low.digs Bg B)
      rw [M.val_digs Bg] at h1
      have h2 : Bb ^ (M.digs Bb B).length ≤ Bb ^ 1 := Nat.pow_le_pow_right Bl (by omega)
      rw [Nat.pow_one] at h2
      omega
     have z : M.digs Bb B = [B] := Ln (by omega) lB
     have hGd : M.digs Bb (Nat.gcd B (A % B)) = [Nat.gcd B (A % B)] := Ln (by have := Nat.gcd_pos_of_pos_left (A % B) hB0; omega) (Nat.lt_of_le_of_lt (Nat.le_of_dvd hB0 (Nat.gcd_dvd_left _ _)) lB)
     have gg : Nat.gcd B (A % B) = G := by rw [Nat.gcd_comm, ← Nat.gcd_rec, Nat.gcd_comm]; exact RR.gcd
     have DM : Hid (Calls Tryz.prog 173 #[Hq ga A qa, Hq gb B qb] wr fun e w' => ∃ q r, e = .returned (.tuple #[q, r, .int .i64 0]) ∧ Rd w' q (M.digs Bb (A / B)) ∧ Rd w' r (M.digs Bb (A % B)) ∧ Below wr.heap.size wr w') := by
      have l1 := Cf RR.le
      refine (Gb _ _ _ _ wr RR.rdA RR.rdB (M.Low.digs Bg A) (M.Low.digs Bg B) RR.size (Jf l1 RR.size)).mono ?_
      rintro e w' ⟨-, h, hb⟩
      rw [M.val_digs Bg, M.val_digs Bg] at h
      obtain ⟨q, r, h1, h2, h3⟩ := h hB0
      exact ⟨q, r, h1, h2, h3, hb⟩
     have LD := Ba (fun v w => Pk B (A % B) v w hB0 lB (Nat.mod_lt _ hB0))
     have kb := RR.kb
     rw [z] at kb
     have R2 := Ba RR
     unfold Hq at *
     rw [z] at DM ⊢
     generalize hna : (M.digs Bb A).length = na at *
     generalize hca : (M.digs Bb A ++ qa).length = ca at *
     generalize hcb : ([B] ++ qb).length = cb at *
     have hcb0 : 1 ≤ cb := by rw [← hcb]; simp
     have GG := Ba gg
     have HGD := Ba hGd
     have ic : ((0 : Nat) : Int) < cb := by omega
     clear hna hca hcb R ME RR hn hn1 gg hGd z
     simp only [List.length_cons, List.length_nil, Nat.zero_add] at *
     go_wp2_with fail
     refine (DM.out).mono ?_
     rintro e w7 ⟨q, r, rfl, rq, rr, b7⟩
     have y0 := (kb.b b7).cell (j := 0) (by simp)
     rw [show lm ([B] ++ qb) 0 = B from rfl] at y0
     have LD2 := Ba (LD.out r w7 rr (R2.out.b b7).tab)
     have RR2 := Ba (R2.out.b b7)
     obtain ⟨aq, cq, rfl, -, -⟩ := id rq
     obtain ⟨ar, cr, rfl, -, -⟩ := id rr
     clear rr rq b7 LD R2 kb DM
     go_wp2_with fail
     refine (LD2.out).mono ?_
     rintro e w8 ⟨rfl, rfl⟩
     clear LD2 y0
     go_wp2
     go_ret
     refine ⟨_, rfl, ?_, RR2.out.gr.of_below ((Jg _ _).alloc (Jb _) _)⟩
     rw [HG.out, ← GG.out, HGD.out]
     exact rd1 _ rfl _
 ·have c1 : ¬ Dj X Y < 0 := by
   rcases Nat.lt_or_ge Y X with h | h
   ·rw [Kh h]; omega
   ·rw [Lo (by omega)]; omega
  generalize Dj X Y = cc at *
  have HM0 := Ba hm0
  have HM1 := Ba hm1
  have hle : m1 ≤ m0 := by rw [← hm0, ← hm1]; exact Cf (by omega)
  have RY : Hid (∀ w1, Below w.heap.size w w1 → ∀ w2, Below w1.heap.size w1 w2 → Rd w2 (.slice (some ⟨g1, 0, none⟩) m1 m1) (M.digs Bb Y)) := by
   intro w1 b1 w2 b2
   rw [← hm1]
   exact ((k1.b b1).b b2).rd0 _ (Jb _)
  have FIT : Hid ((M.digs Bb Y).length ≤ m0) := by show _ ≤ _; omega
  clear hm0 hm1
  go_enter Tryz.func172, Tryz.ntmps172
  go_wp2_with fail
  refine (HC.out).mono ?_
  rintro e w1 ⟨rfl, b1⟩
  go_wp2_with (first
   | (at_make; refine G5 rfl _ _ rfl _ _ 0 m0 rfl rfl (by omega) (by omega) (by omega) (by omega) ?_; intro w2 kn b2)
   | (at_builtin; refine Gd rfl _ _ rfl w1.heap.size m0 (List.replicate m0 0) (M.digs Bb Y) rfl kn (by simp) (.slice (some ⟨g1, 0, none⟩) m1 m1) rfl (RY.out w1 b1 w2 b2) FIT.out ?_; intro w3 kn3 o3))
  have IN : Hid (Gj g0 g1 (Nat.gcd X Y) w w3 g0 w1.heap.size X Y [] (List.drop (M.digs Bb Y).length (List.replicate m0 0))) := by
   have l0 := k0.lt
   have e1 := b1.size
   have hb3 : Below w1.heap.size w1 w3 := ⟨o3.os.trans b2.os, o3.tape.trans b2.tape, o3.output.trans b2.output, by rw [o3.size]; exact b2.size, fun i hi => (o3.block i (by omega)).trans (b2.block i hi)⟩
   have hbb := Ia b1 hb3
   refine ⟨by simpa using k0.b hbb, kn3, by omega, Or.inl rfl, Or.inr (Or.inr e1), ?_, by omega, rfl, by rw [HM0.out]; exact h0, hT.b hbb, Bz.of hbb⟩
   have := FIT.out
   rw [HM0.out, Ji, List.length_drop, List.length_replicate]
   omega
  have V0 : Hid (Value.slice (some ⟨g0, 0, none⟩) m0 m0 = Hq g0 X []) := by
   show _ = _
   unfold Hq
   rw [List.append_nil, HM0.out]
  have V1 : Hid (Value.slice (some ⟨w1.heap.size, 0, none⟩) (M.digs Bb Y).length m0 = Hq w1.heap.size Y (List.drop (M.digs Bb Y).length (List.replicate m0 0))) := by
   have := FIT.out
   have e : (M.digs Bb Y ++ List.drop (M.digs Bb Y).length (List.replicate m0 0)).length = m0 := by rw [Ji, List.length_drop, List.length_replicate]; omega
   show _ = _
   unfold Hq
   rw [e]
  generalize hG : Nat.gcd X Y = G at *
  have HG := Ba hG
  clear hG kn3 o3 kn b2 b1 k0 k1 hT HC RY FIT hle
  go_loopw [0, 1] (fun vx vy wr => ∃ ga gb A B qa qb, vx = Hq ga A qa ∧ vy = Hq gb B qb ∧ Gj g0 g1 G w wr ga gb A B qa qb) (fun _ vy wr => Bf8 vy wr)
  case atStart => exact ⟨_, _, _, _, _, _, V0.out, V1.out, IN.out⟩
  case round =>
   clear V0 V1 IN
   obtain ⟨ga, gb, A, B, qa, qb, rfl, rfl, RR⟩ := hrel
   have ME := Ba (Kc RR.kb)
   have R := Ba RR
   by_cases hn : 1 < (M.digs Bb B).length
   ·have LS : Hid (Calls Tryz.prog 204 #[Hq ga A qa, Hq gb B qb] wr fun e w' => ∃ a b c d : Nat, e = .returned (Rr a b c d) ∧ a < Bb ∧ b < Bb ∧ c < Bb ∧ d < Bb ∧
      (b = 0 ∨ ∃ X' Y', M.Eu a b c d A B X' Y' ∧ 0 < Y' ∧ Y' < X' ∧ 1 ≤ c ∧ 1 ≤ d) ∧ Below wr.heap.size wr w') := by
     have l1 := Cf RR.le
     have l2 := RR.size
     have := Ob (some ⟨ga, 0, none⟩) (some ⟨gb, 0, none⟩) (M.digs Bb A ++ qa).length (M.digs Bb B ++ qb).length ((M.digs Bb A).length - 1) (M.digs Bb A) (M.digs Bb B) wr RR.rdA RR.rdB (M.Low.digs Bg A) (M.Low.digs Bg B) (by omega) (by omega) (by omega) (by omega)
      (by have := M.trim_digs Bg A ((M.digs Bb A).length - 1) (by omega); unfold lm; omega) (by rw [M.val_digs Bg, M.val_digs Bg]; exact RR.le)
     rw [M.val_digs Bg, M.val_digs Bg] at this
     exact this
    have hn1 : (1 : Int) < ((M.digs Bb B).length : Nat) := by omega
    have HN := Ba hn
    unfold Hq at *
    generalize hna : (M.digs Bb A).length = na at *
    generalize hnb : (M.digs Bb B).length = nb at *
    generalize hca : (M.digs Bb A ++ qa).length = ca at *
    generalize hcb : (M.digs Bb B ++ qb).length = cb at *
    have NA := Ba hna
    have NB := Ba hnb
    have CA := Ba hca
    have CB := Ba hcb
    clear hna hnb hca hcb RR hn
    go_wp2_with fail
    refine (LS.out).mono ?_
    rintro e w4 ⟨a, b, c, d, rfl, ha, hb, hc, hd, hs, b4⟩
    unfold Rr
    have NO := Ba (fun w => Sp a b c d w)
    unfold Rr at NO
    obtain ⟨w5, hw5⟩ : ∃ w5, w5 = w4.alloc (.cells #[.int .u64 (a : Nat), .int .u64 (b : Nat), .int .u64 (c : Nat), .int .u64 (d : Nat)] 276) := ⟨_, rfl⟩
    have kS : Be w5 w4.heap.size [.int .u64 (a : Nat), .int .u64 (b : Nat), .int .u64 (c : Nat), .int .u64 (d : Nat)] 276 := by rw [hw5]; exact Be.new _ _ _
    have b5 : Below w4.heap.size w4 w5 := by rw [hw5]; go_grown
    have lga := (R.out.b b4).ka.lt
    have lgb := (R.out.b b4).kb.lt
    replace R := Ba ((R.out.b b4).b b5)
    go_wp2_with fail
    rw [← hw5]
    clear hw5
    refine (NO.out _).mono ?_
    rintro e w6 ⟨rfl, b6⟩
    replace kS := kS.b b6
    replace R := Ba (R.out.b b6)
    have s0 := Mt kS
    have s1 := Ms kS
    have s2 := Mr kS
    have s3 := Mq kS
    have HA := Ba ha
    have HB := Ba hb
    have HC := Ba hc
    have HD := Ba hd
    have HS := Ba hs
    clear NO LS b4 b5 b6 ha hb hc hd hs
    have hB0 : 0 < B := by
     rcases Nat.eq_zero_or_pos B with e | e
     ·have h2 := HN.out
      have h3 := NB.out
      rw [e, M.digs_zero] at h3
      simp at h3
      omega
     ·exact e
    by_cases hb0 : b = 0
    ·have DM : Hid (Calls Tryz.prog 173 #[.slice (some ⟨ga, 0, none⟩) na ca, .slice (some ⟨gb, 0, none⟩) nb cb] w6 fun e w' => ∃ q r, e = .returned (.tuple #[q, r, .int .i64 0]) ∧ Rd w' r (M.digs Bb (A % B)) ∧ Below w6.heap.size w6 w') := by
      have rA := R.out.rdA
      have rB := R.out.rdB
      unfold Hq at rA rB
      rw [NA.out, CA.out] at rA
      rw [NB.out, CB.out] at rB
      have l1 := Cf R.out.le
      refine (Gb _ _ _ _ w6 rA rB (M.Low.digs Bg A) (M.Low.digs Bg B) R.out.size (Jf l1 R.out.size)).mono ?_
      rintro e w' ⟨-, h, hb⟩
      rw [M.val_digs Bg, M.val_digs Bg] at h
      obtain ⟨q, r, h1, -, h3⟩ := h hB0
      exact ⟨q, r, h1, h3, hb⟩
     rw [decide_eq_true hb0]
     go_wp2_with fail
     refine (DM.out).mono ?_
     rintro e w7 ⟨q, r, rfl, rr, b7⟩
     replace R := Ba (R.out.b b7)
     have KA := Ba R.out.ka
     have l3 : (M.digs Bb (A % B)).length ≤ ca := by
      have l1 := Cf (Jf (Nat.le_of_lt (Nat.mod_lt A hB0)) R.out.le)
      have := CA.out
      rw [Ji] at this
      omega
     have L3 := Ba l3
     have RR := Ba rr
     obtain ⟨ar, cr, rfl, -, -⟩ := id rr
     clear rr l3 b7 DM
     go_wp2_with (first
      | (at_builtin; refine Gd rfl _ _ rfl ga ca (M.digs Bb A ++ qa) (M.digs Bb (A % B)) rfl KA.out CA.out _ rfl RR.out L3.out ?_; intro w8 k8 o8))
     have e8 : (M.digs Bb (A % B) ++ (M.digs Bb A ++ qa).drop (M.digs Bb (A % B)).length).length = ca := by
      have := L3.out
      have := CA.out
      rw [Ji, List.length_drop]
      omega
     refine ⟨⟨gb, ga, B, A % B, qb, (M.digs Bb A ++ qa).drop (M.digs Bb (A % B)).length, by rw [NB.out, CB.out], by rw [e8], R.out.divided hB0 k8 o8⟩, ?_⟩
     have m8 := Kc k8
     unfold Hq at m8
     rw [e8] at m8
     rw [m8, ME.out]
     exact Nat.mod_lt A hB0
    ·rw [decide_eq_false hb0]
     have LO : Hid (Calls Tryz.prog 206 #[.slice (some ⟨gb, 0, none⟩) nb cb, .int .i64 (na : Nat)] w6 fun e w' => e = .returned (.slice (some ⟨gb, 0, none⟩) na cb) ∧ B6 w' gb (M.digs Bb B ++ List.replicate (na - nb) 0 ++ qb.drop (na - nb)) ∧ Ca gb w6 w') := by
      have l1 := Cf R.out.le
      have l2 := R.out.cap
      have l4 := R.out.size
      have e1 := NA.out
      have e2 := NB.out
      have := Oc gb (M.digs Bb B) qb na cb w6 R.out.kb (by omega) (by omega) CB.out.symm (by omega)
      rw [NB.out] at this
      exact this
     go_wp2_with fail
     refine (LO.out).mono ?_
     rintro e w7 ⟨rfl, k7, o7⟩
     have kS7 : Be w7 w4.heap.size [.int .u64 (a : Nat), .int .u64 (b : Nat), .int .u64 (c : Nat), .int .u64 (d : Nat)] 276 := by
      unfold Be at kS ⊢
      rw [o7.block _ (by omega)]; exact kS
     have ka7 : B6 w7 ga (M.digs Bb A ++ qa) := o7.blk R.out.ka R.out.ne
     have t0 := Mt kS7
     have t1 := Ms kS7
     have t2 := Mr kS7
     have t3 := Mq kS7
     obtain ⟨X', Y', eu, y0, yx, c1', d1'⟩ : ∃ X' Y', M.Eu a b c d A B X' Y' ∧ 0 < Y' ∧ Y' < X' ∧ 1 ≤ c ∧ 1 ≤ d := by
      rcases HS.out with h | h
      ·exact absurd h hb0
      ·exact h
     have hXA : X' ≤ A := by
      have := eu.x
      have := Jo X' d1'
      omega
     have hYB : Y' < B := by
      have := eu.y
      have := Jo X' c1'
      omega
     have ln : (M.digs Bb B ++ List.replicate (na - nb) 0).length = na := by
      have l1 := Cf R.out.le
      rw [NA.out, NB.out] at l1
      rw [Ji, List.length_replicate, NB.out]
      omega
     have vB : M.val Bb (M.digs Bb B ++ List.replicate (na - nb) 0) = B := by
      rw [M.val_append, M.val_digs Bg, val_zeros, Nat.mul_zero, Nat.add_zero]
     have hA : A < Bb ^ na := by
      have := M.val_lt Bl (M.Low.digs Bg A)
      rwa [M.val_digs Bg, NA.out] at this
     have TK : Hid (Calls Tryz.prog 207 #[.agg #[.int .u64 (a : Nat), .int .u64 (b : Nat), .int .u64 (c : Nat), .int .u64 (d : Nat)], .slice (some ⟨ga, 0, none⟩) na ca, .slice (some ⟨gb, 0, none⟩) na cb] w7 fun e w' =>
       ∃ xs' ys' : List Nat, e = .returned (.tuple #[]) ∧ B6 w' ga (xs' ++ qa) ∧ B6 w' gb (ys' ++ qb.drop (na - nb)) ∧ xs'.length = na ∧ ys'.length = na ∧ M.Low Bb xs' ∧ M.Low Bb ys' ∧ M.val Bb xs' = X' ∧ M.val Bb ys' = Y' ∧ Bz ga gb w7 w') := by
      have hca : (M.digs Bb A).length ≤ cb := by
       have := R.out.cap
       rw [CB.out] at this
       exact this
      have := L7 a b c d ga gb 170 (M.digs Bb A) (M.digs Bb B ++ List.replicate (na - nb) 0) qa (qb.drop (na - nb)) ca na cb w7 ka7 k7 R.out.ne (by rw [ln, NA.out]) HA.out HB.out HC.out HD.out (M.Low.digs Bg A)
       ((M.Low.digs Bg B).append (Pj _)) hca (by rw [NA.out]; have := R.out.size; rw [NA.out] at this; omega) X' Y'
       (by rw [M.val_digs Bg, vB]; rcases eu.take with ⟨h, -⟩ | ⟨h, -⟩; exact Or.inl h; exact Or.inr h) (by rw [M.val_digs Bg, vB]; rcases eu.take with ⟨-, h⟩ | ⟨-, h⟩; exact Or.inr h; exact Or.inl h)
       (by rw [NA.out]; omega) (by rw [NA.out]; omega)
      rw [NA.out] at this
      exact this
     have EU := Ba eu
     have HXA := Ba hXA
     have HYB := Ba hYB
     have YX := Ba yx
     clear s0 s1 s2 s3 eu hXA hYB yx c1' d1' ln vB hA LO
     go_wp2_with fail
     refine (TK.out).mono ?_
     rintro e w8 ⟨xs', ys', rfl, k8, k9, n8, n9, lx8, ly8, v8, v9, g8⟩
     have hna4 : na ≤ 4000 := by have := R.out.size; rw [NA.out] at this; exact this
     have lca : na ≤ ca := by have h1 := NA.out; have h2 := CA.out; rw [Ji] at h2; omega
     have lcb : na ≤ cb := by have h1 := R.out.cap; rw [NA.out, CB.out] at h1; exact h1
     have SX := Ba (Gg w8 (some ⟨ga, 0, none⟩) ca xs' (Bk.rd (t := 170) k8 ca (by omega)) lx8 (by omega))
     have SY := Ba (Gg w8 (some ⟨gb, 0, none⟩) cb ys' (Bk.rd (t := 170) k9 cb (by omega)) ly8 (by omega))
     rw [n8, v8] at SX
     rw [n9, v9] at SY
     have N8 := Ba n8
     have N9 := Ba n9
     clear n8 n9 v8 v9
     go_wp2_with fail
     refine (SX.out).mono ?_
     rintro e w9 ⟨i1, rfl, li1, t8, rfl⟩
     go_wp2_with fail
     refine (SY.out).mono ?_
     rintro e w10 ⟨i2, rfl, li2, t9, rfl⟩
     have T8 := Ba t8
     have T9 := Ba t9
     clear t8 t9
     go_wp2
     have d8 : M.digs Bb X' ++ (xs'.drop i1 ++ qa) = xs' ++ qa := by rw [← T8.out, ← List.append_assoc, List.take_append_drop]
     have d9 : M.digs Bb Y' ++ (ys'.drop i2 ++ qb.drop (na - nb)) = ys' ++ qb.drop (na - nb) := by rw [← T9.out, ← List.append_assoc, List.take_append_drop]
     have n1 : (M.digs Bb X').length = i1 := by rw [← T8.out, List.length_take, N8.out]; omega
     have n2 : (M.digs Bb Y').length = i2 := by rw [← T9.out, List.length_take, N9.out]; omega
     have c8 : (xs' ++ qa).length = ca := by
      have h1 := NA.out
      have h2 := CA.out
      rw [Ji] at h2 ⊢
      rw [N8.out]
      omega
     have c9 : (ys' ++ qb.drop (na - nb)).length = cb := by
      have h1 := NB.out
      have h2 := CB.out
      have l1 := Cf R.out.le
      rw [NA.out, NB.out] at l1
      rw [Ji] at h2 ⊢
      rw [N9.out, List.length_drop]
      omega
     have g7 : Bz ga gb w6 w7 := Bz.right o7
     refine ⟨⟨ga, gb, X', Y', xs'.drop i1 ++ qa, ys'.drop i2 ++ qb.drop (na - nb), by rw [n1, d8, c8], by rw [n2, d9, c9], ?_⟩, ?_⟩
     ·refine ⟨by rw [d8]; exact k8, by rw [d9]; exact k9, R.out.ne, R.out.fa, R.out.fb, by rw [n1, d9, c9]; omega, Nat.le_of_lt YX.out, by rw [EU.out.gcd]; exact R.out.gcd, by omega, ?_, ?_⟩
      ·exact (R.out.tab.grew2 R.out.ka R.out.kb g7).grew2 ka7 k7 g8
      ·exact (R.out.gr.put g7 R.out.fa R.out.fb).put g8 R.out.fa R.out.fb
     ·have m9 := Kc (g := gb) (A := Y') (q := ys'.drop i2 ++ qb.drop (na - nb)) (by rw [d9]; exact k9)
      unfold Hq at m9
      rw [n2, d9, c9] at m9
      rw [m9, ME.out]
      exact HYB.out
   ·have hn1 : ¬ (1 : Int) < ((M.digs Bb B).length : Nat) := by omega
    rcases Nat.eq_zero_or_pos B with hB0 | hB0
    ·have z : M.digs Bb B = [] := by rw [hB0, M.digs_zero]
     have rA := RR.rdA
     have gg := RR.gcd
     rw [hB0, Nat.gcd_zero_right] at gg
     have GR := Ba RR.gr
     have RA := Ba rA
     have GG := Ba gg
     clear gg rA R ME RR hn hn1
     unfold Hq at *
     rw [z]
     go_wp2_with fail
     go_ret
     exact ⟨_, rfl, by rw [HG.out, ← GG.out]; exact RA.out, GR.out⟩
    ·have lB : B < Bb := by
      have h1 := M.val_lt Bl (M.Low.digs Bg B)
      rw [M.val_digs Bg] at h1
      have h2 : Bb ^ (M.digs Bb B).length ≤ Bb ^ 1 := Nat.pow_le_pow_right Bl (by omega)
      rw [Nat.pow_one] at h2
      omega
     have z : M.digs Bb B = [B] := Ln (by omega) lB
     have hGd : M.digs Bb (Nat.gcd B (A % B)) = [Nat.gcd B (A % B)] := Ln (by have := Nat.gcd_pos_of_pos_left (A % B) hB0; omega) (Nat.lt_of_le_of_lt (Nat.le_of_dvd hB0 (Nat.gcd_dvd_left _ _)) lB)
     have gg : Nat.gcd B (A % B) = G := by rw [Nat.gcd_comm, ← Nat.gcd_rec, Nat.gcd_comm]; exact RR.gcd
     have DM : Hid (Calls Tryz.prog 173 #[Hq ga A qa, Hq gb B qb] wr fun e w' => ∃ q r, e = .returned (.tuple #[q, r, .int .i64 0]) ∧ Rd w' q (M.digs Bb (A / B)) ∧ Rd w' r (M.digs Bb (A % B)) ∧ Below wr.heap.size wr w') := by
      have l1 := Cf RR.le
      refine (Gb _ _ _ _ wr RR.rdA RR.rdB (M.Low.digs Bg A) (M.Low.digs Bg B) RR.size (Jf l1 RR.size)).mono ?_
      rintro e w' ⟨-, h, hb⟩
      rw [M.val_digs Bg, M.val_digs Bg] at h
      obtain ⟨q, r, h1, h2, h3⟩ := h hB0
      exact ⟨q, r, h1, h2, h3, hb⟩
     have LD := Ba (fun v w => Pk B (A % B) v w hB0 lB (Nat.mod_lt _ hB0))
     have kb := RR.kb
     rw [z] at kb
     have R2 := Ba RR
     unfold Hq at *
     rw [z] at DM ⊢
     generalize hna : (M.digs Bb A).length = na at *
     generalize hca : (M.digs Bb A ++ qa).length = ca at *
     generalize hcb : ([B] ++ qb).length = cb at *
     have hcb0 : 1 ≤ cb := by rw [← hcb]; simp
     have GG := Ba gg
     have HGD := Ba hGd
     have ic : ((0 : Nat) : Int) < cb := by omega
     clear hna hca hcb R ME RR hn hn1 gg hGd z
     simp only [List.length_cons, List.length_nil, Nat.zero_add] at *
     go_wp2_with fail
     refine (DM.out).mono ?_
     rintro e w7 ⟨q, r, rfl, rq, rr, b7⟩
     have y0 := (kb.b b7).cell (j := 0) (by simp)
     rw [show lm ([B] ++ qb) 0 = B from rfl] at y0
     have LD2 := Ba (LD.out r w7 rr (R2.out.b b7).tab)
     have RR2 := Ba (R2.out.b b7)
     obtain ⟨aq, cq, rfl, -, -⟩ := id rq
     obtain ⟨ar, cr, rfl, -, -⟩ := id rr
     clear rr rq b7 LD R2 kb DM
     go_wp2_with fail
     refine (LD2.out).mono ?_
     rintro e w8 ⟨rfl, rfl⟩
     clear LD2 y0
     go_wp2
     go_ret
     refine ⟨_, rfl, ?_, RR2.out.gr.of_below ((Jg _ _).alloc (Jb _) _)⟩
     rw [HG.out, ← GG.out, HGD.out]
     exact rd1 _ rfl _
open Go.RowKit Go.Shelf
theorem Below.of_grew2 {w w1 w2 w3 : World} {g0 g1 : Nat} (bb : Below w.heap.size w w1) (h2 : Bz g0 g1 w1.drew w2) (h3 : Below w2.heap.size w2 w3) (l0 : w.heap.size ≤ g0) (l1 : w.heap.size ≤ g1) : Below w.heap.size w w3 :=
 Ia (Bz.b (show Below w.heap.size w w1.drew from bb.drew) h2 bb.size l0 l1) h3
theorem Ql {s : ByteArray} {K : Nat} (h : s.size ≤ 8 * K) : Bc s < Bb ^ K := by
 refine Jl (Ew s) ?_
 rw [Kk]
 exact Nat.pow_le_pow_right (by omega) h
theorem Ta {s : ByteArray} {K : Nat} (h : s.size ≤ 8 * K) : (M.digs Bb (Bc s)).length ≤ K := M.digs_len_of_lt Bg (Ql h)
theorem U2 (a b : Nat) : Nat.gcd a b ≤ max a b := by
 rcases Nat.eq_zero_or_pos a with h | h
 ·rw [h, Nat.gcd_zero_left]; omega
 ·have := Nat.le_of_dvd h (Nat.gcd_dvd_left a b); omega
theorem Bel {s0 s1 : ByteArray} {K : Nat} (h0 : s0.size ≤ 8 * K) (h1 : s1.size ≤ 8 * K) : Nat.gcd (Bc s0) (Bc s1) < Bb ^ K := by
 have a := Ql h0
 have b := Ql h1
 have c := U2 (Bc s0) (Bc s1)
 generalize Bb ^ K = P at *
 omega
theorem Bg5 {s0 s1 : ByteArray} {K : Nat} (hK : K ≤ 4000) (h0 : s0.size ≤ 8 * K) (h1 : s1.size ≤ 8 * K) (v : Value) (wx : World) (hr : Rd wx v (M.digs Bb (Nat.gcd (Bc s0) (Bc s1)))) :
  Calls Tryz.prog 170 #[.agg #[Iz false, v]] wx (Re wx (zI (C4 false (Nat.gcd (Bc s0) (Bc s1))))) := Ho false hK (Bel h0 h1) v wx hr
theorem Pp (n0 n1 : Bool) (s0 s1 : ByteArray) (w : World) (o0 : Kj n0 s0) (o1 : Kj n1 s1) (z0 : s0.size ≤ 32000) (z1 : s1.size ≤ 32000) (hT : Fi w) :
  Calls Tryz.prog 124 #[.agg #[Iz n0, I s0], .agg #[Iz n1, I s1]] w (Re w (.tuple #[zI (Nat.gcd (Bc s0) (Bc s1) : Nat), .int .i64 0])) := by
 have HT := Ba (Bg5 (s0 := s0) (s1 := s1) (K := 4000) (by omega) (by omega) (by omega))
 have hz : C4 false (Nat.gcd (Bc s0) (Bc s1)) = ((Nat.gcd (Bc s0) (Bc s1) : Nat) : Int) := rfl
 rw [hz] at HT
 generalize hR : zI ((Nat.gcd (Bc s0) (Bc s1) : Nat) : Int) = R at *
 obtain ⟨za, zb, rfl⟩ : ∃ a b, R = .agg #[Iz a, I b] := ⟨_, _, hR.symm⟩
 clear hR hz
 go_enter Tryz.func124, Tryz.ntmps124
 go_wp2_with fail
 obtain ⟨w0, hw0, k0, k1, k2, k3, hb0⟩ := Bco w (Iz n0) (I s0) (Iz n1) (I s1)
 rw [← hw0]
 clear hw0
 refine (X6 _ n0 n1 s0 s1 w0 k3 o0 o1 z0 z1).mono ?_
 rintro e w1 ⟨g, g0, g1, m0, m1, rfl, kg, e0, e1, r0, r1, hg, hg0, hg1, hb⟩
 have c0 := kg.cell 0
 have c1 := kg.cell 1
 have c2 := kg.cell 2
 have c3 := kg.cell 3
 simp only [Jn, Jm] at c0 c1 c2 c3
 have lt2 := k2.lt
 have m2 := k2.b hb
 have bb := Ia hb0 hb
 have d0 := Ta (s := s0) (K := 4000) (by omega)
 have d1 := Ta (s := s1) (K := 4000) (by omega)
 have H55 := Ba (Bch g0 g1 (Bc s0) (Bc s1) m0 m1 w1.drew e0 e1 (show B6 w1 _ _ from r0) (show B6 w1 _ _ from r1) (by omega) (by omega) (show Fi w1 from (hT.b hb0).b hb))
 have bs := hb0.size
 clear k0 k1 k2 k3 kg hT e0 e1 r0 r1 d0 d1
 go_wp2
 go_region_with (first | (go_at_call 172; refine (H55.out).mono ?_; rintro e w2 ⟨v, rfl, rv, hb2⟩; obtain ⟨av, cv, rfl, -, -⟩ := id rv) | (go_at_call 170; refine (HT.out _ w2 rv).mono ?_; rintro e w3 ⟨rfl, hb3⟩; have q2 := ((show Be w1.drew _ _ _ from m2).grew2 hb2 (by omega) (by omega)).b hb3; have e0 := Dy q2; have e1 := H9 q2; have f0 := q2.o 0; have f1 := q2.o 1))
 all_goals try go_wp2
 all_goals refine Wl (p := 4) (u := 5) (by kernel_rfl) rfl rfl rfl ((q2.set 0 _).set 1 _) ⟨rfl, ((Below.of_grew2 bb hb2 hb3 (by omega) (by omega)).setCell (by simp; omega) _).setCell (by simp; omega) _⟩
open Go.RowKit
theorem O5 (n0 n1 : Bool) (s0 s1 : ByteArray) (w : World) (o0 : Kj n0 s0) (o1 : Kj n1 s1) (z0 : s0.size ≤ 32000) (z1 : s1.size ≤ 32000) (hT : Fi w) (hne0 : s0 ≠ ⟨#[1]⟩) (hne : s1 ≠ ⟨#[1]⟩) :
  Calls Tryz.prog 196 #[.agg #[Iz n0, I s0], .agg #[Iz n1, I s1]] w (Re w (zI ((Nat.gcd (Bc s0) (Bc s1) : Nat) : Int))) := by
 have HA := Ba (fun w hT => Pp n0 n1 s0 s1 w o0 o1 z0 z1 hT)
 generalize hR : zI ((Nat.gcd (Bc s0) (Bc s1) : Nat) : Int) = R at *
 obtain ⟨za, zb, rfl⟩ : ∃ a b, R = .agg #[Iz a, I b] := ⟨_, _, hR.symm⟩
 clear hR
 have hne0 := Ss hne0
 have hne := Ss hne
 go_enter Tryz.func196, Tryz.ntmps196
 go_wp2_with fail
 go_fit (HA.out _ (hT.b (ba (ba (ba (Jg _ _) _) _) _)))
 rintro e w1 ⟨rfl, b1⟩
 obtain ⟨ka, kb, kr, b1⟩ := al3 b1
 have bb := b1
 clear b1
 have cr_0 := Bw (kr.alloc (.cells #[Iz za, I zb] 24))
 have fr_1 := Be.o (kr.alloc (.cells #[Iz za, I zb] 24)) 0
 have cr_2 := C8 (kr.alloc (.cells #[Iz za, I zb] 24))
 have fr_3 := Be.o (kr.alloc (.cells #[Iz za, I zb] 24)) 1
 go_wp2
 have kr' := (kr.alloc (.cells #[Iz za, I zb] 24))
 exact Dg (p := 4) (by kernel_rfl) rfl rfl ((kr'.set 0 _).set 1 _) ⟨rfl, (Below.setCell (ba bb _) (by simp; omega) _).setCell (by simp; omega) _⟩
theorem Y3 (n0 n1 : Bool) (s1 : ByteArray) (w : World) :
  Calls Tryz.prog 196 #[.agg #[Iz n0, I ⟨#[1]⟩], .agg #[Iz n1, I s1]] w (Re w (.agg #[Iz false, I ⟨#[1]⟩])) := by
 go_enter Tryz.func196, Tryz.ntmps196
 go_wp2
 obtain ⟨w0, hw, k0, k1, k2, b⟩ := K9 w [Iz n0, I ⟨#[1]⟩] [Iz n1, I s1] [Iz false, I ⟨#[1]⟩] 24 24 24
 rw [← hw]
 exact Dg (p := 4) (by kernel_rfl) rfl rfl k2 ⟨rfl, b⟩
theorem Y0 (n0 n1 : Bool) (s0 : ByteArray) (w : World) (hne : s0 ≠ ⟨#[1]⟩) :
  Calls Tryz.prog 196 #[.agg #[Iz n0, I s0], .agg #[Iz n1, I ⟨#[1]⟩]] w (Re w (.agg #[Iz false, I ⟨#[1]⟩])) := by
 have hne := Ss hne
 go_enter Tryz.func196, Tryz.ntmps196
 go_wp2
 obtain ⟨w0, hw, k0, k1, k2, b⟩ := K9 w [Iz n0, I s0] [Iz n1, I ⟨#[1]⟩] [Iz false, I ⟨#[1]⟩] 24 24 24
 rw [← hw]
 exact Dg (p := 4) (by kernel_rfl) rfl rfl k2 ⟨rfl, b⟩
theorem U8 (n0 n1 : Bool) (s0 s1 : ByteArray) (w : World) (o0 : Kj n0 s0) (o1 : Kj n1 s1) (z0 : s0.size ≤ 32000) (z1 : s1.size ≤ 32000) (hT : Fi w) :
  Calls Tryz.prog 196 #[.agg #[Iz n0, I s0], .agg #[Iz n1, I s1]] w (Re w (zI ((Nat.gcd (Bc s0) (Bc s1) : Nat) : Int))) := by
 by_cases h0 : s0 = ⟨#[1]⟩
 ·subst h0
  rw [Dr, Nat.gcd_one_left, show (((1 : Nat) : Int)) = 1 from rfl, Zo]
  exact Y3 n0 n1 s1 w
 ·by_cases h1 : s1 = ⟨#[1]⟩
  ·subst h1
   rw [Dr, Nat.gcd_one_right, show (((1 : Nat) : Int)) = 1 from rfl, Zo]
   exact Y0 n0 n1 s0 w h0
  ·exact O5 n0 n1 s0 s1 w o0 o1 z0 z1 hT h0 h1
open Go.RowKit
theorem Tq (B : Nat) (s d : ByteArray) (w : World) (hB : Be w B [I s, I d] 22) (hs : s.size ≤ 8000) (hd : d.size ≤ 8000) :
  Calls Tryz.prog 194 #[.slice (some ⟨B, 0, none⟩) 2 2] w (Re w (Iz false)) := by
 have i0 : ¬ (8000 : Int) < s.size := by omega
 have i1 : ¬ (8000 : Int) < d.size := by omega
 obtain ⟨c0, c1⟩ := B7 hB
 go_enter Tryz.func194, Tryz.ntmps194
 go_wp2
 go_loopw [7] (fun i wr => wr = w ∧ (i = .int .i64 0 ∨ i = .int .i64 1 ∨ i = .int .i64 2)) (fun i _ => 2 - (intOf i).toNat)
 case atStart => exact ⟨rfl, Or.inl rfl⟩
 case round =>
  obtain ⟨rfl, rfl | rfl | rfl⟩ := hrel
  ·go_wp2
   exact ⟨⟨trivial, Or.inr (Or.inl (by go_num))⟩, by simp [intOf]⟩
  ·go_wp2
   exact ⟨⟨trivial, Or.inr (Or.inr (by go_num))⟩, by simp [intOf]⟩
  ·go_wp2
   go_ret
   exact ⟨rfl, Jg _ _⟩
theorem Xn (B : Nat) (s d : ByteArray) (w : World) (hB : Be w B [I s, I d] 22) (hs : 8000 < s.size) :
  Calls Tryz.prog 194 #[.slice (some ⟨B, 0, none⟩) 2 2] w (Re w (Iz true)) := by
 have i0 : (8000 : Int) < s.size := by omega
 obtain ⟨c0, c1⟩ := B7 hB
 go_enter Tryz.func194, Tryz.ntmps194
 go_wp2
 go_loopw [7] (fun i wr => wr = w ∧ i = .int .i64 0) (fun i _ => 2 - (intOf i).toNat)
 case atStart => exact ⟨rfl, rfl⟩
 case round =>
  obtain ⟨rfl, rfl⟩ := hrel
  go_wp2
  go_ret
  exact ⟨rfl, Jg _ _⟩
theorem Xm (B : Nat) (s d : ByteArray) (w : World) (hB : Be w B [I s, I d] 22) (hs : s.size ≤ 8000) (hd : 8000 < d.size) :
  Calls Tryz.prog 194 #[.slice (some ⟨B, 0, none⟩) 2 2] w (Re w (Iz true)) := by
 have i0 : ¬ (8000 : Int) < s.size := by omega
 have i1 : (8000 : Int) < d.size := by omega
 obtain ⟨c0, c1⟩ := B7 hB
 go_enter Tryz.func194, Tryz.ntmps194
 go_wp2
 go_loopw [7] (fun i wr => wr = w ∧ (i = .int .i64 0 ∨ i = .int .i64 1)) (fun i _ => 2 - (intOf i).toNat)
 case atStart => exact ⟨rfl, Or.inl rfl⟩
 case round =>
  obtain ⟨rfl, rfl | rfl⟩ := hrel
  ·go_wp2
   exact ⟨⟨trivial, Or.inr (by go_num)⟩, by simp [intOf]⟩
  ·go_wp2
   go_ret
   exact ⟨rfl, Jg _ _⟩
theorem Rp (s d : ByteArray) : ∃ t : Bool, (t = true ↔ 8000 < s.size ∨ 8000 < d.size) ∧ ∀ (B : Nat) (w : World) (_ : Be w B [I s, I d] 22),
  Calls Tryz.prog 194 #[.slice (some ⟨B, 0, none⟩) 2 2] w (Re w (Iz t)) := by
 by_cases hs : 8000 < s.size
 ·exact ⟨true, ⟨fun _ => Or.inl hs, fun _ => rfl⟩, fun B w hB => Xn B s d w hB hs⟩
 ·by_cases hd : 8000 < d.size
  ·exact ⟨true, ⟨fun _ => Or.inr hd, fun _ => rfl⟩, fun B w hB => Xm B s d w hB (by omega) hd⟩
  ·exact ⟨false, ⟨fun h => (by cases h), fun h => (by omega)⟩, fun B w hB => Tq B s d w hB (by omega) (by omega)⟩
open Go.RowKit
theorem Bb2 (n : Bool) (s : ByteArray) (w : World) : (Instr.field 24 (.agg #[Iz n, I s]) 1).run Tryz.prog w = .ok (I s) w := by kernel_rfl
theorem Ya (n : Bool) (s d : ByteArray) (w : World)
  (HL : Hid (∀ (B : Nat) (w : World) (_ : Be w B [I s, I d] 22), Calls Tryz.prog 194 #[.slice (some ⟨B, 0, none⟩) 2 2] w (Re w (Iz true)))) :
  Calls Tryz.prog 163 #[(Bo n s d)] w (Re w (.int .i64 5)) := by
 go_enter Tryz.func163, Tryz.ntmps163
 go_wp2_with fail
 obtain ⟨w0, hw, k0, k1, bb⟩ := Gx w (Bx n s d) [I s, I d] 26 22
 rw [← hw]
 clear hw
 go_fit (HL.out _ w0 k1)
 rintro e w1 ⟨rfl, b1⟩
 replace k0 := k0.b b1
 replace bb := Ia bb b1
 clear b1 k1
 go_wp2
 go_ret
 exact ⟨rfl, bb⟩
theorem Ba0 (n : Bool) (s d : ByteArray) (w : World) (c : Int) (hc : ¬ c = 0)
  (HL : Hid (∀ (B : Nat) (w : World) (_ : Be w B [I s, I d] 22), Calls Tryz.prog 194 #[.slice (some ⟨B, 0, none⟩) 2 2] w (Re w (Iz false))))
  (HC : Hid (∀ w1, Calls Tryz.prog 195 #[.agg #[Iz n, I s]] w1 (Re w1 (.int .i64 c)))) :
  Calls Tryz.prog 163 #[(Bo n s d)] w (Re w (.int .i64 c)) := by
 go_enter Tryz.func163, Tryz.ntmps163
 go_wp2_with fail
 obtain ⟨w0, hw, k0, k1, bb⟩ := Gx w (Bx n s d) [I s, I d] 26 22
 rw [← hw]
 clear hw
 go_fit (HL.out _ w0 k1)
 rintro e w1 ⟨rfl, b1⟩
 replace k0 := k0.b b1
 replace bb := Ia bb b1
 clear b1 k1
 obtain ⟨c0, c1, c2⟩ := Ch k0
 go_wp2_with fail
 go_fit (HC.out _)
 rintro e w2 ⟨rfl, b1⟩
 replace k0 := k0.b b1
 replace bb := Ia bb b1
 clear b1 c0 c1 c2
 go_wp2
 go_ret
 exact ⟨rfl, bb⟩
theorem Bdo (n zn : Bool) (s d zs : ByteArray) (w : World) (hd : 0 < d.size) (hd0 : ¬ lm (B9 d) 0 = 0)
  (HL : Hid (∀ (B : Nat) (w : World) (_ : Be w B [I s, I d] 22), Calls Tryz.prog 194 #[.slice (some ⟨B, 0, none⟩) 2 2] w (Re w (Iz false))))
  (HC : Hid (∀ w1, Calls Tryz.prog 195 #[.agg #[Iz n, I s]] w1 (Re w1 (.int .i64 0))))
  (HV : Hid (∀ w1, Below w.heap.size w w1 → Calls Tryz.prog 196 #[.agg #[Iz n, I s], .agg #[Iz false, I d]] w1 (Re w1 (.agg #[Iz zn, I zs]))))
  (hz : (zs.toList == [1]) = true) :
  Calls Tryz.prog 163 #[(Bo n s d)] w (Re w (.int .i64 0)) := by
 have g1 : ¬ ((d[0]).toNat : Int) = 0 := by rw [De d 0 hd]; omega
 have g2 : ¬ d[0] = 0 := fun h => g1 (by rw [h]; rfl)
 have g4 := Dp hd
 have g5 : d.toList.isEmpty = false := by simpa using g4
 have g6 : (0 : Int) < d.size := by omega
 clear hd0
 have g7 : (((d[0]).toNat : Int) == 0) = false := by simpa using g1
 have gf := Bb2 zn zs
 go_enter Tryz.func163, Tryz.ntmps163
 go_wp2_with fail
 obtain ⟨w0, hw, k0, k1, bb⟩ := Gx w (Bx n s d) [I s, I d] 26 22
 rw [← hw]
 clear hw
 go_fit (HL.out _ w0 k1)
 rintro e w1 ⟨rfl, b1⟩
 replace k0 := k0.b b1
 replace bb := Ia bb b1
 clear b1 k1
 obtain ⟨c0, c1, c2⟩ := Ch k0
 go_wp2_with fail
 go_fit (HC.out _)
 rintro e w2 ⟨rfl, b1⟩
 replace k0 := k0.b b1
 replace bb := Ia bb b1
 clear b1 c0 c1 c2
 go_wp2
 refine Jc (S := (fun w' => Gy w' w.heap.size (Iz n) (I s) (I d))) (by kernel_rfl) ?_ (fun hHeld => ?_)
 ·exact (Ch k0)
 refine tq 0 rfl ?_
 refine tq 1 rfl ?_
 refine tq 2 rfl ?_
 refine tq 3 rfl ?_
 refine tq 4 rfl ?_
 refine tq 5 rfl ?_
 refine tq 6 rfl ?_
 refine tq 7 rfl ?_
 refine tq 8 rfl ?_
 refine tq 9 rfl ?_
 refine tq 10 rfl ?_
 refine tq 11 rfl ?_
 refine tq 12 rfl ?_
 refine wpAnyH_ready (rs := [13]) (by kernel_rfl) (by simp) ?_
 refine AllReadyH.cons (o := _) rfl (fun K hK => ?_) AllReadyH.nil
 go_simp
 go_fit (W9 _ _ _ _)
 rintro e wn ⟨rfl, bn⟩
 replace k0 := k0.b (un bn)
 replace bb := Ia bb (un bn)
 clear bn
 try go_wp2_with fail
 refine hK.out _ _ ?_ (fun hHeld => ?_)
 ·exact (Ch k0)
 clear hK K
 try simp only [ly]
 refine wpAnyH_ready (rs := [14]) (by kernel_rfl) (by simp) ?_
 refine AllReadyH.cons (o := _) rfl (fun K hK => ?_) AllReadyH.nil
 go_simp
 go_fit (HV.out _ ?_)
 ·first | exact bb | exact bb.drew
 rintro e wn ⟨rfl, bn⟩
 replace k0 := k0.b (un bn)
 replace bb := Ia bb (un bn)
 clear bn
 try go_wp2_with fail
 refine hK.out _ _ ?_ (fun hHeld => ?_)
 ·exact (Ch k0)
 clear hK K
 try simp only [ly]
 refine tq 15 rfl ?_
 refine tq 16 rfl ?_
 refine tq 17 rfl ?_
 refine wpAnyH_done (by kernel_rfl) ?_ _
 go_wp2
 go_ret
 exact ⟨rfl, bb⟩
theorem Ba1 (n zn : Bool) (s d zs : ByteArray) (w : World) (hd : 0 < d.size) (hd0 : ¬ lm (B9 d) 0 = 0)
  (HL : Hid (∀ (B : Nat) (w : World) (_ : Be w B [I s, I d] 22), Calls Tryz.prog 194 #[.slice (some ⟨B, 0, none⟩) 2 2] w (Re w (Iz false))))
  (HC : Hid (∀ w1, Calls Tryz.prog 195 #[.agg #[Iz n, I s]] w1 (Re w1 (.int .i64 0))))
  (HV : Hid (∀ w1, Below w.heap.size w w1 → Calls Tryz.prog 196 #[.agg #[Iz n, I s], .agg #[Iz false, I d]] w1 (Re w1 (.agg #[Iz zn, I zs]))))
  (hz : (zs.toList == [1]) = false) :
  Calls Tryz.prog 163 #[(Bo n s d)] w (Re w (.int .i64 1)) := by
 have g1 : ¬ ((d[0]).toNat : Int) = 0 := by rw [De d 0 hd]; omega
 have g2 : ¬ d[0] = 0 := fun h => g1 (by rw [h]; rfl)
 have g4 := Dp hd
 have g5 : d.toList.isEmpty = false := by simpa using g4
 have g6 : (0 : Int) < d.size := by omega
 clear hd0
 have g7 : (((d[0]).toNat : Int) == 0) = false := by simpa using g1
 have gf := Bb2 zn zs
 go_enter Tryz.func163, Tryz.ntmps163
 go_wp2_with fail
 obtain ⟨w0, hw, k0, k1, bb⟩ := Gx w (Bx n s d) [I s, I d] 26 22
 rw [← hw]
 clear hw
 go_fit (HL.out _ w0 k1)
 rintro e w1 ⟨rfl, b1⟩
 replace k0 := k0.b b1
 replace bb := Ia bb b1
 clear b1 k1
 obtain ⟨c0, c1, c2⟩ := Ch k0
 go_wp2_with fail
 go_fit (HC.out _)
 rintro e w2 ⟨rfl, b1⟩
 replace k0 := k0.b b1
 replace bb := Ia bb b1
 clear b1 c0 c1 c2
 go_wp2
 refine Jc (S := (fun w' => Gy w' w.heap.size (Iz n) (I s) (I d))) (by kernel_rfl) ?_ (fun hHeld => ?_)
 ·exact (Ch k0)
 refine tq 0 rfl ?_
 refine tq 1 rfl ?_
 refine tq 2 rfl ?_
 refine tq 3 rfl ?_
 refine tq 4 rfl ?_
 refine tq 5 rfl ?_
 refine tq 6 rfl ?_
 refine tq 7 rfl ?_
 refine tq 8 rfl ?_
 refine tq 9 rfl ?_
 refine tq 10 rfl ?_
 refine tq 11 rfl ?_
 refine tq 12 rfl ?_
 refine wpAnyH_ready (rs := [13]) (by kernel_rfl) (by simp) ?_
 refine AllReadyH.cons (o := _) rfl (fun K hK => ?_) AllReadyH.nil
 go_simp
 go_fit (W9 _ _ _ _)
 rintro e wn ⟨rfl, bn⟩
 replace k0 := k0.b (un bn)
 replace bb := Ia bb (un bn)
 clear bn
 try go_wp2_with fail
 refine hK.out _ _ ?_ (fun hHeld => ?_)
 ·exact (Ch k0)
 clear hK K
 try simp only [ly]
 refine wpAnyH_ready (rs := [14]) (by kernel_rfl) (by simp) ?_
 refine AllReadyH.cons (o := _) rfl (fun K hK => ?_) AllReadyH.nil
 go_simp
 go_fit (HV.out _ ?_)
 ·first | exact bb | exact bb.drew
 rintro e wn ⟨rfl, bn⟩
 replace k0 := k0.b (un bn)
 replace bb := Ia bb (un bn)
 clear bn
 try go_wp2_with fail
 refine hK.out _ _ ?_ (fun hHeld => ?_)
 ·exact (Ch k0)
 clear hK K
 try simp only [ly]
 refine tq 15 rfl ?_
 refine tq 16 rfl ?_
 refine tq 17 rfl ?_
 refine wpAnyH_done (by kernel_rfl) ?_ _
 go_wp2
 go_ret
 exact ⟨rfl, bb⟩
theorem Uh (n : Bool) (s : ByteArray) (w : World)
  (HL : Hid (∀ (B : Nat) (w : World) (_ : Be w B [I s, I ByteArray.empty] 22), Calls Tryz.prog 194 #[.slice (some ⟨B, 0, none⟩) 2 2] w (Re w (Iz false))))
  (HC : Hid (∀ w1, Calls Tryz.prog 195 #[.agg #[Iz n, I s]] w1 (Re w1 (.int .i64 0)))) :
  Calls Tryz.prog 163 #[(Bo n s ByteArray.empty)] w (Re w (.int .i64 1)) := by
 go_enter Tryz.func163, Tryz.ntmps163
 go_wp2_with fail
 obtain ⟨w0, hw, k0, k1, bb⟩ := Gx w (Bx n s ByteArray.empty) [I s, I ByteArray.empty] 26 22
 rw [← hw]
 clear hw
 go_fit (HL.out _ w0 k1)
 rintro e w1 ⟨rfl, b1⟩
 replace k0 := k0.b b1
 replace bb := Ia bb b1
 clear b1 k1
 obtain ⟨c0, c1, c2⟩ := Ch k0
 go_wp2_with fail
 go_fit (HC.out _)
 rintro e w2 ⟨rfl, b1⟩
 replace k0 := k0.b b1
 replace bb := Ia bb b1
 clear b1 c0 c1 c2
 go_wp2
 refine Jc (S := (fun w' => Gy w' w.heap.size (Iz n) (I s) (I ByteArray.empty))) (by kernel_rfl) ?_ (fun hHeld => ?_)
 ·exact (Ch k0)
 refine tq 0 rfl ?_
 refine tq 1 rfl ?_
 refine tq 2 rfl ?_
 refine tq 3 rfl ?_
 refine tu 4 rfl ?_
 refine tu 5 rfl ?_
 refine tu 6 rfl ?_
 refine tu 7 rfl ?_
 refine tq 8 rfl ?_
 refine tq 9 rfl ?_
 refine tu 10 rfl ?_
 refine tu 11 rfl ?_
 refine tu 12 rfl ?_
 refine tu 13 rfl ?_
 refine tu 14 rfl ?_
 refine tu 15 rfl ?_
 refine tu 16 rfl ?_
 refine tq 17 rfl ?_
 refine wpAnyH_done (by kernel_rfl) ?_ _
 go_wp2
 go_ret
 exact ⟨rfl, bb.drew⟩
theorem X9 (n : Bool) (s d : ByteArray) (w : World) (hd : 0 < d.size) (hd0 : lm (B9 d) 0 = 0)
  (HL : Hid (∀ (B : Nat) (w : World) (_ : Be w B [I s, I d] 22), Calls Tryz.prog 194 #[.slice (some ⟨B, 0, none⟩) 2 2] w (Re w (Iz false))))
  (HC : Hid (∀ w1, Calls Tryz.prog 195 #[.agg #[Iz n, I s]] w1 (Re w1 (.int .i64 0)))) :
  Calls Tryz.prog 163 #[(Bo n s d)] w (Re w (.int .i64 1)) := by
 have g1 : ((d[0]).toNat : Int) = 0 := by rw [De d 0 hd, hd0]; rfl
 have g3 : (d[0]).toNat = 0 := by omega
 have g2 : d[0] = 0 := UInt8.toNat.inj g3
 have g4 := Dp hd
 have g5 : d.toList.isEmpty = false := by simpa using g4
 have g6 : (0 : Int) < d.size := by omega
 clear hd0
 have g7 : (((d[0]).toNat : Int) == 0) = true := by simpa using g1
 go_enter Tryz.func163, Tryz.ntmps163
 go_wp2_with fail
 obtain ⟨w0, hw, k0, k1, bb⟩ := Gx w (Bx n s d) [I s, I d] 26 22
 rw [← hw]
 clear hw
 go_fit (HL.out _ w0 k1)
 rintro e w1 ⟨rfl, b1⟩
 replace k0 := k0.b b1
 replace bb := Ia bb b1
 clear b1 k1
 obtain ⟨c0, c1, c2⟩ := Ch k0
 go_wp2_with fail
 go_fit (HC.out _)
 rintro e w2 ⟨rfl, b1⟩
 replace k0 := k0.b b1
 replace bb := Ia bb b1
 clear b1 c0 c1 c2
 go_wp2
 refine Jc (S := (fun w' => Gy w' w.heap.size (Iz n) (I s) (I d))) (by kernel_rfl) ?_ (fun hHeld => ?_)
 ·exact (Ch k0)
 refine tq 0 rfl ?_
 refine tq 1 rfl ?_
 refine tq 2 rfl ?_
 refine tq 3 rfl ?_
 refine tq 4 rfl ?_
 refine tq 5 rfl ?_
 refine tq 6 rfl ?_
 refine tq 7 rfl ?_
 refine tq 8 rfl ?_
 refine tq 9 rfl ?_
 refine tu 10 rfl ?_
 refine tu 11 rfl ?_
 refine tu 12 rfl ?_
 refine tu 13 rfl ?_
 refine tu 14 rfl ?_
 refine tu 15 rfl ?_
 refine tu 16 rfl ?_
 refine tq 17 rfl ?_
 refine wpAnyH_done (by kernel_rfl) ?_ _
 go_wp2
 go_ret
 exact ⟨rfl, bb.drew⟩
theorem Nu (n : Bool) (s d : ByteArray) (w : World) (hT : Fi w) :
  Calls Tryz.prog 163 #[(Bo n s d)] w (Re w (.int .i64 (Bt n s d : Nat))) := by
 obtain ⟨t, ht, hL⟩ := Rp s d
 by_cases hl : 8000 < s.size ∨ 8000 < d.size
 ·obtain rfl := ht.2 hl
  rw [show Bt n s d = 5 by unfold Bt; rw [if_pos hl]]
  exact Ya n s d w (Ba hL)
 ·obtain rfl : t = false := by
   cases t with
   | false => rfl
   | true => exact absurd (ht.1 rfl) hl
  have hs : s.size ≤ 8000 := by omega
  have hdl : d.size ≤ 8000 := by omega
  by_cases hc : Lp n s = 0
  ·have HC : Hid (∀ w1, Calls Tryz.prog 195 #[.agg #[Iz n, I s]] w1 (Re w1 (.int .i64 0))) := by
    intro w1
    have := Fv n s w1
    rw [hc] at this
    exact this
   have o := (H8 (by omega)).1 hc
   by_cases hd : 0 < d.size
   ·by_cases h0 : lm (B9 d) 0 = 0
    ·rw [show Bt n s d = 1 by unfold Bt; rw [if_neg hl, if_pos (Or.inr (Or.inr (Or.inl h0)))]]
     exact X9 n s d w hd h0 (Ba hL) HC
    ·have od : Pn d := fun _ => h0
     have HV : Hid (∀ w1, Below w.heap.size w w1 → Calls Tryz.prog 196 #[.agg #[Iz n, I s], .agg #[Iz false, I d]] w1 (Re w1 (zI ((Nat.gcd (Bc s) (Bc d) : Nat) : Int)))) :=
      fun w1 b => U8 n false s d w1 o ⟨od, fun h => by cases h⟩ (by omega) (by omega) (hT.b b)
     have e : zI ((Nat.gcd (Bc s) (Bc d) : Nat) : Int) = .agg #[Iz false, I (Bf (Nat.gcd (Bc s) (Bc d)))] := by
      show zV _ _ = _
      rw [Int.natAbs_natCast, show decide ((((Nat.gcd (Bc s) (Bc d) : Nat)) : Int) < 0) = false by simp]
      rfl
     rw [e] at HV
     by_cases hg : Nat.gcd (Bc s) (Bc d) = 1
     ·rw [Q6 ⟨o, od, Ft od hd, hg⟩ hs hdl]
      exact Bdo n _ s d _ w hd h0 (Ba hL) HC HV (eq1 (by rw [hg, Eb]))
     ·rw [show Bt n s d = 1 by unfold Bt; rw [if_neg hl, if_pos (Or.inr (Or.inr (Or.inr hg)))]]
      exact Ba1 n _ s d _ w hd h0 (Ba hL) HC HV (Ss fun h => hg (by
       have := Bu (Nat.gcd (Bc s) (Bc d))
       rw [h, Dr] at this
       exact this.symm))
   ·have g3 : d = ByteArray.empty := ByteArray.size_eq_zero_iff.1 (by omega)
    subst g3
    rw [show Bt n s ByteArray.empty = 1 by unfold Bt; rw [if_neg hl, if_pos (Or.inr (Or.inl (show ByteArray.empty.size = 0 from rfl)))]]
    exact Uh n s w (Ba hL) HC
  ·have h1 : Lp n s = 1 := by
    unfold Lp at hc ⊢
    rw [if_neg (by omega)] at hc ⊢
    split at hc
    ·rw [if_pos (by assumption)]
    ·exact absurd rfl hc
   have HC : Hid (∀ w1, Calls Tryz.prog 195 #[.agg #[Iz n, I s]] w1 (Re w1 (.int .i64 1))) := by
    intro w1
    have := Fv n s w1
    rw [h1] at this
    exact this
   rw [show Bt n s d = 1 by unfold Bt; rw [if_neg hl, if_pos (Or.inl hc)]]
   exact Ba0 n s d w 1 (by omega) (Ba hL) HC
open Go.RowKit
def Bs (z : Int) : Bool := decide (z < 0)
def Bp (z : Int) : ByteArray := Bf z.natAbs
theorem Rg (z : Int) : zI z = .agg #[Iz (Bs z), I (Bp z)] := rfl
theorem Lk (z : Int) : Pn (Bp z) := Ed _
theorem Mc (z : Int) : Kj (Bs z) (Bp z) := Qj z
theorem L5 (z : Int) : Cq (Bs z) (Bp z) = z := Pr z
theorem Db (z : Int) : Bc (Bp z) = z.natAbs := Bu _
theorem Fs {s : ByteArray} (h : Pn s) : Kj false s := ⟨h, fun e => by cases e⟩
theorem Vu (s : ByteArray) : Cq false s = ((Bc s : Nat) : Int) := rfl
theorem Su (s0 s1 : ByteArray) (w : World) (o0 : Pn s0) (o1 : Pn s1) (z0 : s0.size ≤ 16000) (z1 : s1.size ≤ 16000) :
  Calls Tryz.prog 202 #[I s0, I s1] w (Re w (I (Bf (Bc s0 * Bc s1)))) := by
 have key : ∀ (x y : ByteArray), Pn x → Pn y → x.size ≤ 16000 → y.size ≤ 16000 → Hid (∀ w1, Calls Tryz.prog 126 #[.agg #[Iz false, I x], .agg #[Iz false, I y]] w1 (Re w1 (.tuple #[.agg #[Iz (Bs ((Bc x : Int) * (Bc y : Int))), I (Bf (Bc x * Bc y))], .int .i64 0]))) := fun x y ox oy zx zy w1 => by
  have := Vt false false x y w1 (Fs ox) (Fs oy) zx zy
  rw [Vu, Vu, Rg] at this
  have e : Bp ((Bc x : Int) * (Bc y : Int)) = Bf (Bc x * Bc y) := by unfold Bp; rw [Int.natAbs_mul]; rfl
  rw [e] at this
  exact this
 by_cases hl : s0.size < s1.size
 ·by_cases h1 : s0 = ⟨#[1]⟩
  ·subst h1
   have e : Bf (Bc ⟨#[1]⟩ * Bc s1) = s1 := by rw [Dr, Nat.one_mul, Cz o1]
   rw [e]
   exact Ux s1 w (by have : (⟨#[1]⟩ : ByteArray).size = 1 := rfl; omega)
  ·have k := key s1 s0 o1 o0 z1 z0
   rw [Nat.mul_comm]
   exact Yo s0 s1 _ _ w (by omega) (Ss h1) (by omega) k
 ·by_cases h1 : s1 = ⟨#[1]⟩
  ·subst h1
   have e : Bf (Bc s0 * Bc ⟨#[1]⟩) = s0 := by rw [Dr, Nat.mul_one, Cz o0]
   rw [e]
   exact Bbp s0 w (by have : (⟨#[1]⟩ : ByteArray).size = 1 := rfl; omega)
  ·exact Yn s0 s1 _ _ w (by omega) (Ss h1) (by omega) (key s0 s1 o0 o1 z0 z1)
theorem Hv (s0 s1 : ByteArray) (w : World) (o0 : Pn s0) (o1 : Pn s1) (z0 : s0.size ≤ 16000) (z1 : s1.size ≤ 16000) (h : 0 < Bc s1) :
  Calls Tryz.prog 201 #[I s0, I s1] w (Re w (.tuple #[I (Bf (Bc s0 / Bc s1)), I (Bf (Bc s0 % Bc s1))])) := by
 refine Qp s0 s1 _ _ (Bs ((Bc s0 : Int) / (Bc s1 : Int))) (Bs ((Bc s0 : Int) % (Bc s1 : Int))) w (by omega) (fun w1 => ?_)
 have := Pq false false s0 s1 w1 (Fs o0) (Fs o1) (by omega) (by omega) h
 rw [Vu, Vu, Rg, Rg] at this
 exact this
theorem Oj {z : Int} {K : Nat} (h : Bd z K) : (Bp z).size ≤ K := h.size
open Go.RowKit
theorem Mv {L : List ByteArray} {k : Nat} (h : k < L.length) : Dt.nprod ((L.take (k + 1)).map Bc) = Dt.nprod ((L.take k).map Bc) * Bc (nt L k) := by
 rw [List.take_add_one, List.getElem?_eq_getElem h, List.map_append, Dt.nprod_append]
 congr 1
 unfold nt
 rw [Jh, List.getElem?_eq_getElem h]
 simp [Dt.nprod]
theorem O1 {L : List ByteArray} (hp : ∀ x ∈ L, 0 < Bc x) (k : Nat) : Dt.nprod ((L.take k).map Bc) ≤ Dt.nprod (L.map Bc) := by
 conv => rhs; rw [← List.take_append_drop k L, List.map_append, Dt.nprod_append]
 refine Nat.le_mul_of_pos_right _ (Dt.nprod_pos fun x hx => ?_)
 rw [List.mem_map] at hx
 obtain ⟨y, hy, rfl⟩ := hx
 exact hp y (List.mem_of_mem_drop hy)
theorem Bd2 {cur : Int} {g : Nat} (hg : 0 < g) (hd : g ∣ cur.natAbs) : Bs (cur / (g : Int)) = Bs cur ∧ Bp (cur / (g : Int)) = Bf (cur.natAbs / g) := by
 have hd' : (g : Int) ∣ cur := Int.ofNat_dvd_left.2 hd
 refine ⟨?_, ?_⟩
 ·unfold Bs
  by_cases c : cur < 0
  ·rw [decide_eq_true c, decide_eq_true (Int.ediv_neg_of_neg_of_pos c (by omega))]
  ·rw [decide_eq_false c, decide_eq_false (by have := Int.ediv_nonneg (a := cur) (b := g) (by omega) (by omega); omega)]
 ·unfold Bp
  rw [Int.natAbs_ediv_of_dvd hd']
  simp
theorem So (N : Int) (v : Value) (L : List ByteArray) (w : World) (hT : Fi w) (hv : RdS w v L) (hL : L.length ≤ 1000) (ho : ∀ x ∈ L, Pn x ∧ 0 < Bc x ∧ x.size ≤ 8000) {K : Nat} (hK : K ≤ 8000) (hN : Bd N K) (hP : Dt.nprod (L.map Bc) < 256 ^ K) :
  Calls Tryz.prog 169 #[.agg #[Iz (Bs N), I (Bp N)], v] w (Re w (qI (mkRat N (Dt.nprod (L.map Bc))))) := by
 obtain ⟨a, cap, rfl, -, -⟩ := id hv
 replace hv := Ba hv
 replace ho := Ba ho
 replace hT := Ba hT
 replace hN := Ba hN
 replace hP := Ba hP
 generalize hM : L.length = m at *
 go_enter Tryz.func169, Tryz.ntmps169
 go_wp2_with fail
 obtain ⟨w1, hw, ka, kr, b1⟩ := Gx w [Iz (Bs N), I (Bp N)] (Bx false eB eB) 24 26
 rw [← hw]
 clear hw
 go_loopw [5, 14] (fun dv i wr => ∃ (k : Nat) (cur : Int) (den e : Nat), k ≤ m ∧ i = .int .i64 k ∧ dv = I (Bf den) ∧ N = cur * e ∧ Dt.nprod ((L.take k).map Bc) = den * e ∧ 0 < e ∧ 0 < den ∧ Nat.gcd cur.natAbs den = 1 ∧ Be wr w.heap.size [Iz (Bs cur), I (Bp cur)] 24 ∧ Be wr (w.heap.size + 1) (Bx false eB eB) 26 ∧ Below w.heap.size w wr) (fun _ i _ => m - (intOf i).toNat)
 case atStart => exact ⟨0, N, 1, 1, by omega, rfl, by rw [Eb], by simp, rfl, by omega, by omega, by simp, ka, kr, b1⟩
 case round =>
  clear ka kr b1
  obtain ⟨k, cur, den, ee, hk, rfl, rfl, i1, i2, i3, i4, i5, ka, kr, bb⟩ := hrel
  by_cases hkn : k < m
  ·have hkL : k < L.length := by omega
   obtain ⟨a', cap', e', -, hc⟩ := hv.out.b bb
   simp only [Value.slice.injEq] at e'
   obtain ⟨rfl, -, rfl⟩ := e'
   obtain ⟨b, off, rfl, h0⟩ := hc k (by omega)
   clear hc
   obtain ⟨od, pd, zd⟩ := ho.out _ (Bgi hkL)
   have hs := Mv hkL
   have hpos : ∀ x ∈ L, 0 < Bc x := fun x hx => (ho.out x hx).2.1
   have lcur : cur.natAbs ≤ N.natAbs := by rw [i1, Int.natAbs_mul]; simpa using Nat.le_mul_of_pos_right cur.natAbs i3
   have bcur : Bd cur K := hN.out.le lcur
   have zcur : (Bp cur).size ≤ K := bcur.size
   have lden : den < 256 ^ K := by
    have h1 := O1 hpos k
    rw [i2] at h1
    have h2 := Nat.le_mul_of_pos_right den i3
    exact Nat.lt_of_le_of_lt (Jf h2 h1) hP.out
   have zden : (Bf den).size ≤ K := Hp lden
   clear lden lcur
   by_cases e1 : nt L k = ⟨#[1]⟩
   ·have F : Hid (Dt.nprod ((L.take (k + 1)).map Bc) = den * ee) := by show _ = _; rw [hs, e1, Dr, Nat.mul_one, i2]
    have e2 := Bhx e1
    replace i1 := Ba i1
    replace i2 := Ba i2
    replace i3 := Ba i3
    replace i4 := Ba i4
    replace i5 := Ba i5
    clear e1 hs zcur zden
    go_wp2
    exact ⟨⟨k + 1, cur, den, ee, by omega, by go_num, rfl, i1.out, F.out, i3.out, i4.out, i5.out, ka, kr, bb⟩, by simp [intOf]; omega⟩
   ·obtain ⟨g, hg⟩ : ∃ g, g = Nat.gcd cur.natAbs (Bc (nt L k)) := ⟨_, rfl⟩
    obtain ⟨f1, f2, f3, f4, f5⟩ := Dt.over_step i1 i2 i3 pd i4 i5 hg
    have g0 : 0 < g := by rw [hg]; exact Nat.gcd_pos_of_pos_right _ pd
    have gn : g ∣ cur.natAbs := by rw [hg]; exact Nat.gcd_dvd_left ..
    have gd : g ∣ Bc (nt L k) := by rw [hg]; exact Nat.gcd_dvd_right ..
    obtain ⟨n1, n2⟩ := Bd2 g0 gn
    have HD := Ba (fun w1 => Hv (Bp cur) (nt L k) w1 (Lk cur) od (by omega) (by omega) pd)
    rw [Db] at HD
    obtain ⟨R, hR⟩ : ∃ R, R = cur.natAbs % Bc (nt L k) := ⟨_, rfl⟩
    rw [← hR] at HD
    have lR : R < Bc (nt L k) := by rw [hR]; exact Nat.mod_lt _ pd
    have zR : (Bf R).size ≤ 8000 := Jf (Hp (Nat.lt_trans lR (Ew _))) zd
    have HG : Hid (∀ w1, Below w.heap.size w w1 → Calls Tryz.prog 124 #[.agg #[Iz false, I (Bf R)], .agg #[Iz false, I (nt L k)]] w1 (Re w1 (.tuple #[.agg #[Iz false, I (Bf g)], .int .i64 0]))) := fun w1 b => by
     have := Pp false false (Bf R) (nt L k) w1 (Fs (Ed R)) (Fs od) (by omega) (by omega) (hT.out.b b)
     have eg : Nat.gcd R (Bc (nt L k)) = g := by rw [hg, hR, Nat.gcd_comm cur.natAbs, Nat.gcd_rec (Bc (nt L k)) cur.natAbs]
     rw [Bu, eg, Rg] at this
     exact this
    have lg : g ≤ Bc (nt L k) := Nat.le_of_dvd pd gd
    have zg : (Bf g).size ≤ 8000 := Jf (Hp (Nat.lt_of_le_of_lt lg (Ew _))) zd
    have H3 := Ba (fun w1 => Hv (Bp cur) (Bf g) w1 (Lk cur) (Ed g) (by omega) (by omega) (by rw [Bu]; exact g0))
    have H4 := Ba (fun w1 => Hv (nt L k) (Bf g) w1 od (Ed g) (by omega) (by omega) (by rw [Bu]; exact g0))
    rw [Db, Bu] at H3
    rw [Bu] at H4
    have zq : (Bf (Bc (nt L k) / g)).size ≤ 8000 := Jf (Hp (Nat.lt_of_le_of_lt (Nat.div_le_self _ _) (Ew _))) zd
    have H5 := Ba (fun w1 => Su (Bf den) (Bf (Bc (nt L k) / g)) w1 (Ed den) (Ed _) (by omega) (by omega))
    rw [Bu, Bu] at H5
    rw [← n2] at H3
    have F : Hid (Dt.nprod ((L.take (k + 1)).map Bc) = den * (Bc (nt L k) / g) * (ee * g)) := by show _ = _; rw [hs, f2]
    have e2 := Bhh e1
    have oX : Hid (nt L k = Bf (Bc (nt L k))) := (Cz od).symm
    have H6 := Ba (fun w1 => Su (Bf den) (nt L k) w1 (Ed den) od (by omega) (by omega))
    rw [Bu] at H6
    replace f1 := Ba f1
    replace f3 := Ba f3
    replace f4 := Ba f4
    replace f5 := Ba f5
    replace n1 := Ba n1
    replace i3 := Ba i3
    clear i1 i2 i4 i5 hs zcur zden f2 hR lR zR lg zg zq gn gd n2 bcur hpos e1 hg g0 pd od zd hkL oX
    obtain ⟨c0, c1⟩ := B7 ka
    go_wp2_with fail
    go_fit (HD.out _)
    rintro e w2 ⟨rfl, b1⟩
    replace ka := ka.b b1
    replace kr := kr.b b1
    replace bb := Ia bb b1
    clear b1 c0 c1 h0
    go_wp2_with fail
    go_fit (HG.out _ bb)
    rintro e w3 ⟨rfl, b1⟩
    replace ka := ka.b b1
    replace kr := kr.b b1
    replace bb := Ia bb b1
    clear b1 HD HG
    by_cases hg1 : g = 1
    ·subst hg1
     have e3 : ((Bf 1).toList == [1]) = true := Bhx Eb
     have F1 : Hid (N = cur * ee ∧ 0 < den * Bc (nt L k) ∧ Nat.gcd cur.natAbs (den * Bc (nt L k)) = 1 ∧ Dt.nprod ((L.take (k + 1)).map Bc) = den * Bc (nt L k) * ee) := by
      have a1 := f1.out
      have a2 := f4.out
      have a3 := f5.out
      have a4 := F.out
      simp only [Nat.mul_one, Nat.div_one, Int.natCast_one, Int.ediv_one] at a1 a2 a3 a4
      exact ⟨by simpa using a1, a2, by simpa using a3, a4⟩
     clear f1 f3 f4 f5 n1 H3 H4 H5 F
     go_wp2_with fail
     go_fit (H6.out _)
     rintro e w4 ⟨rfl, b1⟩
     obtain ⟨-, b1⟩ := Tf b1
     replace ka := ka.b b1
     replace kr := kr.b b1
     replace bb := Ia bb b1
     clear b1 H6
     go_wp2
     exact ⟨⟨k + 1, cur, den * Bc (nt L k), ee, by omega, by go_num, rfl, F1.out.1, F1.out.2.2.2, i3.out, F1.out.2.1, F1.out.2.2.1, ka, kr, bb⟩, by simp [intOf]; omega⟩
    ·have e3 : ((Bf g).toList == [1]) = false := Bhh (fun e => hg1 (by rw [← Bu g, e, Dr]))
     have hne : ¬ w3.heap.size = w.heap.size := by have := ka.lt; omega
     have hne' : ¬ w.heap.size = w3.heap.size := by have := ka.lt; omega
     obtain ⟨c0, c1⟩ := B7 (ka.alloc (.cells #[Iz false, I (Bf g)] 24))
     go_wp2_with fail
     go_fit (H3.out _)
     rintro e w4 ⟨rfl, b1⟩
     obtain ⟨kc, b1⟩ := Tf b1
     replace ka := ka.b b1
     replace kr := kr.b b1
     replace bb := Ia bb b1
     clear b1 H3 c0 c1
     have c1 := C8 ka
     have f1' := Be.o ka 1
     have c2 := C8 kc
     go_wp2_with fail
     obtain ⟨w5, hw⟩ : ∃ x, x = w4.setCell ⟨w.heap.size, 1, none⟩ (I (Bp (cur / (g : Int)))) := ⟨_, rfl⟩
     rw [← hw]
     replace ka := ka.set 1 (I (Bp (cur / (g : Int))))
     replace kr := Be.w (g' := w.heap.size) kr (by omega) 1 (I (Bp (cur / (g : Int))))
     replace bb := Bi (g := w.heap.size) bb (Jb _) 1 (I (Bp (cur / (g : Int))))
     rw [← hw] at ka kr bb
     clear hw c1 f1' c2 kc
     go_fit (H4.out _)
     rintro e w6 ⟨rfl, b1⟩
     replace ka := ka.b b1
     replace kr := kr.b b1
     replace bb := Ia bb b1
     clear b1 H4
     go_wp2_with fail
     go_fit (H5.out _)
     rintro e w7 ⟨rfl, b1⟩
     replace ka := ka.b b1
     replace kr := kr.b b1
     replace bb := Ia bb b1
     clear b1 H5
     have ka' : Hid (Be w7 w.heap.size [Iz (Bs (cur / (g : Int))), I (Bp (cur / (g : Int)))] 24) := by
      show Be _ _ _ _
      rw [n1.out]; exact ka
     clear ka
     go_wp2
     exact ⟨⟨k + 1, cur / (g : Int), den * (Bc (nt L k) / g), ee * g, by omega, by go_num, rfl, f1.out, F.out, f3.out, f4.out, f5.out, ka'.out, kr, bb⟩, by simp [intOf]; omega⟩
  ·obtain rfl : k = m := by omega
   have F : Hid (qI (mkRat N (Dt.nprod (L.map Bc))) = (Bo (Bs cur) (Bp cur) (Bf den))) := by
    show _ = _
    rw [List.take_of_length_le (by omega)] at i2
    obtain ⟨q1, q2⟩ := Dt.over_end i1 i2 i3 i4 i5
    exact Wk ⟨q1, q2⟩ (Rg cur) rfl
   clear i1 i2 i3 i4 i5
   obtain ⟨c0, c1⟩ := B7 ka
   obtain ⟨d0, d1, d2⟩ := Ch kr
   have f0 := Be.o kr 0
   have f1 := Be.o kr 1
   have f2 := Be.o kr 2
   go_wp2
   refine Cu (p := 4) (by kernel_rfl) rfl rfl (((kr.set 0 _).set 1 _).set 2 _) ⟨by rw [F.out], Bi (Bi (Bi bb (by omega) 0 _) (by omega) 1 _) (by omega) 2 _⟩
open Go.RowKit
theorem isE {s : ByteArray} (h : 0 < Bc s) : s.toList.isEmpty = false := by
 have : 0 < s.size := Nat.pos_of_ne_zero fun e => by have := Mm e; omega
 simpa using Dp this
open Go.RowKit
theorem Ba5 (z : Int) {n : Bool} {s : ByteArray} (h : zI z = .agg #[Iz n, I s]) : qI (z : Rat) = (Bo n s ⟨#[1]⟩) :=
 Wk (q := (z : Rat)) (m := 1) ⟨rfl, rfl⟩ h Eb.symm
open Go.RowKit
def Ck (w : World) (g : Nat) (t : TypeId) (n : Nat) (f : Nat → Value) : Prop := ∃ cs : Array Value, w.heap[g]? = some (.cells cs t (0, 0)) ∧ cs.size = n ∧ ∀ i, i < n → cs[i]? = some (f i)
theorem Ck.cell {w : World} {g n : Nat} {t : TypeId} {f : Nat → Value} (h : Ck w g t n f) {i : Nat} (hi : i < n) : w.cell? ⟨g, i, none⟩ = some (f i) := by
 obtain ⟨cs, h1, h2, h3⟩ := h
 simp [World.cell?, h1, h3 i hi]
theorem Ck.o {w : World} {g n : Nat} {t : TypeId} {f : Nat → Value} (h : Ck w g t n f) (i : Nat) : w.frozen? ⟨g, i, none⟩ = false := by
 obtain ⟨cs, h1, h2, h3⟩ := h
 simp [World.frozen?, h1]
theorem Ck.lt {w : World} {g n : Nat} {t : TypeId} {f : Nat → Value} (h : Ck w g t n f) : g < w.heap.size := by
 obtain ⟨cs, h1, -⟩ := h
 by_cases hg : g < w.heap.size
 ·exact hg
 ·rw [Array.getElem?_eq_none (by omega)] at h1; cases h1
theorem Ck.b {w w' : World} {g n : Nat} {t : TypeId} {f : Nat → Value} (h : Ck w g t n f) (hb : Below w.heap.size w w') : Ck w' g t n f := by
 have hl := h.lt
 obtain ⟨cs, h1, h2, h3⟩ := h
 exact ⟨cs, by rw [hb.block g hl]; exact h1, h2, h3⟩
theorem Ck.w {w : World} {g g' n : Nat} {t : TypeId} {f : Nat → Value} (h : Ck w g t n f) (hne : g ≠ g') (j : Nat) (v : Value) : Ck (w.setCell ⟨g', j, none⟩ v) g t n f := by
 obtain ⟨cs, h1, h2, h3⟩ := h
 exact ⟨cs, by rw [Below.heap_setCell _ _ _ _ (by exact hne)]; exact h1, h2, h3⟩
theorem Ck.set {w : World} {g n : Nat} {t : TypeId} {f : Nat → Value} (h : Ck w g t n f) (j : Nat) (v : Value) : Ck (w.setCell ⟨g, j, none⟩ v) g t n (fun i => if i = j then v else f i) := by
 obtain ⟨cs, h1, h2, h3⟩ := h
 refine ⟨cs.setIfInBounds j v, by simp [World.setCell, Array.getElem?_modify, h1], by simp [h2], fun i hi => ?_⟩
 show _ = some (if i = j then v else f i)
 by_cases e : i = j
 ·subst e
  rw [if_pos rfl]
  simp [h2, hi]
 ·rw [if_neg e, Array.getElem?_setIfInBounds_ne (fun q => e q.symm)]
  exact h3 i hi
theorem Ck.congr {w : World} {g n : Nat} {t : TypeId} {f f' : Nat → Value} (h : Ck w g t n f) (he : ∀ i, i < n → f i = f' i) : Ck w g t n f' := by
 obtain ⟨cs, h1, h2, h3⟩ := h
 exact ⟨cs, h1, h2, fun i hi => by rw [← he i hi]; exact h3 i hi⟩
def fz (z : Nat → Int) (i : Nat) : Value := if i % 2 = 0 then Iz (Bs (z (i / 2))) else I (Bp (z (i / 2)))
open Go.RowKit
theorem Bbi : ∃ (nf : Int → Bool) (sf : Int → ByteArray), (∀ z, zI z = .agg #[Iz (nf z), I (sf z)]) ∧ (∀ z, Kj (nf z) (sf z)) ∧ (∀ z k, Bd z k → (sf z).size ≤ k) ∧ (∀ z, Cq (nf z) (sf z) = z) ∧ (∀ z, Bc (sf z) = z.natAbs) ∧ (∀ m : Nat, nf (m : Int) = false) ∧ (∀ m : Nat, sf (m : Int) = Bf m) ∧ (∀ m : Nat, Bc (sf (m : Int)) = m) ∧ (∀ m : Nat, zI (m : Int) = .agg #[Iz false, I (sf (m : Int))]) := by
 obtain ⟨nf, sf, h1, h2, h3, h4, -, h6, h7, h8⟩ := Bhi
 have hn : ∀ m : Nat, nf (m : Int) = false := fun m => by rw [h7]; simp
 exact ⟨nf, sf, h1, h2, h3, h4, h6, hn, fun m => by rw [h8]; rfl, fun m => by rw [h6]; rfl, fun m => by rw [h1, hn]⟩
theorem Bgz {s : ByteArray} {k : Nat} (h : s.size ≤ k) : Bd ((Bc s : Nat) : Int) k := E9 (n := false) h
theorem Dh (s : ByteArray) : Cq false s = ((Bc s : Nat) : Int) := rfl
open Go.RowKit
def Kp (n0 : Bool) (s0 d0 : ByteArray) (n1 : Bool) (s1 d1 : ByteArray) : Nat := if Bt n0 s0 d0 = 0 then Bt n1 s1 d1 else Bt n0 s0 d0
theorem Gq {n0 n1 : Bool} {s0 d0 s1 d1 : ByteArray} : Kp n0 s0 d0 n1 s1 d1 = 0 ↔ Bt n0 s0 d0 = 0 ∧ Bt n1 s1 d1 = 0 := by
 unfold Kp
 by_cases h : Bt n0 s0 d0 = 0
 ·rw [if_pos h]; exact ⟨fun e => ⟨h, e⟩, fun e => e.2⟩
 ·rw [if_neg h]; exact ⟨fun e => absurd e h, fun e => absurd e.1 h⟩
end Go.Proofs.YtnplifkgeeicjaaGreatDoor
