/-
  Package whole: how commonDivisor's rows lie.
  Package whole: commonDivisor.
  Package whole: Gcd.
  Package rat: Cmp, Sign, Of.
  Package long: the contracts of numbers that are not long.
  Package rat: sum and product, of numbers that may be.
  Package rat: divisor, cut.
  Package rat: tooLong, of two texts.
  Blocks by what stands at each place; package vec: cleared.
  Package rat: Check.
  Package rat: Make, walked.
  Package rat: Make, of any two numbers.
-/
import Derived.Test.YtnplifkgeeicjaaGreatDoorU20
import Derived.Test.YtnplifkgeeicjaaGreatDoorU35
import Derived.Test.YtnplifkgeeicjaaGreatDoorU37
import Derived.Test.YtnplifkgeeicjaaGreatDoorU38
set_option maxRecDepth 100000
set_option maxHeartbeats 8000000
namespace Go.Proofs.YtnplifkgeeicjaaGreatDoor
open Go.RowKit Go.Shelf
theorem Grew2.put {g0 g1 ga gb : Nat} {w wr w' : World} (h : Grew2 g0 g1 w wr) (k : Grew2 ga gb wr w') (fa : ga = g0 ∨ ga = g1 ∨ w.heap.size ≤ ga) (fb : gb = g0 ∨ gb = g1 ∨ w.heap.size ≤ gb) : Grew2 g0 g1 w w' :=
 ⟨k.os.trans h.os, k.tape.trans h.tape, k.output.trans h.output, Nat.le_trans h.size k.size, fun i hi h0 h1 => (k.block i (Nat.lt_of_lt_of_le hi h.size) (by omega) (by omega)).trans (h.block i hi h0 h1)⟩
theorem Blk.u64 {w : World} {g : Nat} {ys : List Nat} (h : Blk w g ys) {j : Nat} {v : Value} (hc : w.cell? ⟨g, j, none⟩ = some v) : ∃ n : Int, v = .int .u64 n := by
 by_cases hj : j < ys.length
 ·rw [h.cell hj] at hc
  exact ⟨_, (Option.some.inj hc).symm⟩
 ·unfold Blk at h
  have hn : ys[j]? = none := List.getElem?_eq_none (by omega)
  simp [World.cell?, h, cellsOf, hn] at hc
theorem Tab.grew2 {ga gb : Nat} {w w' : World} {ya yb : List Nat} (h : Tab w) (ka : Blk w ga ya) (kb : Blk w gb yb) (k : Grew2 ga gb w w') : Tab w' := fun j hj => by
 have hc := h j hj
 have hlt := World.block_lt_of_cell? w _ hc
 have na : lays729_ren.g 1 ≠ ga := fun e => by
  rw [e] at hc
  obtain ⟨n, hn⟩ := ka.u64 hc
  cases hn
 have nb : lays729_ren.g 1 ≠ gb := fun e => by
  rw [e] at hc
  obtain ⟨n, hn⟩ := kb.u64 hc
  cases hn
 rw [World.cell?_of_block (w := w) (k.block _ hlt na nb)]
 exact hc
theorem Grew2.of_only {g0 g1 g : Nat} {w wr w' : World} (h : Grew2 g0 g1 w wr) (k : Only g wr w') (f : g = g0 ∨ g = g1 ∨ w.heap.size ≤ g) : Grew2 g0 g1 w w' :=
 h.put (Grew2.left (g' := g) k) f f
theorem Grew2.of_below {g0 g1 : Nat} {w wr w' : World} (h : Grew2 g0 g1 w wr) (k : Below wr.heap.size wr w') : Grew2 g0 g1 w w' := h.trans (Grew2.of k)
structure Rows2 (g0 g1 G : Nat) (w wr : World) (ga gb A B : Nat) (qa qb : List Nat) : Prop where
 ka : Blk wr ga (M.digs B64 A ++ qa)
 kb : Blk wr gb (M.digs B64 B ++ qb)
 ne : ga ≠ gb
 fa : ga = g0 ∨ ga = g1 ∨ w.heap.size ≤ ga
 fb : gb = g0 ∨ gb = g1 ∨ w.heap.size ≤ gb
 cap : (M.digs B64 A).length ≤ (M.digs B64 B ++ qb).length
 le : B ≤ A
 gcd : Nat.gcd A B = G
 size : (M.digs B64 A).length ≤ 4000
 tab : Tab wr
 gr : Grew2 g0 g1 w wr
def slX (g A : Nat) (q : List Nat) : Value := .slice (some ⟨g, 0, none⟩) (M.digs B64 A).length (M.digs B64 A ++ q).length
theorem Rows2.rdA {g0 g1 G : Nat} {w wr : World} {ga gb A B : Nat} {qa qb : List Nat} (h : Rows2 g0 g1 G w wr ga gb A B qa qb) : Rd wr (slX ga A qa) (M.digs B64 A) := Bk.rd (t := 170) h.ka _ (by simp)
theorem Rows2.rdB {g0 g1 G : Nat} {w wr : World} {ga gb A B : Nat} {qa qb : List Nat} (h : Rows2 g0 g1 G w wr ga gb A B qa qb) : Rd wr (slX gb B qb) (M.digs B64 B) := Bk.rd (t := 170) h.kb _ (by simp)
theorem Rows2.below {g0 g1 G : Nat} {w wr w' : World} {ga gb A B : Nat} {qa qb : List Nat} (h : Rows2 g0 g1 G w wr ga gb A B qa qb) (k : Below wr.heap.size wr w') : Rows2 g0 g1 G w w' ga gb A B qa qb :=
 ⟨h.ka.below k, h.kb.below k, h.ne, h.fa, h.fb, h.cap, h.le, h.gcd, h.size, h.tab.below k, h.gr.of_below k⟩
theorem digs_mono' {A B : Nat} (h : B ≤ A) : (M.digs B64 B).length ≤ (M.digs B64 A).length := digs_mono B64_two h
def rowN (v : Value) (w : World) : Nat := match v with
 | .slice (some a) n _ => M.val B64 ((List.range n).map fun j => match w.cell? ⟨a.block, j, none⟩ with | some (.int _ z) => z.toNat | _ => 0)
 | _ => 0
theorem rowN_eq {w : World} {g A : Nat} {q : List Nat} (h : Blk w g (M.digs B64 A ++ q)) : rowN (slX g A q) w = A := by
 have e : ((List.range (M.digs B64 A).length).map fun j => match w.cell? ⟨g, j, none⟩ with | some (.int _ z) => z.toNat | _ => 0) = M.digs B64 A := by
  apply List.ext_getElem
  ·simp
  ·intro i h1 h2
   have hc := h.cell (j := i) (by rw [List.length_append]; omega)
   simp only [List.getElem_map, List.getElem_range, hc]
   simp [lm, List.getElem?_append_left h2, h2]
 show M.val B64 _ = A
 rw [e, M.val_digs B64_two]
theorem Rows2.divided {g0 g1 G : Nat} {w wr w' : World} {ga gb A B : Nat} {qa qb : List Nat} (h : Rows2 g0 g1 G w wr ga gb A B qa qb) (hB : 0 < B)
  (k : Blk w' ga (M.digs B64 (A % B) ++ (M.digs B64 A ++ qa).drop (M.digs B64 (A % B)).length)) (o : Only ga wr w') :
  Rows2 g0 g1 G w w' gb ga B (A % B) qb ((M.digs B64 A ++ qa).drop (M.digs B64 (A % B)).length) := by
 have hlt : A % B < B := Nat.mod_lt _ hB
 refine ⟨?_, k, h.ne.symm, h.fb, h.fa, ?_, by omega, ?_, Nat.le_trans (digs_mono' h.le) h.size, h.tab.grew2 h.ka h.ka (Grew2.left o), h.gr.of_only o h.fa⟩
 ·have := h.kb
  unfold Blk at this ⊢
  rw [o.block gb h.ne.symm]; exact this
 ·have l1 := digs_mono' h.le
  have l2 := digs_mono' (Nat.le_of_lt hlt)
  rw [List.length_append, List.length_drop, List.length_append]
  omega
 ·rw [Nat.gcd_comm, ← Nat.gcd_rec, Nat.gcd_comm]
  exact h.gcd
end Go.Proofs.YtnplifkgeeicjaaGreatDoor
namespace Go.Proofs.YtnplifkgeeicjaaGreatDoor
open Go.RowKit Go.Shelf
theorem val_zeros (b : Nat) : ∀ n, M.val b (List.replicate n 0) = 0
 | 0 => rfl
 | n + 1 => by rw [List.replicate_succ, M.val_cons, val_zeros b n]; simp
theorem low_zeros (n : Nat) : M.Low B64 (List.replicate n 0) := fun x hx => by rw [List.eq_of_mem_replicate hx]; exact B64_pos
theorem cdiv_any (g0 g1 X Y m0 m1 : Nat) (w : World) (hm0 : (M.digs B64 X).length = m0) (hm1 : (M.digs B64 Y).length = m1) (k0 : Blk w g0 (M.digs B64 X)) (k1 : Blk w g1 (M.digs B64 Y)) (h0 : m0 ≤ 4000) (h1 : m1 ≤ 4000) (hT : Tab w) :
  Calls Tryz.prog 172 #[.slice (some ⟨g0, 0, none⟩) m0 m0, .slice (some ⟨g1, 0, none⟩) m1 m1] w fun e w' => ∃ v, e = .returned v ∧ Rd w' v (M.digs B64 (Nat.gcd X Y)) ∧ Grew2 g0 g1 w w' := by
 have HC : Hid (Calls Tryz.prog 198 #[.slice (some ⟨g0, 0, none⟩) m0 m0, .slice (some ⟨g1, 0, none⟩) m1 m1] w (Re w (.tuple #[.int .i64 (cmpN X Y), .int .i64 0]))) := by
  have := cmp_any (.slice (some ⟨g0, 0, none⟩) m0 m0) (.slice (some ⟨g1, 0, none⟩) m1 m1) (M.digs B64 X) (M.digs B64 Y) w (by rw [← hm0]; exact k0.rd0 _ (Nat.le_refl _)) (by rw [← hm1]; exact k1.rd0 _ (Nat.le_refl _)) (M.Low.digs B64_two X) (M.Low.digs B64_two Y) (by omega) (by omega)
  rwa [M.val_digs B64_two, M.val_digs B64_two] at this
 by_cases hXY : X < Y
 ·have c1 : cmpN X Y < 0 := by rw [cmpN_lt hXY]; omega
  generalize cmpN X Y = cc at *
  have HM0 := shut hm0
  have HM1 := shut hm1
  have hle : m0 ≤ m1 := by rw [← hm0, ← hm1]; exact digs_mono' (by omega)
  have RY : Hid (∀ w1, Below w.heap.size w w1 → ∀ w2, Below w1.heap.size w1 w2 → Rd w2 (.slice (some ⟨g0, 0, none⟩) m0 m0) (M.digs B64 X)) := by
   intro w1 b1 w2 b2
   rw [← hm0]
   exact ((k0.below b1).below b2).rd0 _ (Nat.le_refl _)
  have FIT : Hid ((M.digs B64 X).length ≤ m1) := by show _ ≤ _; omega
  clear hm0 hm1
  go_enter Tryz.func172, Tryz.ntmps172
  go_wp2_with fail
  refine (HC.out).mono ?_
  rintro e w1 ⟨rfl, b1⟩
  go_wp2_with (first
   | (at_make; refine wpList_mk2 rfl _ _ rfl _ _ 0 m1 rfl rfl (by omega) (by omega) (by omega) (by omega) ?_; intro w2 kn b2)
   | (at_builtin; refine wpList_appB rfl _ _ rfl w1.heap.size m1 (List.replicate m1 0) (M.digs B64 X) rfl kn (by simp) (.slice (some ⟨g0, 0, none⟩) m0 m0) rfl (RY.out w1 b1 w2 b2) FIT.out ?_; intro w3 kn3 o3))
  have IN : Hid (Rows2 g0 g1 (Nat.gcd X Y) w w3 g1 w1.heap.size Y X [] (List.drop (M.digs B64 X).length (List.replicate m1 0))) := by
   have l0 := k1.lt
   have e1 := b1.size
   have hb3 : Below w1.heap.size w1 w3 := ⟨o3.os.trans b2.os, o3.tape.trans b2.tape, o3.output.trans b2.output, by rw [o3.size]; exact b2.size, fun i hi => (o3.block i (by omega)).trans (b2.block i hi)⟩
   have hbb := Below.after b1 hb3
   refine ⟨by simpa using k1.below hbb, kn3, by omega, Or.inr (Or.inl rfl), Or.inr (Or.inr e1), ?_, by omega, Nat.gcd_comm _ _, by rw [HM1.out]; exact h1, hT.below hbb, Grew2.of hbb⟩
   have := FIT.out
   rw [HM1.out, List.length_append, List.length_drop, List.length_replicate]
   omega
  have V0 : Hid (Value.slice (some ⟨g1, 0, none⟩) m1 m1 = slX g1 Y []) := by
   show _ = _
   unfold slX
   rw [List.append_nil, HM1.out]
  have V1 : Hid (Value.slice (some ⟨w1.heap.size, 0, none⟩) (M.digs B64 X).length m1 = slX w1.heap.size X (List.drop (M.digs B64 X).length (List.replicate m1 0))) := by
   have := FIT.out
   have e : (M.digs B64 X ++ List.drop (M.digs B64 X).length (List.replicate m1 0)).length = m1 := by rw [List.length_append, List.length_drop, List.length_replicate]; omega
   show _ = _
   unfold slX
   rw [e]
  generalize hG : Nat.gcd X Y = G at *
  have HG := shut hG
  clear hG kn3 o3 kn b2 b1 k0 k1 hT HC RY FIT hle
  go_loopw [0, 1] (fun vx vy wr => ∃ ga gb A B qa qb, vx = slX ga A qa ∧ vy = slX gb B qb ∧ Rows2 g0 g1 G w wr ga gb A B qa qb) (fun _ vy wr => rowN vy wr)
  case atStart => exact ⟨_, _, _, _, _, _, V0.out, V1.out, IN.out⟩
  case round =>
   clear V0 V1 IN
   obtain ⟨ga, gb, A, B, qa, qb, rfl, rfl, RR⟩ := hrel
   have ME := shut (rowN_eq RR.kb)
   have R := shut RR
   by_cases hn : 1 < (M.digs B64 B).length
   ·have LS : Hid (Calls Tryz.prog 204 #[slX ga A qa, slX gb B qb] wr fun e w' => ∃ a b c d : Nat, e = .returned (stV a b c d) ∧ a < B64 ∧ b < B64 ∧ c < B64 ∧ d < B64 ∧
      (b = 0 ∨ ∃ X' Y', M.Eu a b c d A B X' Y' ∧ 0 < Y' ∧ Y' < X' ∧ 1 ≤ c ∧ 1 ≤ d) ∧ Below wr.heap.size wr w') := by
     have l1 := digs_mono' RR.le
     have l2 := RR.size
     have := lsteps_any (some ⟨ga, 0, none⟩) (some ⟨gb, 0, none⟩) (M.digs B64 A ++ qa).length (M.digs B64 B ++ qb).length ((M.digs B64 A).length - 1) (M.digs B64 A) (M.digs B64 B) wr RR.rdA RR.rdB (M.Low.digs B64_two A) (M.Low.digs B64_two B) (by omega) (by omega) (by omega) (by omega)
      (by have := M.trim_digs B64_two A ((M.digs B64 A).length - 1) (by omega); unfold lm; omega) (by rw [M.val_digs B64_two, M.val_digs B64_two]; exact RR.le)
     rw [M.val_digs B64_two, M.val_digs B64_two] at this
     exact this
    have hn1 : (1 : Int) < ((M.digs B64 B).length : Nat) := by omega
    have HN := shut hn
    unfold slX at *
    generalize hna : (M.digs B64 A).length = na at *
    generalize hnb : (M.digs B64 B).length = nb at *
    generalize hca : (M.digs B64 A ++ qa).length = ca at *
    generalize hcb : (M.digs B64 B ++ qb).length = cb at *
    have NA := shut hna
    have NB := shut hnb
    have CA := shut hca
    have CB := shut hcb
    clear hna hnb hca hcb RR hn
    go_wp2_with fail
    refine (LS.out).mono ?_
    rintro e w4 ⟨a, b, c, d, rfl, ha, hb, hc, hd, hs, b4⟩
    unfold stV
    have NO := shut (fun w => none_any a b c d w)
    unfold stV at NO
    obtain ⟨w5, hw5⟩ : ∃ w5, w5 = w4.alloc (.cells #[.int .u64 (a : Nat), .int .u64 (b : Nat), .int .u64 (c : Nat), .int .u64 (d : Nat)] 276) := ⟨_, rfl⟩
    have kS : Cel w5 w4.heap.size [.int .u64 (a : Nat), .int .u64 (b : Nat), .int .u64 (c : Nat), .int .u64 (d : Nat)] 276 := by rw [hw5]; exact Cel.new _ _ _
    have b5 : Below w4.heap.size w4 w5 := by rw [hw5]; go_grown
    have lga := (R.out.below b4).ka.lt
    have lgb := (R.out.below b4).kb.lt
    replace R := shut ((R.out.below b4).below b5)
    go_wp2_with fail
    rw [← hw5]
    clear hw5
    refine (NO.out _).mono ?_
    rintro e w6 ⟨rfl, b6⟩
    replace kS := kS.below b6
    replace R := shut (R.out.below b6)
    have s0 := celq0 kS
    have s1 := celq1 kS
    have s2 := celq2 kS
    have s3 := celq3 kS
    have HA := shut ha
    have HB := shut hb
    have HC := shut hc
    have HD := shut hd
    have HS := shut hs
    clear NO LS b4 b5 b6 ha hb hc hd hs
    have hB0 : 0 < B := by
     rcases Nat.eq_zero_or_pos B with e | e
     ·have h2 := HN.out
      have h3 := NB.out
      rw [e, M.digs_zero] at h3
      simp at h3
      omega
     ·exact e
    by_cases hb0 : b = 0
    ·have DM : Hid (Calls Tryz.prog 173 #[.slice (some ⟨ga, 0, none⟩) na ca, .slice (some ⟨gb, 0, none⟩) nb cb] w6 fun e w' => ∃ q r, e = .returned (.tuple #[q, r, .int .i64 0]) ∧ Rd w' r (M.digs B64 (A % B)) ∧ Below w6.heap.size w6 w') := by
      have rA := R.out.rdA
      have rB := R.out.rdB
      unfold slX at rA rB
      rw [NA.out, CA.out] at rA
      rw [NB.out, CB.out] at rB
      have l1 := digs_mono' R.out.le
      refine (divmod_any _ _ _ _ w6 rA rB (M.Low.digs B64_two A) (M.Low.digs B64_two B) R.out.size (Nat.le_trans l1 R.out.size)).mono ?_
      rintro e w' ⟨-, h, hb⟩
      rw [M.val_digs B64_two, M.val_digs B64_two] at h
      obtain ⟨q, r, h1, -, h3⟩ := h hB0
      exact ⟨q, r, h1, h3, hb⟩
     rw [decide_eq_true hb0]
     go_wp2_with fail
     refine (DM.out).mono ?_
     rintro e w7 ⟨q, r, rfl, rr, b7⟩
     replace R := shut (R.out.below b7)
     have KA := shut R.out.ka
     have l3 : (M.digs B64 (A % B)).length ≤ ca := by
      have l1 := digs_mono' (Nat.le_trans (Nat.le_of_lt (Nat.mod_lt A hB0)) R.out.le)
      have := CA.out
      rw [List.length_append] at this
      omega
     have L3 := shut l3
     have RR := shut rr
     obtain ⟨ar, cr, rfl, -, -⟩ := id rr
     clear rr l3 b7 DM
     go_wp2_with (first
      | (at_builtin; refine wpList_appB rfl _ _ rfl ga ca (M.digs B64 A ++ qa) (M.digs B64 (A % B)) rfl KA.out CA.out _ rfl RR.out L3.out ?_; intro w8 k8 o8))
     have e8 : (M.digs B64 (A % B) ++ (M.digs B64 A ++ qa).drop (M.digs B64 (A % B)).length).length = ca := by
      have := L3.out
      have := CA.out
      rw [List.length_append, List.length_drop]
      omega
     refine ⟨⟨gb, ga, B, A % B, qb, (M.digs B64 A ++ qa).drop (M.digs B64 (A % B)).length, by rw [NB.out, CB.out], by rw [e8], R.out.divided hB0 k8 o8⟩, ?_⟩
     have m8 := rowN_eq k8
     unfold slX at m8
     rw [e8] at m8
     rw [m8, ME.out]
     exact Nat.mod_lt A hB0
    ·rw [decide_eq_false hb0]
     have LO : Hid (Calls Tryz.prog 206 #[.slice (some ⟨gb, 0, none⟩) nb cb, .int .i64 (na : Nat)] w6 fun e w' => e = .returned (.slice (some ⟨gb, 0, none⟩) na cb) ∧ Blk w' gb (M.digs B64 B ++ List.replicate (na - nb) 0 ++ qb.drop (na - nb)) ∧ Only gb w6 w') := by
      have l1 := digs_mono' R.out.le
      have l2 := R.out.cap
      have l4 := R.out.size
      have e1 := NA.out
      have e2 := NB.out
      have := longer_any gb (M.digs B64 B) qb na cb w6 R.out.kb (by omega) (by omega) CB.out.symm (by omega)
      rw [NB.out] at this
      exact this
     go_wp2_with fail
     refine (LO.out).mono ?_
     rintro e w7 ⟨rfl, k7, o7⟩
     have kS7 : Cel w7 w4.heap.size [.int .u64 (a : Nat), .int .u64 (b : Nat), .int .u64 (c : Nat), .int .u64 (d : Nat)] 276 := by
      unfold Cel at kS ⊢
      rw [o7.block _ (by omega)]; exact kS
     have ka7 : Blk w7 ga (M.digs B64 A ++ qa) := o7.blk R.out.ka R.out.ne
     have t0 := celq0 kS7
     have t1 := celq1 kS7
     have t2 := celq2 kS7
     have t3 := celq3 kS7
     obtain ⟨X', Y', eu, y0, yx, c1', d1'⟩ : ∃ X' Y', M.Eu a b c d A B X' Y' ∧ 0 < Y' ∧ Y' < X' ∧ 1 ≤ c ∧ 1 ≤ d := by
      rcases HS.out with h | h
      ·exact absurd h hb0
      ·exact h
     have hXA : X' ≤ A := by
      have := eu.x
      have := Nat.mul_le_mul_right X' d1'
      omega
     have hYB : Y' < B := by
      have := eu.y
      have := Nat.mul_le_mul_right X' c1'
      omega
     have ln : (M.digs B64 B ++ List.replicate (na - nb) 0).length = na := by
      have l1 := digs_mono' R.out.le
      rw [NA.out, NB.out] at l1
      rw [List.length_append, List.length_replicate, NB.out]
      omega
     have vB : M.val B64 (M.digs B64 B ++ List.replicate (na - nb) 0) = B := by
      rw [M.val_append, M.val_digs B64_two, val_zeros, Nat.mul_zero, Nat.add_zero]
     have hA : A < B64 ^ na := by
      have := M.val_lt B64_pos (M.Low.digs B64_two A)
      rwa [M.val_digs B64_two, NA.out] at this
     have TK : Hid (Calls Tryz.prog 207 #[.agg #[.int .u64 (a : Nat), .int .u64 (b : Nat), .int .u64 (c : Nat), .int .u64 (d : Nat)], .slice (some ⟨ga, 0, none⟩) na ca, .slice (some ⟨gb, 0, none⟩) na cb] w7 fun e w' =>
       ∃ xs' ys' : List Nat, e = .returned (.tuple #[]) ∧ Blk w' ga (xs' ++ qa) ∧ Blk w' gb (ys' ++ qb.drop (na - nb)) ∧ xs'.length = na ∧ ys'.length = na ∧ M.Low B64 xs' ∧ M.Low B64 ys' ∧ M.val B64 xs' = X' ∧ M.val B64 ys' = Y' ∧ Grew2 ga gb w7 w') := by
      have hca : (M.digs B64 A).length ≤ cb := by
       have := R.out.cap
       rw [CB.out] at this
       exact this
      have := take_walk a b c d ga gb 170 (M.digs B64 A) (M.digs B64 B ++ List.replicate (na - nb) 0) qa (qb.drop (na - nb)) ca na cb w7 ka7 k7 R.out.ne (by rw [ln, NA.out]) HA.out HB.out HC.out HD.out (M.Low.digs B64_two A)
       ((M.Low.digs B64_two B).append (low_zeros _)) hca (by rw [NA.out]; have := R.out.size; rw [NA.out] at this; omega) X' Y'
       (by rw [M.val_digs B64_two, vB]; rcases eu.take with ⟨h, -⟩ | ⟨h, -⟩; exact Or.inl h; exact Or.inr h) (by rw [M.val_digs B64_two, vB]; rcases eu.take with ⟨-, h⟩ | ⟨-, h⟩; exact Or.inr h; exact Or.inl h)
       (by rw [NA.out]; omega) (by rw [NA.out]; omega)
      rw [NA.out] at this
      exact this
     have EU := shut eu
     have HXA := shut hXA
     have HYB := shut hYB
     have YX := shut yx
     clear s0 s1 s2 s3 eu hXA hYB yx c1' d1' ln vB hA LO
     go_wp2_with fail
     refine (TK.out).mono ?_
     rintro e w8 ⟨xs', ys', rfl, k8, k9, n8, n9, lx8, ly8, v8, v9, g8⟩
     have hna4 : na ≤ 4000 := by have := R.out.size; rw [NA.out] at this; exact this
     have lca : na ≤ ca := by have h1 := NA.out; have h2 := CA.out; rw [List.length_append] at h2; omega
     have lcb : na ≤ cb := by have h1 := R.out.cap; rw [NA.out, CB.out] at h1; exact h1
     have SX := shut (shorter_any w8 (some ⟨ga, 0, none⟩) ca xs' (Bk.rd (t := 170) k8 ca (by omega)) lx8 (by omega))
     have SY := shut (shorter_any w8 (some ⟨gb, 0, none⟩) cb ys' (Bk.rd (t := 170) k9 cb (by omega)) ly8 (by omega))
     rw [n8, v8] at SX
     rw [n9, v9] at SY
     have N8 := shut n8
     have N9 := shut n9
     clear n8 n9 v8 v9
     go_wp2_with fail
     refine (SX.out).mono ?_
     rintro e w9 ⟨i1, rfl, li1, t8, rfl⟩
     go_wp2_with fail
     refine (SY.out).mono ?_
     rintro e w10 ⟨i2, rfl, li2, t9, rfl⟩
     have T8 := shut t8
     have T9 := shut t9
     clear t8 t9
     go_wp2
     have d8 : M.digs B64 X' ++ (xs'.drop i1 ++ qa) = xs' ++ qa := by rw [← T8.out, ← List.append_assoc, List.take_append_drop]
     have d9 : M.digs B64 Y' ++ (ys'.drop i2 ++ qb.drop (na - nb)) = ys' ++ qb.drop (na - nb) := by rw [← T9.out, ← List.append_assoc, List.take_append_drop]
     have n1 : (M.digs B64 X').length = i1 := by rw [← T8.out, List.length_take, N8.out]; omega
     have n2 : (M.digs B64 Y').length = i2 := by rw [← T9.out, List.length_take, N9.out]; omega
     have c8 : (xs' ++ qa).length = ca := by
      have h1 := NA.out
      have h2 := CA.out
      rw [List.length_append] at h2 ⊢
      rw [N8.out]
      omega
     have c9 : (ys' ++ qb.drop (na - nb)).length = cb := by
      have h1 := NB.out
      have h2 := CB.out
      have l1 := digs_mono' R.out.le
      rw [NA.out, NB.out] at l1
      rw [List.length_append] at h2 ⊢
      rw [N9.out, List.length_drop]
      omega
     have g7 : Grew2 ga gb w6 w7 := Grew2.right o7
     refine ⟨⟨ga, gb, X', Y', xs'.drop i1 ++ qa, ys'.drop i2 ++ qb.drop (na - nb), by rw [n1, d8, c8], by rw [n2, d9, c9], ?_⟩, ?_⟩
     ·refine ⟨by rw [d8]; exact k8, by rw [d9]; exact k9, R.out.ne, R.out.fa, R.out.fb, by rw [n1, d9, c9]; omega, Nat.le_of_lt YX.out, by rw [EU.out.gcd]; exact R.out.gcd, by omega, ?_, ?_⟩
      ·exact (R.out.tab.grew2 R.out.ka R.out.kb g7).grew2 ka7 k7 g8
      ·exact (R.out.gr.put g7 R.out.fa R.out.fb).put g8 R.out.fa R.out.fb
     ·have m9 := rowN_eq (g := gb) (A := Y') (q := ys'.drop i2 ++ qb.drop (na - nb)) (by rw [d9]; exact k9)
      unfold slX at m9
      rw [n2, d9, c9] at m9
      rw [m9, ME.out]
      exact HYB.out
   ·have hn1 : ¬ (1 : Int) < ((M.digs B64 B).length : Nat) := by omega
    rcases Nat.eq_zero_or_pos B with hB0 | hB0
    ·have z : M.digs B64 B = [] := by rw [hB0, M.digs_zero]
     have rA := RR.rdA
     have gg := RR.gcd
     rw [hB0, Nat.gcd_zero_right] at gg
     have GR := shut RR.gr
     have RA := shut rA
     have GG := shut gg
     clear gg rA R ME RR hn hn1
     unfold slX at *
     rw [z]
     go_wp2_with fail
     go_ret
     exact ⟨_, rfl, by rw [HG.out, ← GG.out]; exact RA.out, GR.out⟩
    ·have lB : B < B64 := by
      have h1 := M.val_lt B64_pos (M.Low.digs B64_two B)
      rw [M.val_digs B64_two] at h1
      have h2 : B64 ^ (M.digs B64 B).length ≤ B64 ^ 1 := Nat.pow_le_pow_right B64_pos (by omega)
      rw [Nat.pow_one] at h2
      omega
     have z : M.digs B64 B = [B] := dig_one (by omega) lB
     have hGd : M.digs B64 (Nat.gcd B (A % B)) = [Nat.gcd B (A % B)] := dig_one (by have := Nat.gcd_pos_of_pos_left (A % B) hB0; omega) (Nat.lt_of_le_of_lt (Nat.le_of_dvd hB0 (Nat.gcd_dvd_left _ _)) lB)
     have gg : Nat.gcd B (A % B) = G := by rw [Nat.gcd_comm, ← Nat.gcd_rec, Nat.gcd_comm]; exact RR.gcd
     have DM : Hid (Calls Tryz.prog 173 #[slX ga A qa, slX gb B qb] wr fun e w' => ∃ q r, e = .returned (.tuple #[q, r, .int .i64 0]) ∧ Rd w' q (M.digs B64 (A / B)) ∧ Rd w' r (M.digs B64 (A % B)) ∧ Below wr.heap.size wr w') := by
      have l1 := digs_mono' RR.le
      refine (divmod_any _ _ _ _ wr RR.rdA RR.rdB (M.Low.digs B64_two A) (M.Low.digs B64_two B) RR.size (Nat.le_trans l1 RR.size)).mono ?_
      rintro e w' ⟨-, h, hb⟩
      rw [M.val_digs B64_two, M.val_digs B64_two] at h
      obtain ⟨q, r, h1, h2, h3⟩ := h hB0
      exact ⟨q, r, h1, h2, h3, hb⟩
     have LD := shut (fun v w => ldiv_both B (A % B) v w hB0 lB (Nat.mod_lt _ hB0))
     have kb := RR.kb
     rw [z] at kb
     have R2 := shut RR
     unfold slX at *
     rw [z] at DM ⊢
     generalize hna : (M.digs B64 A).length = na at *
     generalize hca : (M.digs B64 A ++ qa).length = ca at *
     generalize hcb : ([B] ++ qb).length = cb at *
     have hcb0 : 1 ≤ cb := by rw [← hcb]; simp
     have GG := shut gg
     have HGD := shut hGd
     have ic : ((0 : Nat) : Int) < cb := by omega
     clear hna hca hcb R ME RR hn hn1 gg hGd z
     simp only [List.length_cons, List.length_nil, Nat.zero_add] at *
     go_wp2_with fail
     refine (DM.out).mono ?_
     rintro e w7 ⟨q, r, rfl, rq, rr, b7⟩
     have y0 := (kb.below b7).cell (j := 0) (by simp)
     rw [show lm ([B] ++ qb) 0 = B from rfl] at y0
     have LD2 := shut (LD.out r w7 rr (R2.out.below b7).tab)
     have RR2 := shut (R2.out.below b7)
     obtain ⟨aq, cq, rfl, -, -⟩ := id rq
     obtain ⟨ar, cr, rfl, -, -⟩ := id rr
     clear rr rq b7 LD R2 kb DM
     go_wp2_with fail
     refine (LD2.out).mono ?_
     rintro e w8 ⟨rfl, rfl⟩
     clear LD2 y0
     go_wp2
     go_ret
     refine ⟨_, rfl, ?_, RR2.out.gr.of_below ((Below.refl _ _).alloc (Nat.le_refl _) _)⟩
     rw [HG.out, ← GG.out, HGD.out]
     exact rd1 _ rfl _
 ·have c1 : ¬ cmpN X Y < 0 := by
   rcases Nat.lt_or_ge Y X with h | h
   ·rw [cmpN_gt h]; omega
   ·rw [cmpN_eq (by omega)]; omega
  generalize cmpN X Y = cc at *
  have HM0 := shut hm0
  have HM1 := shut hm1
  have hle : m1 ≤ m0 := by rw [← hm0, ← hm1]; exact digs_mono' (by omega)
  have RY : Hid (∀ w1, Below w.heap.size w w1 → ∀ w2, Below w1.heap.size w1 w2 → Rd w2 (.slice (some ⟨g1, 0, none⟩) m1 m1) (M.digs B64 Y)) := by
   intro w1 b1 w2 b2
   rw [← hm1]
   exact ((k1.below b1).below b2).rd0 _ (Nat.le_refl _)
  have FIT : Hid ((M.digs B64 Y).length ≤ m0) := by show _ ≤ _; omega
  clear hm0 hm1
  go_enter Tryz.func172, Tryz.ntmps172
  go_wp2_with fail
  refine (HC.out).mono ?_
  rintro e w1 ⟨rfl, b1⟩
  go_wp2_with (first
   | (at_make; refine wpList_mk2 rfl _ _ rfl _ _ 0 m0 rfl rfl (by omega) (by omega) (by omega) (by omega) ?_; intro w2 kn b2)
   | (at_builtin; refine wpList_appB rfl _ _ rfl w1.heap.size m0 (List.replicate m0 0) (M.digs B64 Y) rfl kn (by simp) (.slice (some ⟨g1, 0, none⟩) m1 m1) rfl (RY.out w1 b1 w2 b2) FIT.out ?_; intro w3 kn3 o3))
  have IN : Hid (Rows2 g0 g1 (Nat.gcd X Y) w w3 g0 w1.heap.size X Y [] (List.drop (M.digs B64 Y).length (List.replicate m0 0))) := by
   have l0 := k0.lt
   have e1 := b1.size
   have hb3 : Below w1.heap.size w1 w3 := ⟨o3.os.trans b2.os, o3.tape.trans b2.tape, o3.output.trans b2.output, by rw [o3.size]; exact b2.size, fun i hi => (o3.block i (by omega)).trans (b2.block i hi)⟩
   have hbb := Below.after b1 hb3
   refine ⟨by simpa using k0.below hbb, kn3, by omega, Or.inl rfl, Or.inr (Or.inr e1), ?_, by omega, rfl, by rw [HM0.out]; exact h0, hT.below hbb, Grew2.of hbb⟩
   have := FIT.out
   rw [HM0.out, List.length_append, List.length_drop, List.length_replicate]
   omega
  have V0 : Hid (Value.slice (some ⟨g0, 0, none⟩) m0 m0 = slX g0 X []) := by
   show _ = _
   unfold slX
   rw [List.append_nil, HM0.out]
  have V1 : Hid (Value.slice (some ⟨w1.heap.size, 0, none⟩) (M.digs B64 Y).length m0 = slX w1.heap.size Y (List.drop (M.digs B64 Y).length (List.replicate m0 0))) := by
   have := FIT.out
   have e : (M.digs B64 Y ++ List.drop (M.digs B64 Y).length (List.replicate m0 0)).length = m0 := by rw [List.length_append, List.length_drop, List.length_replicate]; omega
   show _ = _
   unfold slX
   rw [e]
  generalize hG : Nat.gcd X Y = G at *
  have HG := shut hG
  clear hG kn3 o3 kn b2 b1 k0 k1 hT HC RY FIT hle
  go_loopw [0, 1] (fun vx vy wr => ∃ ga gb A B qa qb, vx = slX ga A qa ∧ vy = slX gb B qb ∧ Rows2 g0 g1 G w wr ga gb A B qa qb) (fun _ vy wr => rowN vy wr)
  case atStart => exact ⟨_, _, _, _, _, _, V0.out, V1.out, IN.out⟩
  case round =>
   clear V0 V1 IN
   obtain ⟨ga, gb, A, B, qa, qb, rfl, rfl, RR⟩ := hrel
   have ME := shut (rowN_eq RR.kb)
   have R := shut RR
   by_cases hn : 1 < (M.digs B64 B).length
   ·have LS : Hid (Calls Tryz.prog 204 #[slX ga A qa, slX gb B qb] wr fun e w' => ∃ a b c d : Nat, e = .returned (stV a b c d) ∧ a < B64 ∧ b < B64 ∧ c < B64 ∧ d < B64 ∧
      (b = 0 ∨ ∃ X' Y', M.Eu a b c d A B X' Y' ∧ 0 < Y' ∧ Y' < X' ∧ 1 ≤ c ∧ 1 ≤ d) ∧ Below wr.heap.size wr w') := by
     have l1 := digs_mono' RR.le
     have l2 := RR.size
     have := lsteps_any (some ⟨ga, 0, none⟩) (some ⟨gb, 0, none⟩) (M.digs B64 A ++ qa).length (M.digs B64 B ++ qb).length ((M.digs B64 A).length - 1) (M.digs B64 A) (M.digs B64 B) wr RR.rdA RR.rdB (M.Low.digs B64_two A) (M.Low.digs B64_two B) (by omega) (by omega) (by omega) (by omega)
      (by have := M.trim_digs B64_two A ((M.digs B64 A).length - 1) (by omega); unfold lm; omega) (by rw [M.val_digs B64_two, M.val_digs B64_two]; exact RR.le)
     rw [M.val_digs B64_two, M.val_digs B64_two] at this
     exact this
    have hn1 : (1 : Int) < ((M.digs B64 B).length : Nat) := by omega
    have HN := shut hn
    unfold slX at *
    generalize hna : (M.digs B64 A).length = na at *
    generalize hnb : (M.digs B64 B).length = nb at *
    generalize hca : (M.digs B64 A ++ qa).length = ca at *
    generalize hcb : (M.digs B64 B ++ qb).length = cb at *
    have NA := shut hna
    have NB := shut hnb
    have CA := shut hca
    have CB := shut hcb
    clear hna hnb hca hcb RR hn
    go_wp2_with fail
    refine (LS.out).mono ?_
    rintro e w4 ⟨a, b, c, d, rfl, ha, hb, hc, hd, hs, b4⟩
    unfold stV
    have NO := shut (fun w => none_any a b c d w)
    unfold stV at NO
    obtain ⟨w5, hw5⟩ : ∃ w5, w5 = w4.alloc (.cells #[.int .u64 (a : Nat), .int .u64 (b : Nat), .int .u64 (c : Nat), .int .u64 (d : Nat)] 276) := ⟨_, rfl⟩
    have kS : Cel w5 w4.heap.size [.int .u64 (a : Nat), .int .u64 (b : Nat), .int .u64 (c : Nat), .int .u64 (d : Nat)] 276 := by rw [hw5]; exact Cel.new _ _ _
    have b5 : Below w4.heap.size w4 w5 := by rw [hw5]; go_grown
    have lga := (R.out.below b4).ka.lt
    have lgb := (R.out.below b4).kb.lt
    replace R := shut ((R.out.below b4).below b5)
    go_wp2_with fail
    rw [← hw5]
    clear hw5
    refine (NO.out _).mono ?_
    rintro e w6 ⟨rfl, b6⟩
    replace kS := kS.below b6
    replace R := shut (R.out.below b6)
    have s0 := celq0 kS
    have s1 := celq1 kS
    have s2 := celq2 kS
    have s3 := celq3 kS
    have HA := shut ha
    have HB := shut hb
    have HC := shut hc
    have HD := shut hd
    have HS := shut hs
    clear NO LS b4 b5 b6 ha hb hc hd hs
    have hB0 : 0 < B := by
     rcases Nat.eq_zero_or_pos B with e | e
     ·have h2 := HN.out
      have h3 := NB.out
      rw [e, M.digs_zero] at h3
      simp at h3
      omega
     ·exact e
    by_cases hb0 : b = 0
    ·have DM : Hid (Calls Tryz.prog 173 #[.slice (some ⟨ga, 0, none⟩) na ca, .slice (some ⟨gb, 0, none⟩) nb cb] w6 fun e w' => ∃ q r, e = .returned (.tuple #[q, r, .int .i64 0]) ∧ Rd w' r (M.digs B64 (A % B)) ∧ Below w6.heap.size w6 w') := by
      have rA := R.out.rdA
      have rB := R.out.rdB
      unfold slX at rA rB
      rw [NA.out, CA.out] at rA
      rw [NB.out, CB.out] at rB
      have l1 := digs_mono' R.out.le
      refine (divmod_any _ _ _ _ w6 rA rB (M.Low.digs B64_two A) (M.Low.digs B64_two B) R.out.size (Nat.le_trans l1 R.out.size)).mono ?_
      rintro e w' ⟨-, h, hb⟩
      rw [M.val_digs B64_two, M.val_digs B64_two] at h
      obtain ⟨q, r, h1, -, h3⟩ := h hB0
      exact ⟨q, r, h1, h3, hb⟩
     rw [decide_eq_true hb0]
     go_wp2_with fail
     refine (DM.out).mono ?_
     rintro e w7 ⟨q, r, rfl, rr, b7⟩
     replace R := shut (R.out.below b7)
     have KA := shut R.out.ka
     have l3 : (M.digs B64 (A % B)).length ≤ ca := by
      have l1 := digs_mono' (Nat.le_trans (Nat.le_of_lt (Nat.mod_lt A hB0)) R.out.le)
      have := CA.out
      rw [List.length_append] at this
      omega
     have L3 := shut l3
     have RR := shut rr
     obtain ⟨ar, cr, rfl, -, -⟩ := id rr
     clear rr l3 b7 DM
     go_wp2_with (first
      | (at_builtin; refine wpList_appB rfl _ _ rfl ga ca (M.digs B64 A ++ qa) (M.digs B64 (A % B)) rfl KA.out CA.out _ rfl RR.out L3.out ?_; intro w8 k8 o8))
     have e8 : (M.digs B64 (A % B) ++ (M.digs B64 A ++ qa).drop (M.digs B64 (A % B)).length).length = ca := by
      have := L3.out
      have := CA.out
      rw [List.length_append, List.length_drop]
      omega
     refine ⟨⟨gb, ga, B, A % B, qb, (M.digs B64 A ++ qa).drop (M.digs B64 (A % B)).length, by rw [NB.out, CB.out], by rw [e8], R.out.divided hB0 k8 o8⟩, ?_⟩
     have m8 := rowN_eq k8
     unfold slX at m8
     rw [e8] at m8
     rw [m8, ME.out]
     exact Nat.mod_lt A hB0
    ·rw [decide_eq_false hb0]
     have LO : Hid (Calls Tryz.prog 206 #[.slice (some ⟨gb, 0, none⟩) nb cb, .int .i64 (na : Nat)] w6 fun e w' => e = .returned (.slice (some ⟨gb, 0, none⟩) na cb) ∧ Blk w' gb (M.digs B64 B ++ List.replicate (na - nb) 0 ++ qb.drop (na - nb)) ∧ Only gb w6 w') := by
      have l1 := digs_mono' R.out.le
      have l2 := R.out.cap
      have l4 := R.out.size
      have e1 := NA.out
      have e2 := NB.out
      have := longer_any gb (M.digs B64 B) qb na cb w6 R.out.kb (by omega) (by omega) CB.out.symm (by omega)
      rw [NB.out] at this
      exact this
     go_wp2_with fail
     refine (LO.out).mono ?_
     rintro e w7 ⟨rfl, k7, o7⟩
     have kS7 : Cel w7 w4.heap.size [.int .u64 (a : Nat), .int .u64 (b : Nat), .int .u64 (c : Nat), .int .u64 (d : Nat)] 276 := by
      unfold Cel at kS ⊢
      rw [o7.block _ (by omega)]; exact kS
     have ka7 : Blk w7 ga (M.digs B64 A ++ qa) := o7.blk R.out.ka R.out.ne
     have t0 := celq0 kS7
     have t1 := celq1 kS7
     have t2 := celq2 kS7
     have t3 := celq3 kS7
     obtain ⟨X', Y', eu, y0, yx, c1', d1'⟩ : ∃ X' Y', M.Eu a b c d A B X' Y' ∧ 0 < Y' ∧ Y' < X' ∧ 1 ≤ c ∧ 1 ≤ d := by
      rcases HS.out with h | h
      ·exact absurd h hb0
      ·exact h
     have hXA : X' ≤ A := by
      have := eu.x
      have := Nat.mul_le_mul_right X' d1'
      omega
     have hYB : Y' < B := by
      have := eu.y
      have := Nat.mul_le_mul_right X' c1'
      omega
     have ln : (M.digs B64 B ++ List.replicate (na - nb) 0).length = na := by
      have l1 := digs_mono' R.out.le
      rw [NA.out, NB.out] at l1
      rw [List.length_append, List.length_replicate, NB.out]
      omega
     have vB : M.val B64 (M.digs B64 B ++ List.replicate (na - nb) 0) = B := by
      rw [M.val_append, M.val_digs B64_two, val_zeros, Nat.mul_zero, Nat.add_zero]
     have hA : A < B64 ^ na := by
      have := M.val_lt B64_pos (M.Low.digs B64_two A)
      rwa [M.val_digs B64_two, NA.out] at this
     have TK : Hid (Calls Tryz.prog 207 #[.agg #[.int .u64 (a : Nat), .int .u64 (b : Nat), .int .u64 (c : Nat), .int .u64 (d : Nat)], .slice (some ⟨ga, 0, none⟩) na ca, .slice (some ⟨gb, 0, none⟩) na cb] w7 fun e w' =>
       ∃ xs' ys' : List Nat, e = .returned (.tuple #[]) ∧ Blk w' ga (xs' ++ qa) ∧ Blk w' gb (ys' ++ qb.drop (na - nb)) ∧ xs'.length = na ∧ ys'.length = na ∧ M.Low B64 xs' ∧ M.Low B64 ys' ∧ M.val B64 xs' = X' ∧ M.val B64 ys' = Y' ∧ Grew2 ga gb w7 w') := by
      have hca : (M.digs B64 A).length ≤ cb := by
       have := R.out.cap
       rw [CB.out] at this
       exact this
      have := take_walk a b c d ga gb 170 (M.digs B64 A) (M.digs B64 B ++ List.replicate (na - nb) 0) qa (qb.drop (na - nb)) ca na cb w7 ka7 k7 R.out.ne (by rw [ln, NA.out]) HA.out HB.out HC.out HD.out (M.Low.digs B64_two A)
       ((M.Low.digs B64_two B).append (low_zeros _)) hca (by rw [NA.out]; have := R.out.size; rw [NA.out] at this; omega) X' Y'
       (by rw [M.val_digs B64_two, vB]; rcases eu.take with ⟨h, -⟩ | ⟨h, -⟩; exact Or.inl h; exact Or.inr h) (by rw [M.val_digs B64_two, vB]; rcases eu.take with ⟨-, h⟩ | ⟨-, h⟩; exact Or.inr h; exact Or.inl h)
       (by rw [NA.out]; omega) (by rw [NA.out]; omega)
      rw [NA.out] at this
      exact this
     have EU := shut eu
     have HXA := shut hXA
     have HYB := shut hYB
     have YX := shut yx
     clear s0 s1 s2 s3 eu hXA hYB yx c1' d1' ln vB hA LO
     go_wp2_with fail
     refine (TK.out).mono ?_
     rintro e w8 ⟨xs', ys', rfl, k8, k9, n8, n9, lx8, ly8, v8, v9, g8⟩
     have hna4 : na ≤ 4000 := by have := R.out.size; rw [NA.out] at this; exact this
     have lca : na ≤ ca := by have h1 := NA.out; have h2 := CA.out; rw [List.length_append] at h2; omega
     have lcb : na ≤ cb := by have h1 := R.out.cap; rw [NA.out, CB.out] at h1; exact h1
     have SX := shut (shorter_any w8 (some ⟨ga, 0, none⟩) ca xs' (Bk.rd (t := 170) k8 ca (by omega)) lx8 (by omega))
     have SY := shut (shorter_any w8 (some ⟨gb, 0, none⟩) cb ys' (Bk.rd (t := 170) k9 cb (by omega)) ly8 (by omega))
     rw [n8, v8] at SX
     rw [n9, v9] at SY
     have N8 := shut n8
     have N9 := shut n9
     clear n8 n9 v8 v9
     go_wp2_with fail
     refine (SX.out).mono ?_
     rintro e w9 ⟨i1, rfl, li1, t8, rfl⟩
     go_wp2_with fail
     refine (SY.out).mono ?_
     rintro e w10 ⟨i2, rfl, li2, t9, rfl⟩
     have T8 := shut t8
     have T9 := shut t9
     clear t8 t9
     go_wp2
     have d8 : M.digs B64 X' ++ (xs'.drop i1 ++ qa) = xs' ++ qa := by rw [← T8.out, ← List.append_assoc, List.take_append_drop]
     have d9 : M.digs B64 Y' ++ (ys'.drop i2 ++ qb.drop (na - nb)) = ys' ++ qb.drop (na - nb) := by rw [← T9.out, ← List.append_assoc, List.take_append_drop]
     have n1 : (M.digs B64 X').length = i1 := by rw [← T8.out, List.length_take, N8.out]; omega
     have n2 : (M.digs B64 Y').length = i2 := by rw [← T9.out, List.length_take, N9.out]; omega
     have c8 : (xs' ++ qa).length = ca := by
      have h1 := NA.out
      have h2 := CA.out
      rw [List.length_append] at h2 ⊢
      rw [N8.out]
      omega
     have c9 : (ys' ++ qb.drop (na - nb)).length = cb := by
      have h1 := NB.out
      have h2 := CB.out
      have l1 := digs_mono' R.out.le
      rw [NA.out, NB.out] at l1
      rw [List.length_append] at h2 ⊢
      rw [N9.out, List.length_drop]
      omega
     have g7 : Grew2 ga gb w6 w7 := Grew2.right o7
     refine ⟨⟨ga, gb, X', Y', xs'.drop i1 ++ qa, ys'.drop i2 ++ qb.drop (na - nb), by rw [n1, d8, c8], by rw [n2, d9, c9], ?_⟩, ?_⟩
     ·refine ⟨by rw [d8]; exact k8, by rw [d9]; exact k9, R.out.ne, R.out.fa, R.out.fb, by rw [n1, d9, c9]; omega, Nat.le_of_lt YX.out, by rw [EU.out.gcd]; exact R.out.gcd, by omega, ?_, ?_⟩
      ·exact (R.out.tab.grew2 R.out.ka R.out.kb g7).grew2 ka7 k7 g8
      ·exact (R.out.gr.put g7 R.out.fa R.out.fb).put g8 R.out.fa R.out.fb
     ·have m9 := rowN_eq (g := gb) (A := Y') (q := ys'.drop i2 ++ qb.drop (na - nb)) (by rw [d9]; exact k9)
      unfold slX at m9
      rw [n2, d9, c9] at m9
      rw [m9, ME.out]
      exact HYB.out
   ·have hn1 : ¬ (1 : Int) < ((M.digs B64 B).length : Nat) := by omega
    rcases Nat.eq_zero_or_pos B with hB0 | hB0
    ·have z : M.digs B64 B = [] := by rw [hB0, M.digs_zero]
     have rA := RR.rdA
     have gg := RR.gcd
     rw [hB0, Nat.gcd_zero_right] at gg
     have GR := shut RR.gr
     have RA := shut rA
     have GG := shut gg
     clear gg rA R ME RR hn hn1
     unfold slX at *
     rw [z]
     go_wp2_with fail
     go_ret
     exact ⟨_, rfl, by rw [HG.out, ← GG.out]; exact RA.out, GR.out⟩
    ·have lB : B < B64 := by
      have h1 := M.val_lt B64_pos (M.Low.digs B64_two B)
      rw [M.val_digs B64_two] at h1
      have h2 : B64 ^ (M.digs B64 B).length ≤ B64 ^ 1 := Nat.pow_le_pow_right B64_pos (by omega)
      rw [Nat.pow_one] at h2
      omega
     have z : M.digs B64 B = [B] := dig_one (by omega) lB
     have hGd : M.digs B64 (Nat.gcd B (A % B)) = [Nat.gcd B (A % B)] := dig_one (by have := Nat.gcd_pos_of_pos_left (A % B) hB0; omega) (Nat.lt_of_le_of_lt (Nat.le_of_dvd hB0 (Nat.gcd_dvd_left _ _)) lB)
     have gg : Nat.gcd B (A % B) = G := by rw [Nat.gcd_comm, ← Nat.gcd_rec, Nat.gcd_comm]; exact RR.gcd
     have DM : Hid (Calls Tryz.prog 173 #[slX ga A qa, slX gb B qb] wr fun e w' => ∃ q r, e = .returned (.tuple #[q, r, .int .i64 0]) ∧ Rd w' q (M.digs B64 (A / B)) ∧ Rd w' r (M.digs B64 (A % B)) ∧ Below wr.heap.size wr w') := by
      have l1 := digs_mono' RR.le
      refine (divmod_any _ _ _ _ wr RR.rdA RR.rdB (M.Low.digs B64_two A) (M.Low.digs B64_two B) RR.size (Nat.le_trans l1 RR.size)).mono ?_
      rintro e w' ⟨-, h, hb⟩
      rw [M.val_digs B64_two, M.val_digs B64_two] at h
      obtain ⟨q, r, h1, h2, h3⟩ := h hB0
      exact ⟨q, r, h1, h2, h3, hb⟩
     have LD := shut (fun v w => ldiv_both B (A % B) v w hB0 lB (Nat.mod_lt _ hB0))
     have kb := RR.kb
     rw [z] at kb
     have R2 := shut RR
     unfold slX at *
     rw [z] at DM ⊢
     generalize hna : (M.digs B64 A).length = na at *
     generalize hca : (M.digs B64 A ++ qa).length = ca at *
     generalize hcb : ([B] ++ qb).length = cb at *
     have hcb0 : 1 ≤ cb := by rw [← hcb]; simp
     have GG := shut gg
     have HGD := shut hGd
     have ic : ((0 : Nat) : Int) < cb := by omega
     clear hna hca hcb R ME RR hn hn1 gg hGd z
     simp only [List.length_cons, List.length_nil, Nat.zero_add] at *
     go_wp2_with fail
     refine (DM.out).mono ?_
     rintro e w7 ⟨q, r, rfl, rq, rr, b7⟩
     have y0 := (kb.below b7).cell (j := 0) (by simp)
     rw [show lm ([B] ++ qb) 0 = B from rfl] at y0
     have LD2 := shut (LD.out r w7 rr (R2.out.below b7).tab)
     have RR2 := shut (R2.out.below b7)
     obtain ⟨aq, cq, rfl, -, -⟩ := id rq
     obtain ⟨ar, cr, rfl, -, -⟩ := id rr
     clear rr rq b7 LD R2 kb DM
     go_wp2_with fail
     refine (LD2.out).mono ?_
     rintro e w8 ⟨rfl, rfl⟩
     clear LD2 y0
     go_wp2
     go_ret
     refine ⟨_, rfl, ?_, RR2.out.gr.of_below ((Below.refl _ _).alloc (Nat.le_refl _) _)⟩
     rw [HG.out, ← GG.out, HGD.out]
     exact rd1 _ rfl _
end Go.Proofs.YtnplifkgeeicjaaGreatDoor
namespace Go.Proofs.YtnplifkgeeicjaaGreatDoor
open Go.RowKit Go.Shelf
theorem Below.of_grew2 {w w1 w2 w3 : World} {g0 g1 : Nat} (bb : Below w.heap.size w w1) (h2 : Grew2 g0 g1 w1.drew w2) (h3 : Below w2.heap.size w2 w3) (l0 : w.heap.size ≤ g0) (l1 : w.heap.size ≤ g1) : Below w.heap.size w w3 :=
 Below.after (Grew2.below (show Below w.heap.size w w1.drew from bb.drew) h2 bb.size l0 l1) h3
theorem nat_ltK {s : ByteArray} {K : Nat} (h : s.size ≤ 8 * K) : natOf s < B64 ^ K := by
 refine Nat.lt_of_lt_of_le (natOf_lt s) ?_
 rw [B64_pow]
 exact Nat.pow_le_pow_right (by omega) h
theorem digs_leK {s : ByteArray} {K : Nat} (h : s.size ≤ 8 * K) : (M.digs B64 (natOf s)).length ≤ K := M.digs_len_of_lt B64_two (nat_ltK h)
theorem gcd_le_max (a b : Nat) : Nat.gcd a b ≤ max a b := by
 rcases Nat.eq_zero_or_pos a with h | h
 ·rw [h, Nat.gcd_zero_left]; omega
 ·have := Nat.le_of_dvd h (Nat.gcd_dvd_left a b); omega
theorem gcd_ltK {s0 s1 : ByteArray} {K : Nat} (h0 : s0.size ≤ 8 * K) (h1 : s1.size ≤ 8 * K) : Nat.gcd (natOf s0) (natOf s1) < B64 ^ K := by
 have a := nat_ltK h0
 have b := nat_ltK h1
 have c := gcd_le_max (natOf s0) (natOf s1)
 generalize B64 ^ K = P at *
 omega
theorem tellG {s0 s1 : ByteArray} {K : Nat} (hK : K ≤ 4000) (h0 : s0.size ≤ 8 * K) (h1 : s1.size ≤ 8 * K) (v : Value) (wx : World) (hr : Rd wx v (M.digs B64 (Nat.gcd (natOf s0) (natOf s1)))) :
  Calls Tryz.prog 170 #[.agg #[.bool false, v]] wx (Re wx (zI (sgn false (Nat.gcd (natOf s0) (natOf s1))))) := tell_dig false hK (gcd_ltK h0 h1) v wx hr
theorem zgcd_ok (n0 n1 : Bool) (s0 s1 : ByteArray) (w : World) (o0 : OkZ n0 s0) (o1 : OkZ n1 s1) (z0 : s0.size ≤ 32000) (z1 : s1.size ≤ 32000) (hT : Tab w) :
  Calls Tryz.prog 124 #[.agg #[.bool n0, .string s0], .agg #[.bool n1, .string s1]] w (Re w (.tuple #[zI (Nat.gcd (natOf s0) (natOf s1) : Nat), .int .i64 0])) := by
 have HT := shut (tellG (s0 := s0) (s1 := s1) (K := 4000) (by omega) (by omega) (by omega))
 have hz : sgn false (Nat.gcd (natOf s0) (natOf s1)) = ((Nat.gcd (natOf s0) (natOf s1) : Nat) : Int) := rfl
 rw [hz] at HT
 generalize hR : zI ((Nat.gcd (natOf s0) (natOf s1) : Nat) : Int) = R at *
 obtain ⟨za, zb, rfl⟩ : ∃ a b, R = .agg #[.bool a, .string b] := ⟨_, _, hR.symm⟩
 clear hR hz
 go_enter Tryz.func124, Tryz.ntmps124
 go_wp2_with fail
 obtain ⟨w0, hw0, k0, k1, k2, k3, hb0⟩ := boxes4 w (.bool n0) (.string s0) (.bool n1) (.string s1)
 rw [← hw0]
 clear hw0
 refine (read2_own _ n0 n1 s0 s1 w0 k3 o0 o1 z0 z1).mono ?_
 rintro e w1 ⟨g, g0, g1, m0, m1, rfl, kg, e0, e1, r0, r1, hg, hg0, hg1, hb⟩
 have c0 := kg.cell 0
 have c1 := kg.cell 1
 have c2 := kg.cell 2
 have c3 := kg.cell 3
 simp only [List.getElem?_cons_zero, List.getElem?_cons_succ] at c0 c1 c2 c3
 have lt2 := k2.lt
 have m2 := k2.below hb
 have bb := Below.after hb0 hb
 have d0 := digs_leK (s := s0) (K := 4000) (by omega)
 have d1 := digs_leK (s := s1) (K := 4000) (by omega)
 have H55 := shut (cdiv_any g0 g1 (natOf s0) (natOf s1) m0 m1 w1.drew e0 e1 (show Blk w1 _ _ from r0) (show Blk w1 _ _ from r1) (by omega) (by omega) (show Tab w1 from (hT.below hb0).below hb))
 have bs := hb0.size
 clear k0 k1 k2 k3 kg hT e0 e1 r0 r1 d0 d1
 go_wp2
 go_region_with (first | (go_at_call 172; refine (H55.out).mono ?_; rintro e w2 ⟨v, rfl, rv, hb2⟩; obtain ⟨av, cv, rfl, -, -⟩ := id rv) | (go_at_call 170; refine (HT.out _ w2 rv).mono ?_; rintro e w3 ⟨rfl, hb3⟩; have q2 := ((show Cel w1.drew _ _ _ from m2).grew2 hb2 (by omega) (by omega)).below hb3; have e0 := cel2_0 q2; have e1 := cel2_1 q2; have f0 := q2.frozen 0; have f1 := q2.frozen 1))
 all_goals try go_wp2
 all_goals refine post_z1 (p := 4) (u := 5) (by kernel_rfl) rfl rfl rfl ((q2.set 0 _).set 1 _) ⟨rfl, ((Below.of_grew2 bb hb2 hb3 (by omega) (by omega)).setCell (by simp; omega) _).setCell (by simp; omega) _⟩
open Go.RowKit
theorem qI_int (z : Int) {n : Bool} {s : ByteArray} (h : zI z = .agg #[.bool n, .string s]) : qI (z : Rat) = (qa1 n s ⟨#[1]⟩) :=
 qI_of (q := (z : Rat)) (m := 1) ⟨rfl, rfl⟩ h strOf_one.symm
open Go.RowKit
def nfZ (z : Int) : Bool := decide (z < 0)
def sfZ (z : Int) : ByteArray := strOf z.natAbs
open Go.RowKit
theorem named0 : ∃ (nf : Int → Bool) (sf : Int → ByteArray), (∀ z, zI z = .agg #[.bool (nf z), .string (sf z)]) ∧ (∀ z, OkZ (nf z) (sf z)) ∧ (∀ z k, Bd z k → (sf z).size ≤ k) ∧ (∀ z, zOf (nf z) (sf z) = z) ∧ (∀ z, natOf (sf z) = z.natAbs) ∧ (∀ m : Nat, nf (m : Int) = false) ∧ (∀ m : Nat, sf (m : Int) = strOf m) ∧ (∀ m : Nat, natOf (sf (m : Int)) = m) ∧ (∀ m : Nat, zI (m : Int) = .agg #[.bool false, .string (sf (m : Int))]) := by
 obtain ⟨nf, sf, h1, h2, h3, h4, -, h6, h7, h8⟩ := named
 have hn : ∀ m : Nat, nf (m : Int) = false := fun m => by rw [h7]; simp
 exact ⟨nf, sf, h1, h2, h3, h4, h6, hn, fun m => by rw [h8]; rfl, fun m => by rw [h6]; rfl, fun m => by rw [h1, hn]⟩
theorem bd_nat {s : ByteArray} {k : Nat} (h : s.size ≤ k) : Bd ((natOf s : Nat) : Int) k := bd_zOf (n := false) h
theorem zOf_false (s : ByteArray) : zOf false s = ((natOf s : Nat) : Int) := rfl
open Go.RowKit
theorem divisor_plain (n0 n1 : Bool) (s0 s1 : ByteArray) (w : World) (o0 : OkZ n0 s0) (o1 : OkZ n1 s1) (z0 : s0.size ≤ 32000) (z1 : s1.size ≤ 32000) (hT : Tab w) (hne0 : s0 ≠ ⟨#[1]⟩) (hne : s1 ≠ ⟨#[1]⟩) :
  Calls Tryz.prog 196 #[.agg #[.bool n0, .string s0], .agg #[.bool n1, .string s1]] w (Re w (zI ((Nat.gcd (natOf s0) (natOf s1) : Nat) : Int))) := by
 have HA := shut (fun w hT => zgcd_ok n0 n1 s0 s1 w o0 o1 z0 z1 hT)
 generalize hR : zI ((Nat.gcd (natOf s0) (natOf s1) : Nat) : Int) = R at *
 obtain ⟨za, zb, rfl⟩ : ∃ a b, R = .agg #[.bool a, .string b] := ⟨_, _, hR.symm⟩
 clear hR
 have hne0 := ne1 hne0
 have hne := ne1 hne
 go_enter Tryz.func196, Tryz.ntmps196
 go_wp2_with fail
 go_fit (HA.out _ (hT.below (ba (ba (ba (Below.refl _ _) _) _) _)))
 rintro e w1 ⟨rfl, b1⟩
 obtain ⟨ka, kb, kr, b1⟩ := al3 b1
 have bb := b1
 clear b1
 have cr_0 := cel2_0' (kr.alloc (.cells #[.bool za, .string zb] 24))
 have fr_1 := Cel.frozen (kr.alloc (.cells #[.bool za, .string zb] 24)) 0
 have cr_2 := cel2_1' (kr.alloc (.cells #[.bool za, .string zb] 24))
 have fr_3 := Cel.frozen (kr.alloc (.cells #[.bool za, .string zb] 24)) 1
 go_wp2
 have kr' := (kr.alloc (.cells #[.bool za, .string zb] 24))
 exact post_z (p := 4) (by kernel_rfl) rfl rfl ((kr'.set 0 _).set 1 _) ⟨rfl, (Below.setCell (ba bb _) (by simp; omega) _).setCell (by simp; omega) _⟩
theorem divisor_l (n0 n1 : Bool) (s1 : ByteArray) (w : World) :
  Calls Tryz.prog 196 #[.agg #[.bool n0, .string ⟨#[1]⟩], .agg #[.bool n1, .string s1]] w (Re w (.agg #[.bool false, .string ⟨#[1]⟩])) := by
 go_enter Tryz.func196, Tryz.ntmps196
 go_wp2
 obtain ⟨w0, hw, k0, k1, k2, b⟩ := mk3 w [.bool n0, .string ⟨#[1]⟩] [.bool n1, .string s1] [.bool false, .string ⟨#[1]⟩] 24 24 24
 rw [← hw]
 exact post_z (p := 4) (by kernel_rfl) rfl rfl k2 ⟨rfl, b⟩
theorem divisor_r (n0 n1 : Bool) (s0 : ByteArray) (w : World) (hne : s0 ≠ ⟨#[1]⟩) :
  Calls Tryz.prog 196 #[.agg #[.bool n0, .string s0], .agg #[.bool n1, .string ⟨#[1]⟩]] w (Re w (.agg #[.bool false, .string ⟨#[1]⟩])) := by
 have hne := ne1 hne
 go_enter Tryz.func196, Tryz.ntmps196
 go_wp2
 obtain ⟨w0, hw, k0, k1, k2, b⟩ := mk3 w [.bool n0, .string s0] [.bool n1, .string ⟨#[1]⟩] [.bool false, .string ⟨#[1]⟩] 24 24 24
 rw [← hw]
 exact post_z (p := 4) (by kernel_rfl) rfl rfl k2 ⟨rfl, b⟩
theorem divisor_ok (n0 n1 : Bool) (s0 s1 : ByteArray) (w : World) (o0 : OkZ n0 s0) (o1 : OkZ n1 s1) (z0 : s0.size ≤ 32000) (z1 : s1.size ≤ 32000) (hT : Tab w) :
  Calls Tryz.prog 196 #[.agg #[.bool n0, .string s0], .agg #[.bool n1, .string s1]] w (Re w (zI ((Nat.gcd (natOf s0) (natOf s1) : Nat) : Int))) := by
 by_cases h0 : s0 = ⟨#[1]⟩
 ·subst h0
  rw [natOf_one, Nat.gcd_one_left, show (((1 : Nat) : Int)) = 1 from rfl, zI_one]
  exact divisor_l n0 n1 s1 w
 ·by_cases h1 : s1 = ⟨#[1]⟩
  ·subst h1
   rw [natOf_one, Nat.gcd_one_right, show (((1 : Nat) : Int)) = 1 from rfl, zI_one]
   exact divisor_r n0 n1 s0 w h0
  ·exact divisor_plain n0 n1 s0 s1 w o0 o1 z0 z1 hT h0 h1
theorem cut_plain (n0 : Bool) (s0 s1 : ByteArray) (w : World) (o0 : OkZ n0 s0) (o1 : OkS s1) (z0 : s0.size ≤ 16000) (z1 : s1.size ≤ 16000) (hp : 0 < natOf s1) (hne : s1 ≠ ⟨#[1]⟩) :
  Calls Tryz.prog 249 #[.agg #[.bool n0, .string s0], .agg #[.bool false, .string s1]] w (Re w (zI (zOf n0 s0 / (natOf s1 : Int)))) := by
 have HA := shut (fun w => zdiv_ok n0 false s0 s1 w o0 ⟨o1, fun h => by cases h⟩ z0 z1 hp)
 rw [show zOf false s1 = (natOf s1 : Int) from rfl] at HA
 generalize hR : zI (zOf n0 s0 / (natOf s1 : Int)) = R at *
 obtain ⟨za, zb, rfl⟩ : ∃ a b, R = .agg #[.bool a, .string b] := ⟨_, _, hR.symm⟩
 clear hR
 generalize hR : zI (zOf n0 s0 % (natOf s1 : Int)) = R at *
 obtain ⟨zc, zd, rfl⟩ : ∃ a b, R = .agg #[.bool a, .string b] := ⟨_, _, hR.symm⟩
 clear hR
 have hne := ne1 hne
 go_enter Tryz.func249, Tryz.ntmps249
 go_wp2_with fail
 go_fit (HA.out _)
 rintro e w1 ⟨rfl, b1⟩
 obtain ⟨ka, kb, kr, b1⟩ := al3 b1
 have bb := b1
 clear b1
 have cr_0 := cel2_0' (kr.alloc (.cells #[.bool za, .string zb] 24))
 have fr_1 := Cel.frozen (kr.alloc (.cells #[.bool za, .string zb] 24)) 0
 have cr_2 := cel2_1' (kr.alloc (.cells #[.bool za, .string zb] 24))
 have fr_3 := Cel.frozen (kr.alloc (.cells #[.bool za, .string zb] 24)) 1
 have cr_4 := cel2_0' ((kr.alloc (.cells #[.bool za, .string zb] 24)).alloc (.cells #[.bool zc, .string zd] 24))
 have fr_5 := Cel.frozen ((kr.alloc (.cells #[.bool za, .string zb] 24)).alloc (.cells #[.bool zc, .string zd] 24)) 0
 have cr_6 := cel2_1' ((kr.alloc (.cells #[.bool za, .string zb] 24)).alloc (.cells #[.bool zc, .string zd] 24))
 have fr_7 := Cel.frozen ((kr.alloc (.cells #[.bool za, .string zb] 24)).alloc (.cells #[.bool zc, .string zd] 24)) 1
 go_wp2
 have kr' := ((kr.alloc (.cells #[.bool za, .string zb] 24)).alloc (.cells #[.bool zc, .string zd] 24))
 exact post_z (p := 4) (by kernel_rfl) rfl rfl ((kr'.set 0 _).set 1 _) ⟨rfl, (Below.setCell (ba (ba bb _) _) (by simp; omega) _).setCell (by simp; omega) _⟩
theorem cut_one (n0 : Bool) (s0 : ByteArray) (w : World) :
  Calls Tryz.prog 249 #[.agg #[.bool n0, .string s0], .agg #[.bool false, .string ⟨#[1]⟩]] w (Re w (.agg #[.bool n0, .string s0])) := by
 go_enter Tryz.func249, Tryz.ntmps249
 go_wp2
 obtain ⟨w0, hw, k0, k1, k2, b⟩ := mk3 w [.bool n0, .string s0] [.bool false, .string ⟨#[1]⟩] [.bool n0, .string s0] 24 24 24
 rw [← hw]
 exact post_z (p := 4) (by kernel_rfl) rfl rfl k2 ⟨rfl, b⟩
theorem cut_ok (n0 : Bool) (s0 s1 : ByteArray) (w : World) (o0 : OkZ n0 s0) (o1 : OkS s1) (z0 : s0.size ≤ 16000) (z1 : s1.size ≤ 16000) (hp : 0 < natOf s1) :
  Calls Tryz.prog 249 #[.agg #[.bool n0, .string s0], .agg #[.bool false, .string s1]] w (Re w (zI (zOf n0 s0 / (natOf s1 : Int)))) := by
 by_cases h : s1 = ⟨#[1]⟩
 ·subst h
  rw [natOf_one, show (((1 : Nat) : Int)) = 1 from rfl, Int.ediv_one, ← zV_ok o0]
  exact cut_one n0 s0 w
 ·exact cut_plain n0 s0 s1 w o0 o1 z0 z1 hp h
open Go.RowKit
theorem tooLong_no (B : Nat) (s d : ByteArray) (w : World) (hB : Cel w B [.string s, .string d] 22) (hs : s.size ≤ 8000) (hd : d.size ≤ 8000) :
  Calls Tryz.prog 194 #[.slice (some ⟨B, 0, none⟩) 2 2] w (Re w (.bool false)) := by
 have i0 : ¬ (8000 : Int) < s.size := by omega
 have i1 : ¬ (8000 : Int) < d.size := by omega
 obtain ⟨c0, c1⟩ := xk2 hB
 go_enter Tryz.func194, Tryz.ntmps194
 go_wp2
 go_loopw [7] (fun i wr => wr = w ∧ (i = .int .i64 0 ∨ i = .int .i64 1 ∨ i = .int .i64 2)) (fun i _ => 2 - (intOf i).toNat)
 case atStart => exact ⟨rfl, Or.inl rfl⟩
 case round =>
  obtain ⟨rfl, rfl | rfl | rfl⟩ := hrel
  ·go_wp2
   exact ⟨⟨trivial, Or.inr (Or.inl (by go_num))⟩, by simp [intOf]⟩
  ·go_wp2
   exact ⟨⟨trivial, Or.inr (Or.inr (by go_num))⟩, by simp [intOf]⟩
  ·go_wp2
   go_ret
   exact ⟨rfl, Below.refl _ _⟩
theorem tooLong_1 (B : Nat) (s d : ByteArray) (w : World) (hB : Cel w B [.string s, .string d] 22) (hs : 8000 < s.size) :
  Calls Tryz.prog 194 #[.slice (some ⟨B, 0, none⟩) 2 2] w (Re w (.bool true)) := by
 have i0 : (8000 : Int) < s.size := by omega
 obtain ⟨c0, c1⟩ := xk2 hB
 go_enter Tryz.func194, Tryz.ntmps194
 go_wp2
 go_loopw [7] (fun i wr => wr = w ∧ i = .int .i64 0) (fun i _ => 2 - (intOf i).toNat)
 case atStart => exact ⟨rfl, rfl⟩
 case round =>
  obtain ⟨rfl, rfl⟩ := hrel
  go_wp2
  go_ret
  exact ⟨rfl, Below.refl _ _⟩
theorem tooLong_2 (B : Nat) (s d : ByteArray) (w : World) (hB : Cel w B [.string s, .string d] 22) (hs : s.size ≤ 8000) (hd : 8000 < d.size) :
  Calls Tryz.prog 194 #[.slice (some ⟨B, 0, none⟩) 2 2] w (Re w (.bool true)) := by
 have i0 : ¬ (8000 : Int) < s.size := by omega
 have i1 : (8000 : Int) < d.size := by omega
 obtain ⟨c0, c1⟩ := xk2 hB
 go_enter Tryz.func194, Tryz.ntmps194
 go_wp2
 go_loopw [7] (fun i wr => wr = w ∧ (i = .int .i64 0 ∨ i = .int .i64 1)) (fun i _ => 2 - (intOf i).toNat)
 case atStart => exact ⟨rfl, Or.inl rfl⟩
 case round =>
  obtain ⟨rfl, rfl | rfl⟩ := hrel
  ·go_wp2
   exact ⟨⟨trivial, Or.inr (by go_num)⟩, by simp [intOf]⟩
  ·go_wp2
   go_ret
   exact ⟨rfl, Below.refl _ _⟩
theorem tooLong_any (s d : ByteArray) : ∃ t : Bool, (t = true ↔ 8000 < s.size ∨ 8000 < d.size) ∧ ∀ (B : Nat) (w : World) (_ : Cel w B [.string s, .string d] 22),
  Calls Tryz.prog 194 #[.slice (some ⟨B, 0, none⟩) 2 2] w (Re w (.bool t)) := by
 by_cases hs : 8000 < s.size
 ·exact ⟨true, ⟨fun _ => Or.inl hs, fun _ => rfl⟩, fun B w hB => tooLong_1 B s d w hB hs⟩
 ·by_cases hd : 8000 < d.size
  ·exact ⟨true, ⟨fun _ => Or.inr hd, fun _ => rfl⟩, fun B w hB => tooLong_2 B s d w hB (by omega) hd⟩
  ·exact ⟨false, ⟨fun h => (by cases h), fun h => (by omega)⟩, fun B w hB => tooLong_no B s d w hB (by omega) (by omega)⟩
open Go.RowKit
def Cells (w : World) (g : Nat) (t : TypeId) (n : Nat) (f : Nat → Value) : Prop := ∃ cs : Array Value, w.heap[g]? = some (.cells cs t (0, 0)) ∧ cs.size = n ∧ ∀ i, i < n → cs[i]? = some (f i)
theorem Cells.cell {w : World} {g n : Nat} {t : TypeId} {f : Nat → Value} (h : Cells w g t n f) {i : Nat} (hi : i < n) : w.cell? ⟨g, i, none⟩ = some (f i) := by
 obtain ⟨cs, h1, h2, h3⟩ := h
 simp [World.cell?, h1, h3 i hi]
theorem Cells.frozen {w : World} {g n : Nat} {t : TypeId} {f : Nat → Value} (h : Cells w g t n f) (i : Nat) : w.frozen? ⟨g, i, none⟩ = false := by
 obtain ⟨cs, h1, h2, h3⟩ := h
 simp [World.frozen?, h1]
theorem Cells.lt {w : World} {g n : Nat} {t : TypeId} {f : Nat → Value} (h : Cells w g t n f) : g < w.heap.size := by
 obtain ⟨cs, h1, -⟩ := h
 by_cases hg : g < w.heap.size
 ·exact hg
 ·rw [Array.getElem?_eq_none (by omega)] at h1; cases h1
theorem Cells.below {w w' : World} {g n : Nat} {t : TypeId} {f : Nat → Value} (h : Cells w g t n f) (hb : Below w.heap.size w w') : Cells w' g t n f := by
 have hl := h.lt
 obtain ⟨cs, h1, h2, h3⟩ := h
 exact ⟨cs, by rw [hb.block g hl]; exact h1, h2, h3⟩
theorem Cells.set {w : World} {g n : Nat} {t : TypeId} {f : Nat → Value} (h : Cells w g t n f) (j : Nat) (v : Value) : Cells (w.setCell ⟨g, j, none⟩ v) g t n (fun i => if i = j then v else f i) := by
 obtain ⟨cs, h1, h2, h3⟩ := h
 refine ⟨cs.setIfInBounds j v, by simp [World.setCell, Array.getElem?_modify, h1], by simp [h2], fun i hi => ?_⟩
 show _ = some (if i = j then v else f i)
 by_cases e : i = j
 ·subst e
  rw [if_pos rfl]
  simp [h2, hi]
 ·rw [if_neg e, Array.getElem?_setIfInBounds_ne (fun q => e q.symm)]
  exact h3 i hi
theorem Cells.congr {w : World} {g n : Nat} {t : TypeId} {f f' : Nat → Value} (h : Cells w g t n f) (he : ∀ i, i < n → f i = f' i) : Cells w g t n f' := by
 obtain ⟨cs, h1, h2, h3⟩ := h
 exact ⟨cs, h1, h2, fun i hi => by rw [← he i hi]; exact h3 i hi⟩
def fz (z : Nat → Int) (i : Nat) : Value := if i % 2 = 0 then .bool (nfZ (z (i / 2))) else .string (sfZ (z (i / 2)))
open Go.RowKit
theorem fld1 (n : Bool) (s : ByteArray) (w : World) : (Instr.field 24 (.agg #[.bool n, .string s]) 1).run Tryz.prog w = .ok (.string s) w := by kernel_rfl
theorem rchk_long (n : Bool) (s d : ByteArray) (w : World)
  (HL : Hid (∀ (B : Nat) (w : World) (_ : Cel w B [.string s, .string d] 22), Calls Tryz.prog 194 #[.slice (some ⟨B, 0, none⟩) 2 2] w (Re w (.bool true)))) :
  Calls Tryz.prog 163 #[(qa1 n s d)] w (Re w (.int .i64 5)) := by
 go_enter Tryz.func163, Tryz.ntmps163
 go_wp2_with fail
 obtain ⟨w0, hw, k0, k1, bb⟩ := mk2 w (ql1 n s d) [.string s, .string d] 26 22
 rw [← hw]
 clear hw
 go_fit (HL.out _ w0 k1)
 rintro e w1 ⟨rfl, b1⟩
 replace k0 := k0.below b1
 replace bb := Below.after bb b1
 clear b1 k1
 go_wp2
 go_ret
 exact ⟨rfl, bb⟩
theorem rchk_num (n : Bool) (s d : ByteArray) (w : World) (c : Int) (hc : ¬ c = 0)
  (HL : Hid (∀ (B : Nat) (w : World) (_ : Cel w B [.string s, .string d] 22), Calls Tryz.prog 194 #[.slice (some ⟨B, 0, none⟩) 2 2] w (Re w (.bool false))))
  (HC : Hid (∀ w1, Calls Tryz.prog 195 #[.agg #[.bool n, .string s]] w1 (Re w1 (.int .i64 c)))) :
  Calls Tryz.prog 163 #[(qa1 n s d)] w (Re w (.int .i64 c)) := by
 go_enter Tryz.func163, Tryz.ntmps163
 go_wp2_with fail
 obtain ⟨w0, hw, k0, k1, bb⟩ := mk2 w (ql1 n s d) [.string s, .string d] 26 22
 rw [← hw]
 clear hw
 go_fit (HL.out _ w0 k1)
 rintro e w1 ⟨rfl, b1⟩
 replace k0 := k0.below b1
 replace bb := Below.after bb b1
 clear b1 k1
 obtain ⟨c0, c1, c2⟩ := xk3 k0
 go_wp2_with fail
 go_fit (HC.out _)
 rintro e w2 ⟨rfl, b1⟩
 replace k0 := k0.below b1
 replace bb := Below.after bb b1
 clear b1 c0 c1 c2
 go_wp2
 go_ret
 exact ⟨rfl, bb⟩
theorem rchk_ok (n zn : Bool) (s d zs : ByteArray) (w : World) (hd : 0 < d.size) (hd0 : ¬ lm (byts d) 0 = 0)
  (HL : Hid (∀ (B : Nat) (w : World) (_ : Cel w B [.string s, .string d] 22), Calls Tryz.prog 194 #[.slice (some ⟨B, 0, none⟩) 2 2] w (Re w (.bool false))))
  (HC : Hid (∀ w1, Calls Tryz.prog 195 #[.agg #[.bool n, .string s]] w1 (Re w1 (.int .i64 0))))
  (HV : Hid (∀ w1, Below w.heap.size w w1 → Calls Tryz.prog 196 #[.agg #[.bool n, .string s], .agg #[.bool false, .string d]] w1 (Re w1 (.agg #[.bool zn, .string zs]))))
  (hz : (zs.toList == [1]) = true) :
  Calls Tryz.prog 163 #[(qa1 n s d)] w (Re w (.int .i64 0)) := by
 have g1 : ¬ ((d[0]).toNat : Int) = 0 := by rw [byts_at d 0 hd]; omega
 have g2 : ¬ d[0] = 0 := fun h => g1 (by rw [h]; rfl)
 have g4 := toList_ne hd
 have g5 : d.toList.isEmpty = false := by simpa using g4
 have g6 : (0 : Int) < d.size := by omega
 clear hd0
 have g7 : (((d[0]).toNat : Int) == 0) = false := by simpa using g1
 have gf := fld1 zn zs
 go_enter Tryz.func163, Tryz.ntmps163
 go_wp2_with fail
 obtain ⟨w0, hw, k0, k1, bb⟩ := mk2 w (ql1 n s d) [.string s, .string d] 26 22
 rw [← hw]
 clear hw
 go_fit (HL.out _ w0 k1)
 rintro e w1 ⟨rfl, b1⟩
 replace k0 := k0.below b1
 replace bb := Below.after bb b1
 clear b1 k1
 obtain ⟨c0, c1, c2⟩ := xk3 k0
 go_wp2_with fail
 go_fit (HC.out _)
 rintro e w2 ⟨rfl, b1⟩
 replace k0 := k0.below b1
 replace bb := Below.after bb b1
 clear b1 c0 c1 c2
 go_wp2
 refine wp_region_held_drew (S := (fun w' => xc3 w' w.heap.size (.bool n) (.string s) (.string d))) (by kernel_rfl) ?_ (fun hHeld => ?_)
 ·exact (xk3 k0)
 refine tq 0 rfl ?_
 refine tq 1 rfl ?_
 refine tq 2 rfl ?_
 refine tq 3 rfl ?_
 refine tq 4 rfl ?_
 refine tq 5 rfl ?_
 refine tq 6 rfl ?_
 refine tq 7 rfl ?_
 refine tq 8 rfl ?_
 refine tq 9 rfl ?_
 refine tq 10 rfl ?_
 refine tq 11 rfl ?_
 refine tq 12 rfl ?_
 refine wpAnyH_ready (rs := [13]) (by kernel_rfl) (by simp) ?_
 refine AllReadyH.cons (o := _) rfl (fun K hK => ?_) AllReadyH.nil
 go_simp
 go_fit (den_any _ _ _ _)
 rintro e wn ⟨rfl, bn⟩
 replace k0 := k0.below (un bn)
 replace bb := Below.after bb (un bn)
 clear bn
 try go_wp2_with fail
 refine hK.out _ _ ?_ (fun hHeld => ?_)
 ·exact (xk3 k0)
 clear hK K
 try simp only [ly]
 refine wpAnyH_ready (rs := [14]) (by kernel_rfl) (by simp) ?_
 refine AllReadyH.cons (o := _) rfl (fun K hK => ?_) AllReadyH.nil
 go_simp
 go_fit (HV.out _ ?_)
 ·first | exact bb | exact bb.drew
 rintro e wn ⟨rfl, bn⟩
 replace k0 := k0.below (un bn)
 replace bb := Below.after bb (un bn)
 clear bn
 try go_wp2_with fail
 refine hK.out _ _ ?_ (fun hHeld => ?_)
 ·exact (xk3 k0)
 clear hK K
 try simp only [ly]
 refine tq 15 rfl ?_
 refine tq 16 rfl ?_
 refine tq 17 rfl ?_
 refine wpAnyH_done (by kernel_rfl) ?_ _
 go_wp2
 go_ret
 exact ⟨rfl, bb⟩
theorem rchk_gcd (n zn : Bool) (s d zs : ByteArray) (w : World) (hd : 0 < d.size) (hd0 : ¬ lm (byts d) 0 = 0)
  (HL : Hid (∀ (B : Nat) (w : World) (_ : Cel w B [.string s, .string d] 22), Calls Tryz.prog 194 #[.slice (some ⟨B, 0, none⟩) 2 2] w (Re w (.bool false))))
  (HC : Hid (∀ w1, Calls Tryz.prog 195 #[.agg #[.bool n, .string s]] w1 (Re w1 (.int .i64 0))))
  (HV : Hid (∀ w1, Below w.heap.size w w1 → Calls Tryz.prog 196 #[.agg #[.bool n, .string s], .agg #[.bool false, .string d]] w1 (Re w1 (.agg #[.bool zn, .string zs]))))
  (hz : (zs.toList == [1]) = false) :
  Calls Tryz.prog 163 #[(qa1 n s d)] w (Re w (.int .i64 1)) := by
 have g1 : ¬ ((d[0]).toNat : Int) = 0 := by rw [byts_at d 0 hd]; omega
 have g2 : ¬ d[0] = 0 := fun h => g1 (by rw [h]; rfl)
 have g4 := toList_ne hd
 have g5 : d.toList.isEmpty = false := by simpa using g4
 have g6 : (0 : Int) < d.size := by omega
 clear hd0
 have g7 : (((d[0]).toNat : Int) == 0) = false := by simpa using g1
 have gf := fld1 zn zs
 go_enter Tryz.func163, Tryz.ntmps163
 go_wp2_with fail
 obtain ⟨w0, hw, k0, k1, bb⟩ := mk2 w (ql1 n s d) [.string s, .string d] 26 22
 rw [← hw]
 clear hw
 go_fit (HL.out _ w0 k1)
 rintro e w1 ⟨rfl, b1⟩
 replace k0 := k0.below b1
 replace bb := Below.after bb b1
 clear b1 k1
 obtain ⟨c0, c1, c2⟩ := xk3 k0
 go_wp2_with fail
 go_fit (HC.out _)
 rintro e w2 ⟨rfl, b1⟩
 replace k0 := k0.below b1
 replace bb := Below.after bb b1
 clear b1 c0 c1 c2
 go_wp2
 refine wp_region_held_drew (S := (fun w' => xc3 w' w.heap.size (.bool n) (.string s) (.string d))) (by kernel_rfl) ?_ (fun hHeld => ?_)
 ·exact (xk3 k0)
 refine tq 0 rfl ?_
 refine tq 1 rfl ?_
 refine tq 2 rfl ?_
 refine tq 3 rfl ?_
 refine tq 4 rfl ?_
 refine tq 5 rfl ?_
 refine tq 6 rfl ?_
 refine tq 7 rfl ?_
 refine tq 8 rfl ?_
 refine tq 9 rfl ?_
 refine tq 10 rfl ?_
 refine tq 11 rfl ?_
 refine tq 12 rfl ?_
 refine wpAnyH_ready (rs := [13]) (by kernel_rfl) (by simp) ?_
 refine AllReadyH.cons (o := _) rfl (fun K hK => ?_) AllReadyH.nil
 go_simp
 go_fit (den_any _ _ _ _)
 rintro e wn ⟨rfl, bn⟩
 replace k0 := k0.below (un bn)
 replace bb := Below.after bb (un bn)
 clear bn
 try go_wp2_with fail
 refine hK.out _ _ ?_ (fun hHeld => ?_)
 ·exact (xk3 k0)
 clear hK K
 try simp only [ly]
 refine wpAnyH_ready (rs := [14]) (by kernel_rfl) (by simp) ?_
 refine AllReadyH.cons (o := _) rfl (fun K hK => ?_) AllReadyH.nil
 go_simp
 go_fit (HV.out _ ?_)
 ·first | exact bb | exact bb.drew
 rintro e wn ⟨rfl, bn⟩
 replace k0 := k0.below (un bn)
 replace bb := Below.after bb (un bn)
 clear bn
 try go_wp2_with fail
 refine hK.out _ _ ?_ (fun hHeld => ?_)
 ·exact (xk3 k0)
 clear hK K
 try simp only [ly]
 refine tq 15 rfl ?_
 refine tq 16 rfl ?_
 refine tq 17 rfl ?_
 refine wpAnyH_done (by kernel_rfl) ?_ _
 go_wp2
 go_ret
 exact ⟨rfl, bb⟩
theorem rchk_empty (n : Bool) (s : ByteArray) (w : World)
  (HL : Hid (∀ (B : Nat) (w : World) (_ : Cel w B [.string s, .string ByteArray.empty] 22), Calls Tryz.prog 194 #[.slice (some ⟨B, 0, none⟩) 2 2] w (Re w (.bool false))))
  (HC : Hid (∀ w1, Calls Tryz.prog 195 #[.agg #[.bool n, .string s]] w1 (Re w1 (.int .i64 0)))) :
  Calls Tryz.prog 163 #[(qa1 n s ByteArray.empty)] w (Re w (.int .i64 1)) := by
 go_enter Tryz.func163, Tryz.ntmps163
 go_wp2_with fail
 obtain ⟨w0, hw, k0, k1, bb⟩ := mk2 w (ql1 n s ByteArray.empty) [.string s, .string ByteArray.empty] 26 22
 rw [← hw]
 clear hw
 go_fit (HL.out _ w0 k1)
 rintro e w1 ⟨rfl, b1⟩
 replace k0 := k0.below b1
 replace bb := Below.after bb b1
 clear b1 k1
 obtain ⟨c0, c1, c2⟩ := xk3 k0
 go_wp2_with fail
 go_fit (HC.out _)
 rintro e w2 ⟨rfl, b1⟩
 replace k0 := k0.below b1
 replace bb := Below.after bb b1
 clear b1 c0 c1 c2
 go_wp2
 refine wp_region_held_drew (S := (fun w' => xc3 w' w.heap.size (.bool n) (.string s) (.string ByteArray.empty))) (by kernel_rfl) ?_ (fun hHeld => ?_)
 ·exact (xk3 k0)
 refine tq 0 rfl ?_
 refine tq 1 rfl ?_
 refine tq 2 rfl ?_
 refine tq 3 rfl ?_
 refine tu 4 rfl ?_
 refine tu 5 rfl ?_
 refine tu 6 rfl ?_
 refine tu 7 rfl ?_
 refine tq 8 rfl ?_
 refine tq 9 rfl ?_
 refine tu 10 rfl ?_
 refine tu 11 rfl ?_
 refine tu 12 rfl ?_
 refine tu 13 rfl ?_
 refine tu 14 rfl ?_
 refine tu 15 rfl ?_
 refine tu 16 rfl ?_
 refine tq 17 rfl ?_
 refine wpAnyH_done (by kernel_rfl) ?_ _
 go_wp2
 go_ret
 exact ⟨rfl, bb.drew⟩
theorem rchk_zero (n : Bool) (s d : ByteArray) (w : World) (hd : 0 < d.size) (hd0 : lm (byts d) 0 = 0)
  (HL : Hid (∀ (B : Nat) (w : World) (_ : Cel w B [.string s, .string d] 22), Calls Tryz.prog 194 #[.slice (some ⟨B, 0, none⟩) 2 2] w (Re w (.bool false))))
  (HC : Hid (∀ w1, Calls Tryz.prog 195 #[.agg #[.bool n, .string s]] w1 (Re w1 (.int .i64 0)))) :
  Calls Tryz.prog 163 #[(qa1 n s d)] w (Re w (.int .i64 1)) := by
 have g1 : ((d[0]).toNat : Int) = 0 := by rw [byts_at d 0 hd, hd0]; rfl
 have g3 : (d[0]).toNat = 0 := by omega
 have g2 : d[0] = 0 := UInt8.toNat.inj g3
 have g4 := toList_ne hd
 have g5 : d.toList.isEmpty = false := by simpa using g4
 have g6 : (0 : Int) < d.size := by omega
 clear hd0
 have g7 : (((d[0]).toNat : Int) == 0) = true := by simpa using g1
 go_enter Tryz.func163, Tryz.ntmps163
 go_wp2_with fail
 obtain ⟨w0, hw, k0, k1, bb⟩ := mk2 w (ql1 n s d) [.string s, .string d] 26 22
 rw [← hw]
 clear hw
 go_fit (HL.out _ w0 k1)
 rintro e w1 ⟨rfl, b1⟩
 replace k0 := k0.below b1
 replace bb := Below.after bb b1
 clear b1 k1
 obtain ⟨c0, c1, c2⟩ := xk3 k0
 go_wp2_with fail
 go_fit (HC.out _)
 rintro e w2 ⟨rfl, b1⟩
 replace k0 := k0.below b1
 replace bb := Below.after bb b1
 clear b1 c0 c1 c2
 go_wp2
 refine wp_region_held_drew (S := (fun w' => xc3 w' w.heap.size (.bool n) (.string s) (.string d))) (by kernel_rfl) ?_ (fun hHeld => ?_)
 ·exact (xk3 k0)
 refine tq 0 rfl ?_
 refine tq 1 rfl ?_
 refine tq 2 rfl ?_
 refine tq 3 rfl ?_
 refine tq 4 rfl ?_
 refine tq 5 rfl ?_
 refine tq 6 rfl ?_
 refine tq 7 rfl ?_
 refine tq 8 rfl ?_
 refine tq 9 rfl ?_
 refine tu 10 rfl ?_
 refine tu 11 rfl ?_
 refine tu 12 rfl ?_
 refine tu 13 rfl ?_
 refine tu 14 rfl ?_
 refine tu 15 rfl ?_
 refine tu 16 rfl ?_
 refine tq 17 rfl ?_
 refine wpAnyH_done (by kernel_rfl) ?_ _
 go_wp2
 go_ret
 exact ⟨rfl, bb.drew⟩
theorem rchk_any (n : Bool) (s d : ByteArray) (w : World) (hT : Tab w) :
  Calls Tryz.prog 163 #[(qa1 n s d)] w (Re w (.int .i64 (chkq n s d : Nat))) := by
 obtain ⟨t, ht, hL⟩ := tooLong_any s d
 by_cases hl : 8000 < s.size ∨ 8000 < d.size
 ·obtain rfl := ht.2 hl
  rw [show chkq n s d = 5 by unfold chkq; rw [if_pos hl]]
  exact rchk_long n s d w (shut hL)
 ·obtain rfl : t = false := by
   cases t with
   | false => rfl
   | true => exact absurd (ht.1 rfl) hl
  have hs : s.size ≤ 8000 := by omega
  have hdl : d.size ≤ 8000 := by omega
  by_cases hc : chk n s = 0
  ·have HC : Hid (∀ w1, Calls Tryz.prog 195 #[.agg #[.bool n, .string s]] w1 (Re w1 (.int .i64 0))) := by
    intro w1
    have := check_any n s w1
    rw [hc] at this
    exact this
   have o := (chk_ok (by omega)).1 hc
   by_cases hd : 0 < d.size
   ·by_cases h0 : lm (byts d) 0 = 0
    ·rw [show chkq n s d = 1 by unfold chkq; rw [if_neg hl, if_pos (Or.inr (Or.inr (Or.inl h0)))]]
     exact rchk_zero n s d w hd h0 (shut hL) HC
    ·have od : OkS d := fun _ => h0
     have HV : Hid (∀ w1, Below w.heap.size w w1 → Calls Tryz.prog 196 #[.agg #[.bool n, .string s], .agg #[.bool false, .string d]] w1 (Re w1 (zI ((Nat.gcd (natOf s) (natOf d) : Nat) : Int)))) :=
      fun w1 b => divisor_ok n false s d w1 o ⟨od, fun h => by cases h⟩ (by omega) (by omega) (hT.below b)
     have e : zI ((Nat.gcd (natOf s) (natOf d) : Nat) : Int) = .agg #[.bool false, .string (strOf (Nat.gcd (natOf s) (natOf d)))] := by
      show zV _ _ = _
      rw [Int.natAbs_natCast, show decide ((((Nat.gcd (natOf s) (natOf d) : Nat)) : Int) < 0) = false by simp]
      rfl
     rw [e] at HV
     by_cases hg : Nat.gcd (natOf s) (natOf d) = 1
     ·rw [chkq_ok ⟨o, od, natOf_pos od hd, hg⟩ hs hdl]
      exact rchk_ok n _ s d _ w hd h0 (shut hL) HC HV (eq1 (by rw [hg, strOf_one]))
     ·rw [show chkq n s d = 1 by unfold chkq; rw [if_neg hl, if_pos (Or.inr (Or.inr (Or.inr hg)))]]
      exact rchk_gcd n _ s d _ w hd h0 (shut hL) HC HV (ne1 fun h => hg (by
       have := natOf_strOf (Nat.gcd (natOf s) (natOf d))
       rw [h, natOf_one] at this
       exact this.symm))
   ·have g3 : d = ByteArray.empty := ByteArray.size_eq_zero_iff.1 (by omega)
    subst g3
    rw [show chkq n s ByteArray.empty = 1 by unfold chkq; rw [if_neg hl, if_pos (Or.inr (Or.inl (show ByteArray.empty.size = 0 from rfl)))]]
    exact rchk_empty n s w (shut hL) HC
  ·have h1 : chk n s = 1 := by
    unfold chk at hc ⊢
    rw [if_neg (by omega)] at hc ⊢
    split at hc
    ·rw [if_pos (by assumption)]
    ·exact absurd rfl hc
   have HC : Hid (∀ w1, Calls Tryz.prog 195 #[.agg #[.bool n, .string s]] w1 (Re w1 (.int .i64 1))) := by
    intro w1
    have := check_any n s w1
    rw [h1] at this
    exact this
   rw [show chkq n s d = 1 by unfold chkq; rw [if_neg hl, if_pos (Or.inl hc)]]
   exact rchk_num n s d w 1 (by omega) (shut hL) HC
open Go.RowKit
theorem make_some (n0 n1 gN pN qN : Bool) (s0 s1 gS pS qS : ByteArray) (w : World) (h1 : s1.toList.isEmpty = false) (h0 : s0.toList.isEmpty = false)
  (HL : Hid (∀ (B : Nat) (w : World) (_ : Cel w B [.string s0, .string s1] 22), Calls Tryz.prog 194 #[.slice (some ⟨B, 0, none⟩) 2 2] w (Re w (.bool false))))
  (C0 : Hid (∀ w1, Calls Tryz.prog 195 #[.agg #[.bool n0, .string s0]] w1 (Re w1 (.int .i64 0))))
  (C1 : Hid (∀ w1, Calls Tryz.prog 195 #[.agg #[.bool n1, .string s1]] w1 (Re w1 (.int .i64 0))))
  (H1 : Hid (∀ w1, Below w.heap.size w w1 → Calls Tryz.prog 196 #[.agg #[.bool n0, .string s0], .agg #[.bool n1, .string s1]] w1 (Re w1 (.agg #[.bool gN, .string gS]))))
  (H2 : Hid (∀ w1, Calls Tryz.prog 249 #[.agg #[.bool (!(n0 == n1)), .string s0], .agg #[.bool gN, .string gS]] w1 (Re w1 (.agg #[.bool pN, .string pS]))))
  (H3 : Hid (∀ w1, Calls Tryz.prog 249 #[.agg #[.bool false, .string s1], .agg #[.bool gN, .string gS]] w1 (Re w1 (.agg #[.bool qN, .string qS])))) :
  Calls Tryz.prog 217 #[.agg #[.bool n0, .string s0], .agg #[.bool n1, .string s1]] w (Re w (.tuple #[(qa1 pN pS qS), .int .i64 0])) := by
 go_enter Tryz.func217, Tryz.ntmps217
 go_wp2_with fail
 obtain ⟨w1, hw, ka, kb, kr, kl, b1⟩ := mk4 w [.bool n0, .string s0] [.bool n1, .string s1] (ql1 false eB eB) [.string s0, .string s1] 24 24 26 22
 rw [← hw]
 clear hw
 have sz := b1.size
 have ta := ka.lt
 have tb := kb.lt
 have tr := kr.lt
 have tl := kl.lt
 have bb := b1
 clear b1
 go_fit (HL.out _ _ kl)
 rintro e w2 ⟨rfl, b1⟩
 have sz := b1.size
 replace ka := ka.below b1
 replace kb := kb.below b1
 replace kr := kr.below b1
 replace kl := kl.below b1
 replace bb := Below.after bb b1
 clear b1
 clear kl
 obtain ⟨ca_0, ca_1⟩ := xk2 ka
 obtain ⟨cb_2, cb_3⟩ := xk2 kb
 go_wp2
 clear ca_0 ca_1 cb_2 cb_3
 go_loopw [21] (fun i wr => (Below w.heap.size w wr ∧ Cel wr w2.heap.size [.bool n0, .string s0, .bool n1, .string s1] 24 ∧ Cel wr w.heap.size [.bool n0, .string s0] 24 ∧ Cel wr (w.heap.size + 1) [.bool n1, .string s1] 24 ∧ Cel wr (w.heap.size + 1 + 1) (ql1 false eB eB) 26) ∧ (i = .int .i64 0 ∨ i = .int .i64 1 ∨ i = .int .i64 2)) (fun i _ => 2 - (intOf i).toNat)
 case atStart => exact ⟨⟨ba bb _, Cel.new w2 _ _, ka.alloc _, kb.alloc _, kr.alloc _⟩, Or.inl rfl⟩
 case round =>
  clear bb ka kb kr
  obtain ⟨⟨bb, kl, ka, kb, kr⟩, hi⟩ := hrel
  have c0 := kl.cell 0
  have c1 := kl.cell 1
  have c2 := kl.cell 2
  have c3 := kl.cell 3
  simp only [List.getElem?_cons_zero, List.getElem?_cons_succ] at c0 c1 c2 c3
  rcases hi with rfl | rfl | rfl
  ·go_wp2_with fail
   go_fit (C0.out _)
   rintro e wn ⟨rfl, b1⟩
   obtain ⟨-, b1⟩ := al1 b1
   clear c0 c1 c2 c3
   replace kl := kl.below b1
   replace ka := ka.below b1
   replace kb := kb.below b1
   replace kr := kr.below b1
   replace bb := Below.after bb b1
   clear b1
   go_wp2
   exact ⟨⟨⟨bb, kl, ka, kb, kr⟩, Or.inr (Or.inl (by go_num))⟩, by simp [intOf]⟩
  ·go_wp2_with fail
   go_fit (C1.out _)
   rintro e wn ⟨rfl, b1⟩
   obtain ⟨-, b1⟩ := al1 b1
   clear c0 c1 c2 c3
   replace kl := kl.below b1
   replace ka := ka.below b1
   replace kb := kb.below b1
   replace kr := kr.below b1
   replace bb := Below.after bb b1
   clear b1
   go_wp2
   exact ⟨⟨⟨bb, kl, ka, kb, kr⟩, Or.inr (Or.inr (by go_num))⟩, by simp [intOf]⟩
  ·clear c0 c1 c2 c3
   obtain ⟨ca_0, ca_1⟩ := xk2 ka
   obtain ⟨cb_2, cb_3⟩ := xk2 kb
   go_wp2_with fail
   clear ca_0 ca_1 cb_2 cb_3
   go_fit (H1.out _ bb)
   rintro e w3 ⟨rfl, b1⟩
   have sz := b1.size
   replace kl := kl.below b1
   replace ka := ka.below b1
   replace kb := kb.below b1
   replace kr := kr.below b1
   replace bb := Below.after bb b1
   clear b1
   have szz := bb.size
   have tr := kr.lt
   have tb := kb.lt
   have kg := Cel.new w3 [.bool gN, .string gS] 24
   replace ka := ka.alloc (.cells #[.bool gN, .string gS] 24)
   replace kb := kb.alloc (.cells #[.bool gN, .string gS] 24)
   replace kr := kr.alloc (.cells #[.bool gN, .string gS] 24)
   replace kl := kl.alloc (.cells #[.bool gN, .string gS] 24)
   replace bb := ba bb (.cells #[.bool gN, .string gS] 24)
   obtain ⟨e0, e1⟩ := xk2 ka
   obtain ⟨e2, e3⟩ := xk2 kb
   have f0 := ka.frozen 0
   have kb1 := Cel.other (g' := w.heap.size) kb (by omega) 0 (.bool (!(n0 == n1)))
   obtain ⟨e4, e5⟩ := xk2 kb1
   have f1 := kb1.frozen 0
   go_wp2_with fail
   clear e0 e1 e2 e3 e4 e5 f0 f1
   obtain ⟨w4, hw⟩ : ∃ x, x = ((w3.alloc (.cells #[.bool gN, .string gS] 24)).setCell ⟨w.heap.size, 0, none⟩ (.bool (!(n0 == n1)))).setCell ⟨w.heap.size + 1, 0, none⟩ (.bool false) := ⟨_, rfl⟩
   rw [← hw]
   replace ka := Cel.other (g' := w.heap.size + 1) (ka.set 0 (.bool (!(n0 == n1)))) (by omega) 0 (.bool false)
   replace kb := kb1.set 0 (.bool false)
   replace kr := Cel.other (g' := w.heap.size + 1) (Cel.other (g' := w.heap.size) kr (by omega) 0 (.bool (!(n0 == n1)))) (by omega) 0 (.bool false)
   replace kg := Cel.other (g' := w.heap.size + 1) (Cel.other (g' := w.heap.size) kg (by omega) 0 (.bool (!(n0 == n1)))) (by omega) 0 (.bool false)
   replace bb := bset (g := w.heap.size + 1) (bset (g := w.heap.size) bb (by omega) 0 (.bool (!(n0 == n1)))) (by omega) 0 (.bool false)
   rw [← hw] at ka kb kr kg bb
   clear hw kb1 kl
   have tq := kr.lt
   have qa : w.heap.size ≠ w.heap.size + 1 + 1 := by omega
   have qb : w.heap.size + 1 ≠ w.heap.size + 1 + 1 := by omega
   have qg : w3.heap.size ≠ w.heap.size + 1 + 1 := by omega
   have gf := fld1 qN qS
   go_region_held3 (fun w' => xc2 w' w.heap.size (.bool (!(n0 == n1))) (.string s0) ∧ xc2 w' (w.heap.size + 1) (.bool false) (.string s1) ∧ xc2 w' w3.heap.size (.bool gN) (.string gS)) (first | exact ⟨xk2 ka, xk2 kb, xk2 kg⟩ | exact ⟨xk2 (Cel.other (Cel.other (Cel.other ka qa 0 _) qa 1 _) qa 2 _), xk2 (Cel.other (Cel.other (Cel.other kb qb 0 _) qb 1 _) qb 2 _), xk2 (Cel.other (Cel.other (Cel.other kg qg 0 _) qg 1 _) qg 2 _)⟩) (first | (go_at_call 249; go_fit (H2.out _); rintro e wn ⟨rfl, bn⟩; replace ka := ka.below (un bn); replace kb := kb.below (un bn); replace kr := kr.below (un bn); replace kg := kg.below (un bn); replace bb := Below.after bb (un bn)) | (go_at_call 249; go_fit (H3.out _); rintro e wn ⟨rfl, bn⟩; replace ka := ka.below (un bn); replace kb := kb.below (un bn); replace kr := kr.below (un bn); replace kg := kg.below (un bn); replace bb := Below.after bb (un bn); have e0 := cel3_0 kr; have f0 := Cel.frozen kr 0; have e1 := cel3_1 kr; have f1 := Cel.frozen kr 1; have e2 := cel3_2 kr; have f2 := Cel.frozen kr 2))
   go_wp2
   exact post_q1 (p := 4) (u := 5) (v := .int .i64 0) (by kernel_rfl) rfl rfl rfl (((kr.set 0 _).set 1 _).set 2 _) ⟨rfl, bset (bset (bset bb (by omega) 0 _) (by omega) 1 _) (by omega) 2 _⟩
theorem make_none (n0 n1 gN pN qN : Bool) (s1 gS pS qS : ByteArray) (w : World) (h1 : s1.toList.isEmpty = false)
  (HL : Hid (∀ (B : Nat) (w : World) (_ : Cel w B [.string ByteArray.empty, .string s1] 22), Calls Tryz.prog 194 #[.slice (some ⟨B, 0, none⟩) 2 2] w (Re w (.bool false))))
  (C0 : Hid (∀ w1, Calls Tryz.prog 195 #[.agg #[.bool n0, .string ByteArray.empty]] w1 (Re w1 (.int .i64 0))))
  (C1 : Hid (∀ w1, Calls Tryz.prog 195 #[.agg #[.bool n1, .string s1]] w1 (Re w1 (.int .i64 0))))
  (H1 : Hid (∀ w1, Below w.heap.size w w1 → Calls Tryz.prog 196 #[.agg #[.bool n0, .string ByteArray.empty], .agg #[.bool n1, .string s1]] w1 (Re w1 (.agg #[.bool gN, .string gS]))))
  (H2 : Hid (∀ w1, Calls Tryz.prog 249 #[.agg #[.bool false, .string ByteArray.empty], .agg #[.bool gN, .string gS]] w1 (Re w1 (.agg #[.bool pN, .string pS]))))
  (H3 : Hid (∀ w1, Calls Tryz.prog 249 #[.agg #[.bool false, .string s1], .agg #[.bool gN, .string gS]] w1 (Re w1 (.agg #[.bool qN, .string qS])))) :
  Calls Tryz.prog 217 #[.agg #[.bool n0, .string ByteArray.empty], .agg #[.bool n1, .string s1]] w (Re w (.tuple #[(qa1 pN pS qS), .int .i64 0])) := by
 go_enter Tryz.func217, Tryz.ntmps217
 go_wp2_with fail
 obtain ⟨w1, hw, ka, kb, kr, kl, b1⟩ := mk4 w [.bool n0, .string ByteArray.empty] [.bool n1, .string s1] (ql1 false eB eB) [.string ByteArray.empty, .string s1] 24 24 26 22
 rw [← hw]
 clear hw
 have sz := b1.size
 have ta := ka.lt
 have tb := kb.lt
 have tr := kr.lt
 have tl := kl.lt
 have bb := b1
 clear b1
 go_fit (HL.out _ _ kl)
 rintro e w2 ⟨rfl, b1⟩
 have sz := b1.size
 replace ka := ka.below b1
 replace kb := kb.below b1
 replace kr := kr.below b1
 replace kl := kl.below b1
 replace bb := Below.after bb b1
 clear b1
 clear kl
 obtain ⟨ca_0, ca_1⟩ := xk2 ka
 obtain ⟨cb_2, cb_3⟩ := xk2 kb
 go_wp2
 clear ca_0 ca_1 cb_2 cb_3
 go_loopw [21] (fun i wr => (Below w.heap.size w wr ∧ Cel wr w2.heap.size [.bool n0, .string ByteArray.empty, .bool n1, .string s1] 24 ∧ Cel wr w.heap.size [.bool n0, .string ByteArray.empty] 24 ∧ Cel wr (w.heap.size + 1) [.bool n1, .string s1] 24 ∧ Cel wr (w.heap.size + 1 + 1) (ql1 false eB eB) 26) ∧ (i = .int .i64 0 ∨ i = .int .i64 1 ∨ i = .int .i64 2)) (fun i _ => 2 - (intOf i).toNat)
 case atStart => exact ⟨⟨ba bb _, Cel.new w2 _ _, ka.alloc _, kb.alloc _, kr.alloc _⟩, Or.inl rfl⟩
 case round =>
  clear bb ka kb kr
  obtain ⟨⟨bb, kl, ka, kb, kr⟩, hi⟩ := hrel
  have c0 := kl.cell 0
  have c1 := kl.cell 1
  have c2 := kl.cell 2
  have c3 := kl.cell 3
  simp only [List.getElem?_cons_zero, List.getElem?_cons_succ] at c0 c1 c2 c3
  rcases hi with rfl | rfl | rfl
  ·go_wp2_with fail
   go_fit (C0.out _)
   rintro e wn ⟨rfl, b1⟩
   obtain ⟨-, b1⟩ := al1 b1
   clear c0 c1 c2 c3
   replace kl := kl.below b1
   replace ka := ka.below b1
   replace kb := kb.below b1
   replace kr := kr.below b1
   replace bb := Below.after bb b1
   clear b1
   go_wp2
   exact ⟨⟨⟨bb, kl, ka, kb, kr⟩, Or.inr (Or.inl (by go_num))⟩, by simp [intOf]⟩
  ·go_wp2_with fail
   go_fit (C1.out _)
   rintro e wn ⟨rfl, b1⟩
   obtain ⟨-, b1⟩ := al1 b1
   clear c0 c1 c2 c3
   replace kl := kl.below b1
   replace ka := ka.below b1
   replace kb := kb.below b1
   replace kr := kr.below b1
   replace bb := Below.after bb b1
   clear b1
   go_wp2
   exact ⟨⟨⟨bb, kl, ka, kb, kr⟩, Or.inr (Or.inr (by go_num))⟩, by simp [intOf]⟩
  ·clear c0 c1 c2 c3
   obtain ⟨ca_0, ca_1⟩ := xk2 ka
   obtain ⟨cb_2, cb_3⟩ := xk2 kb
   go_wp2_with fail
   clear ca_0 ca_1 cb_2 cb_3
   go_fit (H1.out _ bb)
   rintro e w3 ⟨rfl, b1⟩
   have sz := b1.size
   replace kl := kl.below b1
   replace ka := ka.below b1
   replace kb := kb.below b1
   replace kr := kr.below b1
   replace bb := Below.after bb b1
   clear b1
   have szz := bb.size
   have tr := kr.lt
   have tb := kb.lt
   have kg := Cel.new w3 [.bool gN, .string gS] 24
   replace ka := ka.alloc (.cells #[.bool gN, .string gS] 24)
   replace kb := kb.alloc (.cells #[.bool gN, .string gS] 24)
   replace kr := kr.alloc (.cells #[.bool gN, .string gS] 24)
   replace kl := kl.alloc (.cells #[.bool gN, .string gS] 24)
   replace bb := ba bb (.cells #[.bool gN, .string gS] 24)
   obtain ⟨e0, e1⟩ := xk2 ka
   obtain ⟨e2, e3⟩ := xk2 kb
   have f0 := ka.frozen 0
   have kb1 := Cel.other (g' := w.heap.size) kb (by omega) 0 (.bool false)
   obtain ⟨e4, e5⟩ := xk2 kb1
   have f1 := kb1.frozen 0
   go_wp2_with fail
   clear e0 e1 e2 e3 e4 e5 f0 f1
   obtain ⟨w4, hw⟩ : ∃ x, x = ((w3.alloc (.cells #[.bool gN, .string gS] 24)).setCell ⟨w.heap.size, 0, none⟩ (.bool false)).setCell ⟨w.heap.size + 1, 0, none⟩ (.bool false) := ⟨_, rfl⟩
   rw [← hw]
   replace ka := Cel.other (g' := w.heap.size + 1) (ka.set 0 (.bool false)) (by omega) 0 (.bool false)
   replace kb := kb1.set 0 (.bool false)
   replace kr := Cel.other (g' := w.heap.size + 1) (Cel.other (g' := w.heap.size) kr (by omega) 0 (.bool false)) (by omega) 0 (.bool false)
   replace kg := Cel.other (g' := w.heap.size + 1) (Cel.other (g' := w.heap.size) kg (by omega) 0 (.bool false)) (by omega) 0 (.bool false)
   replace bb := bset (g := w.heap.size + 1) (bset (g := w.heap.size) bb (by omega) 0 (.bool false)) (by omega) 0 (.bool false)
   rw [← hw] at ka kb kr kg bb
   clear hw kb1 kl
   have tq := kr.lt
   have qa : w.heap.size ≠ w.heap.size + 1 + 1 := by omega
   have qb : w.heap.size + 1 ≠ w.heap.size + 1 + 1 := by omega
   have qg : w3.heap.size ≠ w.heap.size + 1 + 1 := by omega
   have gf := fld1 qN qS
   go_region_held3 (fun w' => xc2 w' w.heap.size (.bool false) (.string ByteArray.empty) ∧ xc2 w' (w.heap.size + 1) (.bool false) (.string s1) ∧ xc2 w' w3.heap.size (.bool gN) (.string gS)) (first | exact ⟨xk2 ka, xk2 kb, xk2 kg⟩ | exact ⟨xk2 (Cel.other (Cel.other (Cel.other ka qa 0 _) qa 1 _) qa 2 _), xk2 (Cel.other (Cel.other (Cel.other kb qb 0 _) qb 1 _) qb 2 _), xk2 (Cel.other (Cel.other (Cel.other kg qg 0 _) qg 1 _) qg 2 _)⟩) (first | (go_at_call 249; go_fit (H2.out _); rintro e wn ⟨rfl, bn⟩; replace ka := ka.below (un bn); replace kb := kb.below (un bn); replace kr := kr.below (un bn); replace kg := kg.below (un bn); replace bb := Below.after bb (un bn)) | (go_at_call 249; go_fit (H3.out _); rintro e wn ⟨rfl, bn⟩; replace ka := ka.below (un bn); replace kb := kb.below (un bn); replace kr := kr.below (un bn); replace kg := kg.below (un bn); replace bb := Below.after bb (un bn); have e0 := cel3_0 kr; have f0 := Cel.frozen kr 0; have e1 := cel3_1 kr; have f1 := Cel.frozen kr 1; have e2 := cel3_2 kr; have f2 := Cel.frozen kr 2))
   go_wp2
   exact post_q1 (p := 4) (u := 5) (v := .int .i64 0) (by kernel_rfl) rfl rfl rfl (((kr.set 0 _).set 1 _).set 2 _) ⟨rfl, bset (bset (bset bb (by omega) 0 _) (by omega) 1 _) (by omega) 2 _⟩
open Go.RowKit
theorem isE {s : ByteArray} (h : 0 < natOf s) : s.toList.isEmpty = false := by
 have : 0 < s.size := Nat.pos_of_ne_zero fun e => by have := natOf_empty e; omega
 simpa using toList_ne this
theorem make_ok (n0 n1 : Bool) (s0 s1 : ByteArray) (w : World) (hT : Tab w) (o0 : OkZ n0 s0) (o1 : OkZ n1 s1) {K : Nat} (hK : K ≤ 8000) (z0 : s0.size ≤ K) (z1 : s1.size ≤ K) (hp : 0 < natOf s1) :
  Calls Tryz.prog 217 #[.agg #[.bool n0, .string s0], .agg #[.bool n1, .string s1]] w (Re w (.tuple #[qI (Rat.divInt (zOf n0 s0) (zOf n1 s1)), .int .i64 0])) := by
 obtain ⟨nf, sf, hf, hok, hsz, hz, hnat, hneg, hstr, hnn, hfn⟩ := named0
 obtain ⟨t, ht, hL⟩ := tooLong_any s0 s1
 obtain rfl : t = false := by
  cases t with
  | false => rfl
  | true => have := ht.1 rfl; omega
 have C0 : Hid (∀ w1, Calls Tryz.prog 195 #[.agg #[.bool n0, .string s0]] w1 (Re w1 (.int .i64 0))) := by
  intro w1
  have := check_any n0 s0 w1
  rwa [(chk_ok (by omega)).2 o0] at this
 have C1 : Hid (∀ w1, Calls Tryz.prog 195 #[.agg #[.bool n1, .string s1]] w1 (Re w1 (.int .i64 0))) := by
  intro w1
  have := check_any n1 s1 w1
  rwa [(chk_ok (by omega)).2 o1] at this
 obtain ⟨G, hG⟩ : ∃ G, G = Nat.gcd (natOf s0) (natOf s1) := ⟨_, rfl⟩
 have hGp : 0 < G := by rw [hG]; exact Nat.gcd_pos_of_pos_right _ hp
 have hd : zOf n1 s1 ≠ 0 := fun e => by have := natAbs_zOf n1 s1; rw [e] at this; simp at this; omega
 have key := Q.make_low (zOf n0 s0) (zOf n1 s1) hd G (by rw [natAbs_zOf, natAbs_zOf]; exact hG)
 rw [natAbs_zOf] at key
 have bG : Bd (G : Int) K := (bd_nat z1).nat (by rw [hG]; exact Nat.le_of_dvd hp (Nat.gcd_dvd_right _ _))
 have hD : Hid (∀ w1, Below w.heap.size w w1 → Calls Tryz.prog 196 #[.agg #[.bool n0, .string s0], .agg #[.bool n1, .string s1]] w1 (Re w1 (.agg #[.bool false, .string (sf (G : Nat))]))) := by
  intro w1 b
  have := divisor_ok n0 n1 s0 s1 w1 o0 o1 (by omega) (by omega) (hT.below b)
  rwa [← hG, hfn] at this
 have hQ : Hid (∀ w1, Calls Tryz.prog 249 #[.agg #[.bool false, .string s1], .agg #[.bool false, .string (sf (G : Nat))]] w1 (Re w1 (.agg #[.bool false, .string (sf ((natOf s1 / G : Nat) : Int))]))) := by
  intro w1
  have := cut_ok false s1 (sf (G : Nat)) w1 ⟨o1.1, fun h => by cases h⟩ (hok _).1 (by omega) (Nat.le_trans (hsz _ _ bG) (by omega)) (by rw [hnn]; exact hGp)
  rwa [hnn, zOf_false, ← Int.natCast_ediv, hfn] at this
 have hneg1 : zOf n1 s1 < 0 ↔ n1 = true := by
  cases n1 with
  | false => simp [zOf]
  | true => simp [zOf]; omega
 have eq := qI_of key (hf _) (hstr _).symm.symm
 rw [eq]
 by_cases h0 : 0 < natOf s0
 ·have on : OkZ (!(n0 == n1)) s0 := ⟨o0.1, fun _ => Nat.pos_of_ne_zero fun e => by have := natOf_empty e; omega⟩
  have ez : (if zOf n1 s1 < 0 then -zOf n0 s0 else zOf n0 s0) = zOf (!(n0 == n1)) s0 := by
   cases n1 with
   | false => rw [if_neg (by rw [hneg1]; simp)]; cases n0 <;> rfl
   | true => rw [if_pos (by rw [hneg1])]; cases n0 <;> simp [zOf]
  rw [ez]
  refine make_some n0 n1 false _ false s0 s1 (sf (G : Nat)) _ _ w (isE hp) (isE h0) (shut hL) C0 C1 hD ?_ hQ
  intro w1
  have := cut_ok _ s0 (sf (G : Nat)) w1 on (hok _).1 (by omega) (Nat.le_trans (hsz _ _ bG) (by omega)) (by rw [hnn]; exact hGp)
  rwa [hnn, hf] at this
 ·have g3 : s0 = ByteArray.empty := ByteArray.size_eq_zero_iff.1 ((okS_nil o0.1).2 (by omega))
  subst g3
  have ez : (if zOf n1 s1 < 0 then -zOf n0 ByteArray.empty else zOf n0 ByteArray.empty) = 0 := by
   have : zOf n0 ByteArray.empty = 0 := by cases n0 <;> rfl
   rw [this]; simp
  rw [ez]
  refine make_none n0 n1 false _ false s1 (sf (G : Nat)) _ _ w (isE hp) (shut hL) C0 C1 hD ?_ hQ
  intro w1
  have := cut_ok false ByteArray.empty (sf (G : Nat)) w1 ⟨fun h => absurd h (by decide), fun h => by cases h⟩ (hok _).1 (by decide) (Nat.le_trans (hsz _ _ bG) (by omega)) (by rw [hnn]; exact hGp)
  rwa [hnn, show zOf false ByteArray.empty = 0 from rfl, hf] at this
end Go.Proofs.YtnplifkgeeicjaaGreatDoor
