/-
  Package whole: how commonDivisor's rows lie.
  Package whole: commonDivisor.
  Package whole: Gcd.
  Package rat: divisor, cut.
  Package rat: tooLong, of two texts.
  Package rat: Check.
  Package long: the contracts of numbers that are not long.
  Package long: Over.
  Package rat: Make, of any two numbers.
  Package rat: Cmp, Sign, Of.
  Blocks by what stands at each place; package vec: cleared.
  Package rat: sum and product, of numbers that may be.
  Package rat: check, of two numbers.
-/
import Derived.Test.YtbafjmjcepcckaaGreatDoorO01
import Derived.Test.YtbafjmjcepcckaaGreatDoorO29
import Derived.Test.YtbafjmjcepcckaaGreatDoorO31
set_option maxRecDepth 100000
set_option maxHeartbeats 8000000
namespace Go.Proofs.YtbafjmjcepcckaaGreatDoor
open Go.RowKit Go.Shelf
theorem Grew2.put {g0 g1 ga gb : Nat} {w wr w' : World} (h : Grew2 g0 g1 w wr) (k : Grew2 ga gb wr w') (fa : ga = g0 ∨ ga = g1 ∨ w.heap.size ≤ ga) (fb : gb = g0 ∨ gb = g1 ∨ w.heap.size ≤ gb) : Grew2 g0 g1 w w' :=
 ⟨k.os.trans h.os, k.tape.trans h.tape, k.output.trans h.output, Nat.le_trans h.size k.size, fun i hi h0 h1 => (k.block i (Nat.lt_of_lt_of_le hi h.size) (by omega) (by omega)).trans (h.block i hi h0 h1)⟩
theorem Blk.u64 {w : World} {g : Nat} {ys : List Nat} (h : Blk w g ys) {j : Nat} {v : Value} (hc : w.cell? ⟨g, j, none⟩ = some v) : ∃ n : Int, v = .int .u64 n := by
 by_cases hj : j < ys.length
 ·rw [h.cell hj] at hc
  exact ⟨_, (Option.some.inj hc).symm⟩
 ·unfold Blk at h
  have hn : ys[j]? = none := List.getElem?_eq_none (by omega)
  simp [World.cell?, h, cellsOf, hn] at hc
theorem Tab.grew2 {ga gb : Nat} {w w' : World} {ya yb : List Nat} (h : Tab w) (ka : Blk w ga ya) (kb : Blk w gb yb) (k : Grew2 ga gb w w') : Tab w' := fun j hj => by
 have hc := h j hj
 have hlt := World.block_lt_of_cell? w _ hc
 have na : lays729_ren.g 1 ≠ ga := fun e => by
  rw [e] at hc
  obtain ⟨n, hn⟩ := ka.u64 hc
  cases hn
 have nb : lays729_ren.g 1 ≠ gb := fun e => by
  rw [e] at hc
  obtain ⟨n, hn⟩ := kb.u64 hc
  cases hn
 rw [World.cell?_of_block (w := w) (k.block _ hlt na nb)]
 exact hc
theorem Grew2.of_only {g0 g1 g : Nat} {w wr w' : World} (h : Grew2 g0 g1 w wr) (k : Only g wr w') (f : g = g0 ∨ g = g1 ∨ w.heap.size ≤ g) : Grew2 g0 g1 w w' :=
 h.put (Grew2.left (g' := g) k) f f
theorem Grew2.of_below {g0 g1 : Nat} {w wr w' : World} (h : Grew2 g0 g1 w wr) (k : Below wr.heap.size wr w') : Grew2 g0 g1 w w' := h.trans (Grew2.of k)
structure Rows2 (g0 g1 G : Nat) (w wr : World) (ga gb A B : Nat) (qa qb : List Nat) : Prop where
 ka : Blk wr ga (M.digs B64 A ++ qa)
 kb : Blk wr gb (M.digs B64 B ++ qb)
 ne : ga ≠ gb
 fa : ga = g0 ∨ ga = g1 ∨ w.heap.size ≤ ga
 fb : gb = g0 ∨ gb = g1 ∨ w.heap.size ≤ gb
 cap : (M.digs B64 A).length ≤ (M.digs B64 B ++ qb).length
 le : B ≤ A
 gcd : Nat.gcd A B = G
 size : (M.digs B64 A).length ≤ 4000
 tab : Tab wr
 gr : Grew2 g0 g1 w wr
def slX (g A : Nat) (q : List Nat) : Value := .slice (some ⟨g, 0, none⟩) (M.digs B64 A).length (M.digs B64 A ++ q).length
theorem Rows2.rdA {g0 g1 G : Nat} {w wr : World} {ga gb A B : Nat} {qa qb : List Nat} (h : Rows2 g0 g1 G w wr ga gb A B qa qb) : Rd wr (slX ga A qa) (M.digs B64 A) := Bk.rd (t := 118) h.ka _ (by simp)
theorem Rows2.rdB {g0 g1 G : Nat} {w wr : World} {ga gb A B : Nat} {qa qb : List Nat} (h : Rows2 g0 g1 G w wr ga gb A B qa qb) : Rd wr (slX gb B qb) (M.digs B64 B) := Bk.rd (t := 118) h.kb _ (by simp)
theorem Rows2.below {g0 g1 G : Nat} {w wr w' : World} {ga gb A B : Nat} {qa qb : List Nat} (h : Rows2 g0 g1 G w wr ga gb A B qa qb) (k : Below wr.heap.size wr w') : Rows2 g0 g1 G w w' ga gb A B qa qb :=
 ⟨h.ka.below k, h.kb.below k, h.ne, h.fa, h.fb, h.cap, h.le, h.gcd, h.size, h.tab.below k, h.gr.of_below k⟩
theorem digs_mono' {A B : Nat} (h : B ≤ A) : (M.digs B64 B).length ≤ (M.digs B64 A).length := digs_mono B64_two h
def rowN (v : Value) (w : World) : Nat := match v with
 | .slice (some a) n _ => M.val B64 ((List.range n).map fun j => match w.cell? ⟨a.block, j, none⟩ with | some (.int _ z) => z.toNat | _ => 0)
 | _ => 0
theorem rowN_eq {w : World} {g A : Nat} {q : List Nat} (h : Blk w g (M.digs B64 A ++ q)) : rowN (slX g A q) w = A := by
 have e : ((List.range (M.digs B64 A).length).map fun j => match w.cell? ⟨g, j, none⟩ with | some (.int _ z) => z.toNat | _ => 0) = M.digs B64 A := by
  apply List.ext_getElem
  ·simp
  ·intro i h1 h2
   have hc := h.cell (j := i) (by rw [List.length_append]; omega)
   simp only [List.getElem_map, List.getElem_range, hc]
   simp [lm, List.getElem?_append_left h2, h2]
 show M.val B64 _ = A
 rw [e, M.val_digs B64_two]
theorem Rows2.divided {g0 g1 G : Nat} {w wr w' : World} {ga gb A B : Nat} {qa qb : List Nat} (h : Rows2 g0 g1 G w wr ga gb A B qa qb) (hB : 0 < B)
  (k : Blk w' ga (M.digs B64 (A % B) ++ (M.digs B64 A ++ qa).drop (M.digs B64 (A % B)).length)) (o : Only ga wr w') :
  Rows2 g0 g1 G w w' gb ga B (A % B) qb ((M.digs B64 A ++ qa).drop (M.digs B64 (A % B)).length) := by
 have hlt : A % B < B := Nat.mod_lt _ hB
 refine ⟨?_, k, h.ne.symm, h.fb, h.fa, ?_, by omega, ?_, Nat.le_trans (digs_mono' h.le) h.size, h.tab.grew2 h.ka h.ka (Grew2.left o), h.gr.of_only o h.fa⟩
 ·have := h.kb
  unfold Blk at this ⊢
  rw [o.block gb h.ne.symm]; exact this
 ·have l1 := digs_mono' h.le
  have l2 := digs_mono' (Nat.le_of_lt hlt)
  rw [List.length_append, List.length_drop, List.length_append]
  omega
 ·rw [Nat.gcd_comm, ← Nat.gcd_rec, Nat.gcd_comm]
  exact h.gcd
end Go.Proofs.YtbafjmjcepcckaaGreatDoor
namespace Go.Proofs.YtbafjmjcepcckaaGreatDoor
open Go.RowKit Go.Shelf
theorem val_zeros (b : Nat) : ∀ n, M.val b (List.replicate n 0) = 0
 | 0 => rfl
 | n + 1 => by rw [List.replicate_succ, M.val_cons, val_zeros b n]; simp
theorem low_zeros (n : Nat) : M.Low B64 (List.replicate n 0) := fun x hx => by rw [List.eq_of_mem_replicate hx]; exact B64_pos
theorem cdiv_any (g0 g1 X Y m0 m1 : Nat) (w : World) (hm0 : (M.digs B64 X).length = m0) (hm1 : (M.digs B64 Y).length = m1) (k0 : Blk w g0 (M.digs B64 X)) (k1 : Blk w g1 (M.digs B64 Y)) (h0 : m0 ≤ 4000) (h1 : m1 ≤ 4000) (hT : Tab w) :
  Calls Tryz.prog 89 #[.slice (some ⟨g0, 0, none⟩) m0 m0, .slice (some ⟨g1, 0, none⟩) m1 m1] w fun e w' => ∃ v, e = .returned v ∧ Rd w' v (M.digs B64 (Nat.gcd X Y)) ∧ Grew2 g0 g1 w w' := by
 have HC : Hid (Calls Tryz.prog 118 #[.slice (some ⟨g0, 0, none⟩) m0 m0, .slice (some ⟨g1, 0, none⟩) m1 m1] w (Re w (.tuple #[.int .i64 (cmpN X Y), .int .i64 0]))) := by
  have := cmp_any (.slice (some ⟨g0, 0, none⟩) m0 m0) (.slice (some ⟨g1, 0, none⟩) m1 m1) (M.digs B64 X) (M.digs B64 Y) w (by rw [← hm0]; exact k0.rd0 _ (Nat.le_refl _)) (by rw [← hm1]; exact k1.rd0 _ (Nat.le_refl _)) (M.Low.digs B64_two X) (M.Low.digs B64_two Y) (by omega) (by omega)
  rwa [M.val_digs B64_two, M.val_digs B64_two] at this
 by_cases hXY : X < Y
 ·have c1 : cmpN X Y < 0 := by rw [cmpN_lt hXY]; omega
  generalize cmpN X Y = cc at *
  have HM0 := shut hm0
  have HM1 := shut hm1
  have hle : m0 ≤ m1 := by rw [← hm0, ← hm1]; exact digs_mono' (by omega)
  have RY : Hid (∀ w1, Below w.heap.size w w1 → ∀ w2, Below w1.heap.size w1 w2 → Rd w2 (.slice (some ⟨g0, 0, none⟩) m0 m0) (M.digs B64 X)) := by
   intro w1 b1 w2 b2
   rw [← hm0]
   exact ((k0.below b1).below b2).rd0 _ (Nat.le_refl _)
  have FIT : Hid ((M.digs B64 X).length ≤ m1) := by show _ ≤ _; omega
  clear hm0 hm1
  go_enter Tryz.func89, Tryz.ntmps89
  go_wp2_with fail
  refine (HC.out).mono ?_
  rintro e w1 ⟨rfl, b1⟩
  go_wp2_with (first
   | (at_make; refine wpList_mk2 rfl _ _ rfl _ _ 0 m1 rfl rfl (by omega) (by omega) (by omega) (by omega) ?_; intro w2 kn b2)
   | (at_builtin; refine wpList_appB rfl _ _ rfl w1.heap.size m1 (List.replicate m1 0) (M.digs B64 X) rfl kn (by simp) (.slice (some ⟨g0, 0, none⟩) m0 m0) rfl (RY.out w1 b1 w2 b2) FIT.out ?_; intro w3 kn3 o3))
  have IN : Hid (Rows2 g0 g1 (Nat.gcd X Y) w w3 g1 w1.heap.size Y X [] (List.drop (M.digs B64 X).length (List.replicate m1 0))) := by
   have l0 := k1.lt
   have e1 := b1.size
   have hb3 : Below w1.heap.size w1 w3 := ⟨o3.os.trans b2.os, o3.tape.trans b2.tape, o3.output.trans b2.output, by rw [o3.size]; exact b2.size, fun i hi => (o3.block i (by omega)).trans (b2.block i hi)⟩
   have hbb := Below.after b1 hb3
   refine ⟨by simpa using k1.below hbb, kn3, by omega, Or.inr (Or.inl rfl), Or.inr (Or.inr e1), ?_, by omega, Nat.gcd_comm _ _, by rw [HM1.out]; exact h1, hT.below hbb, Grew2.of hbb⟩
   have := FIT.out
   rw [HM1.out, List.length_append, List.length_drop, List.length_replicate]
   omega
  have V0 : Hid (Value.slice (some ⟨g1, 0, none⟩) m1 m1 = slX g1 Y []) := by
   show _ = _
   unfold slX
   rw [List.append_nil, HM1.out]
  have V1 : Hid (Value.slice (some ⟨w1.heap.size, 0, none⟩) (M.digs B64 X).length m1 = slX w1.heap.size X (List.drop (M.digs B64 X).length (List.replicate m1 0))) := by
   have := FIT.out
   have e : (M.digs B64 X ++ List.drop (M.digs B64 X).length (List.replicate m1 0)).length = m1 := by rw [List.length_append, List.length_drop, List.length_replicate]; omega
   show _ = _
   unfold slX
   rw [e]
  generalize hG : Nat.gcd X Y = G at *
  have HG := shut hG
  clear hG kn3 o3 kn b2 b1 k0 k1 hT HC RY FIT hle
  go_loopw [0, 1] (fun vx vy wr => ∃ ga gb A B qa qb, vx = slX ga A qa ∧ vy = slX gb B qb ∧ Rows2 g0 g1 G w wr ga gb A B qa qb) (fun _ vy wr => rowN vy wr)
  case atStart => exact ⟨_, _, _, _, _, _, V0.out, V1.out, IN.out⟩
  case round =>
   clear V0 V1 IN
   obtain ⟨ga, gb, A, B, qa, qb, rfl, rfl, RR⟩ := hrel
   have ME := shut (rowN_eq RR.kb)
   have R := shut RR
   by_cases hn : 1 < (M.digs B64 B).length
   ·have LS : Hid (Calls Tryz.prog 119 #[slX ga A qa, slX gb B qb] wr fun e w' => ∃ a b c d : Nat, e = .returned (stV a b c d) ∧ a < B64 ∧ b < B64 ∧ c < B64 ∧ d < B64 ∧
      (b = 0 ∨ ∃ X' Y', M.Eu a b c d A B X' Y' ∧ 0 < Y' ∧ Y' < X' ∧ 1 ≤ c ∧ 1 ≤ d) ∧ Below wr.heap.size wr w') := by
     have l1 := digs_mono' RR.le
     have l2 := RR.size
     have := lsteps_any (some ⟨ga, 0, none⟩) (some ⟨gb, 0, none⟩) (M.digs B64 A ++ qa).length (M.digs B64 B ++ qb).length ((M.digs B64 A).length - 1) (M.digs B64 A) (M.digs B64 B) wr RR.rdA RR.rdB (M.Low.digs B64_two A) (M.Low.digs B64_two B) (by omega) (by omega) (by omega) (by omega)
      (by have := M.trim_digs B64_two A ((M.digs B64 A).length - 1) (by omega); unfold lm; omega) (by rw [M.val_digs B64_two, M.val_digs B64_two]; exact RR.le)
     rw [M.val_digs B64_two, M.val_digs B64_two] at this
     exact this
    have hn1 : (1 : Int) < ((M.digs B64 B).length : Nat) := by omega
    have HN := shut hn
    unfold slX at *
    generalize hna : (M.digs B64 A).length = na at *
    generalize hnb : (M.digs B64 B).length = nb at *
    generalize hca : (M.digs B64 A ++ qa).length = ca at *
    generalize hcb : (M.digs B64 B ++ qb).length = cb at *
    have NA := shut hna
    have NB := shut hnb
    have CA := shut hca
    have CB := shut hcb
    clear hna hnb hca hcb RR hn
    go_wp2_with fail
    refine (LS.out).mono ?_
    rintro e w4 ⟨a, b, c, d, rfl, ha, hb, hc, hd, hs, b4⟩
    unfold stV
    have NO := shut (fun w => none_any a b c d w)
    unfold stV at NO
    obtain ⟨w5, hw5⟩ : ∃ w5, w5 = w4.alloc (.cells #[.int .u64 (a : Nat), .int .u64 (b : Nat), .int .u64 (c : Nat), .int .u64 (d : Nat)] 164) := ⟨_, rfl⟩
    have kS : Cel w5 w4.heap.size [.int .u64 (a : Nat), .int .u64 (b : Nat), .int .u64 (c : Nat), .int .u64 (d : Nat)] 164 := by rw [hw5]; exact Cel.new _ _ _
    have b5 : Below w4.heap.size w4 w5 := by rw [hw5]; go_grown
    have lga := (R.out.below b4).ka.lt
    have lgb := (R.out.below b4).kb.lt
    replace R := shut ((R.out.below b4).below b5)
    go_wp2_with fail
    rw [← hw5]
    clear hw5
    refine (NO.out _).mono ?_
    rintro e w6 ⟨rfl, b6⟩
    replace kS := kS.below b6
    replace R := shut (R.out.below b6)
    have s0 := celq0 kS
    have s1 := celq1 kS
    have s2 := celq2 kS
    have s3 := celq3 kS
    have HA := shut ha
    have HB := shut hb
    have HC := shut hc
    have HD := shut hd
    have HS := shut hs
    clear NO LS b4 b5 b6 ha hb hc hd hs
    have hB0 : 0 < B := by
     rcases Nat.eq_zero_or_pos B with e | e
     ·have h2 := HN.out
      have h3 := NB.out
      rw [e, M.digs_zero] at h3
      simp at h3
      omega
     ·exact e
    by_cases hb0 : b = 0
    ·have DM : Hid (Calls Tryz.prog 90 #[.slice (some ⟨ga, 0, none⟩) na ca, .slice (some ⟨gb, 0, none⟩) nb cb] w6 fun e w' => ∃ q r, e = .returned (.tuple #[q, r, .int .i64 0]) ∧ Rd w' r (M.digs B64 (A % B)) ∧ Below w6.heap.size w6 w') := by
      have rA := R.out.rdA
      have rB := R.out.rdB
      unfold slX at rA rB
      rw [NA.out, CA.out] at rA
      rw [NB.out, CB.out] at rB
      have l1 := digs_mono' R.out.le
      refine (divmod_any _ _ _ _ w6 rA rB (M.Low.digs B64_two A) (M.Low.digs B64_two B) R.out.size (Nat.le_trans l1 R.out.size)).mono ?_
      rintro e w' ⟨-, h, hb⟩
      rw [M.val_digs B64_two, M.val_digs B64_two] at h
      obtain ⟨q, r, h1, -, h3⟩ := h hB0
      exact ⟨q, r, h1, h3, hb⟩
     rw [decide_eq_true hb0]
     go_wp2_with fail
     refine (DM.out).mono ?_
     rintro e w7 ⟨q, r, rfl, rr, b7⟩
     replace R := shut (R.out.below b7)
     have KA := shut R.out.ka
     have l3 : (M.digs B64 (A % B)).length ≤ ca := by
      have l1 := digs_mono' (Nat.le_trans (Nat.le_of_lt (Nat.mod_lt A hB0)) R.out.le)
      have := CA.out
      rw [List.length_append] at this
      omega
     have L3 := shut l3
     have RR := shut rr
     obtain ⟨ar, cr, rfl, -, -⟩ := id rr
     clear rr l3 b7 DM
     go_wp2_with (first
      | (at_builtin; refine wpList_appB rfl _ _ rfl ga ca (M.digs B64 A ++ qa) (M.digs B64 (A % B)) rfl KA.out CA.out _ rfl RR.out L3.out ?_; intro w8 k8 o8))
     have e8 : (M.digs B64 (A % B) ++ (M.digs B64 A ++ qa).drop (M.digs B64 (A % B)).length).length = ca := by
      have := L3.out
      have := CA.out
      rw [List.length_append, List.length_drop]
      omega
     refine ⟨⟨gb, ga, B, A % B, qb, (M.digs B64 A ++ qa).drop (M.digs B64 (A % B)).length, by rw [NB.out, CB.out], by rw [e8], R.out.divided hB0 k8 o8⟩, ?_⟩
     have m8 := rowN_eq k8
     unfold slX at m8
     rw [e8] at m8
     rw [m8, ME.out]
     exact Nat.mod_lt A hB0
    ·rw [decide_eq_false hb0]
     have LO : Hid (Calls Tryz.prog 121 #[.slice (some ⟨gb, 0, none⟩) nb cb, .int .i64 (na : Nat)] w6 fun e w' => e = .returned (.slice (some ⟨gb, 0, none⟩) na cb) ∧ Blk w' gb (M.digs B64 B ++ List.replicate (na - nb) 0 ++ qb.drop (na - nb)) ∧ Only gb w6 w') := by
      have l1 := digs_mono' R.out.le
      have l2 := R.out.cap
      have l4 := R.out.size
      have e1 := NA.out
      have e2 := NB.out
      have := longer_any gb (M.digs B64 B) qb na cb w6 R.out.kb (by omega) (by omega) CB.out.symm (by omega)
      rw [NB.out] at this
      exact this
     go_wp2_with fail
     refine (LO.out).mono ?_
     rintro e w7 ⟨rfl, k7, o7⟩
     have kS7 : Cel w7 w4.heap.size [.int .u64 (a : Nat), .int .u64 (b : Nat), .int .u64 (c : Nat), .int .u64 (d : Nat)] 164 := by
      unfold Cel at kS ⊢
      rw [o7.block _ (by omega)]; exact kS
     have ka7 : Blk w7 ga (M.digs B64 A ++ qa) := o7.blk R.out.ka R.out.ne
     have t0 := celq0 kS7
     have t1 := celq1 kS7
     have t2 := celq2 kS7
     have t3 := celq3 kS7
     obtain ⟨X', Y', eu, y0, yx, c1', d1'⟩ : ∃ X' Y', M.Eu a b c d A B X' Y' ∧ 0 < Y' ∧ Y' < X' ∧ 1 ≤ c ∧ 1 ≤ d := by
      rcases HS.out with h | h
      ·exact absurd h hb0
      ·exact h
     have hXA : X' ≤ A := by
      have := eu.x
      have := Nat.mul_le_mul_right X' d1'
      omega
     have hYB : Y' < B := by
      have := eu.y
      have := Nat.mul_le_mul_right X' c1'
      omega
     have ln : (M.digs B64 B ++ List.replicate (na - nb) 0).length = na := by
      have l1 := digs_mono' R.out.le
      rw [NA.out, NB.out] at l1
      rw [List.length_append, List.length_replicate, NB.out]
      omega
     have vB : M.val B64 (M.digs B64 B ++ List.replicate (na - nb) 0) = B := by
      rw [M.val_append, M.val_digs B64_two, val_zeros, Nat.mul_zero, Nat.add_zero]
     have hA : A < B64 ^ na := by
      have := M.val_lt B64_pos (M.Low.digs B64_two A)
      rwa [M.val_digs B64_two, NA.out] at this
     have TK : Hid (Calls Tryz.prog 122 #[.agg #[.int .u64 (a : Nat), .int .u64 (b : Nat), .int .u64 (c : Nat), .int .u64 (d : Nat)], .slice (some ⟨ga, 0, none⟩) na ca, .slice (some ⟨gb, 0, none⟩) na cb] w7 fun e w' =>
       ∃ xs' ys' : List Nat, e = .returned (.tuple #[]) ∧ Blk w' ga (xs' ++ qa) ∧ Blk w' gb (ys' ++ qb.drop (na - nb)) ∧ xs'.length = na ∧ ys'.length = na ∧ M.Low B64 xs' ∧ M.Low B64 ys' ∧ M.val B64 xs' = X' ∧ M.val B64 ys' = Y' ∧ Grew2 ga gb w7 w') := by
      have hca : (M.digs B64 A).length ≤ cb := by
       have := R.out.cap
       rw [CB.out] at this
       exact this
      have := take_walk a b c d ga gb 118 (M.digs B64 A) (M.digs B64 B ++ List.replicate (na - nb) 0) qa (qb.drop (na - nb)) ca na cb w7 ka7 k7 R.out.ne (by rw [ln, NA.out]) HA.out HB.out HC.out HD.out (M.Low.digs B64_two A)
       ((M.Low.digs B64_two B).append (low_zeros _)) hca (by rw [NA.out]; have := R.out.size; rw [NA.out] at this; omega) X' Y'
       (by rw [M.val_digs B64_two, vB]; rcases eu.take with ⟨h, -⟩ | ⟨h, -⟩; exact Or.inl h; exact Or.inr h) (by rw [M.val_digs B64_two, vB]; rcases eu.take with ⟨-, h⟩ | ⟨-, h⟩; exact Or.inr h; exact Or.inl h)
       (by rw [NA.out]; omega) (by rw [NA.out]; omega)
      rw [NA.out] at this
      exact this
     have EU := shut eu
     have HXA := shut hXA
     have HYB := shut hYB
     have YX := shut yx
     clear s0 s1 s2 s3 eu hXA hYB yx c1' d1' ln vB hA LO
     go_wp2_with fail
     refine (TK.out).mono ?_
     rintro e w8 ⟨xs', ys', rfl, k8, k9, n8, n9, lx8, ly8, v8, v9, g8⟩
     have hna4 : na ≤ 4000 := by have := R.out.size; rw [NA.out] at this; exact this
     have lca : na ≤ ca := by have h1 := NA.out; have h2 := CA.out; rw [List.length_append] at h2; omega
     have lcb : na ≤ cb := by have h1 := R.out.cap; rw [NA.out, CB.out] at h1; exact h1
     have SX := shut (shorter_any w8 (some ⟨ga, 0, none⟩) ca xs' (Bk.rd (t := 118) k8 ca (by omega)) lx8 (by omega))
     have SY := shut (shorter_any w8 (some ⟨gb, 0, none⟩) cb ys' (Bk.rd (t := 118) k9 cb (by omega)) ly8 (by omega))
     rw [n8, v8] at SX
     rw [n9, v9] at SY
     have N8 := shut n8
     have N9 := shut n9
     clear n8 n9 v8 v9
     go_wp2_with fail
     refine (SX.out).mono ?_
     rintro e w9 ⟨i1, rfl, li1, t8, rfl⟩
     go_wp2_with fail
     refine (SY.out).mono ?_
     rintro e w10 ⟨i2, rfl, li2, t9, rfl⟩
     have T8 := shut t8
     have T9 := shut t9
     clear t8 t9
     go_wp2
     have d8 : M.digs B64 X' ++ (xs'.drop i1 ++ qa) = xs' ++ qa := by rw [← T8.out, ← List.append_assoc, List.take_append_drop]
     have d9 : M.digs B64 Y' ++ (ys'.drop i2 ++ qb.drop (na - nb)) = ys' ++ qb.drop (na - nb) := by rw [← T9.out, ← List.append_assoc, List.take_append_drop]
     have n1 : (M.digs B64 X').length = i1 := by rw [← T8.out, List.length_take, N8.out]; omega
     have n2 : (M.digs B64 Y').length = i2 := by rw [← T9.out, List.length_take, N9.out]; omega
     have c8 : (xs' ++ qa).length = ca := by
      have h1 := NA.out
      have h2 := CA.out
      rw [List.length_append] at h2 ⊢
      rw [N8.out]
      omega
     have c9 : (ys' ++ qb.drop (na - nb)).length = cb := by
      have h1 := NB.out
      have h2 := CB.out
      have l1 := digs_mono' R.out.le
      rw [NA.out, NB.out] at l1
      rw [List.length_append] at h2 ⊢
      rw [N9.out, List.length_drop]
      omega
     have g7 : Grew2 ga gb w6 w7 := Grew2.right o7
     refine ⟨⟨ga, gb, X', Y', xs'.drop i1 ++ qa, ys'.drop i2 ++ qb.drop (na - nb), by rw [n1, d8, c8], by rw [n2, d9, c9], ?_⟩, ?_⟩
     ·refine ⟨by rw [d8]; exact k8, by rw [d9]; exact k9, R.out.ne, R.out.fa, R.out.fb, by rw [n1, d9, c9]; omega, Nat.le_of_lt YX.out, by rw [EU.out.gcd]; exact R.out.gcd, by omega, ?_, ?_⟩
      ·exact (R.out.tab.grew2 R.out.ka R.out.kb g7).grew2 ka7 k7 g8
      ·exact (R.out.gr.put g7 R.out.fa R.out.fb).put g8 R.out.fa R.out.fb
     ·have m9 := rowN_eq (g := gb) (A := Y') (q := ys'.drop i2 ++ qb.drop (na - nb)) (by rw [d9]; exact k9)
      unfold slX at m9
      rw [n2, d9, c9] at m9
      rw [m9, ME.out]
      exact HYB.out
   ·have hn1 : ¬ (1 : Int) < ((M.digs B64 B).length : Nat) := by omega
    rcases Nat.eq_zero_or_pos B with hB0 | hB0
    ·have z : M.digs B64 B = [] := by rw [hB0, M.digs_zero]
     have rA := RR.rdA
     have gg := RR.gcd
     rw [hB0, Nat.gcd_zero_right] at gg
     have GR := shut RR.gr
     have RA := shut rA
     have GG := shut gg
     clear gg rA R ME RR hn hn1
     unfold slX at *
     rw [z]
     go_wp2_with fail
     go_ret
     exact ⟨_, rfl, by rw [HG.out, ← GG.out]; exact RA.out, GR.out⟩
    ·have lB : B < B64 := by
      have h1 := M.val_lt B64_pos (M.Low.digs B64_two B)
      rw [M.val_digs B64_two] at h1
      have h2 : B64 ^ (M.digs B64 B).length ≤ B64 ^ 1 := Nat.pow_le_pow_right B64_pos (by omega)
      rw [Nat.pow_one] at h2
      omega
     have z : M.digs B64 B = [B] := dig_one (by omega) lB
     have hGd : M.digs B64 (Nat.gcd B (A % B)) = [Nat.gcd B (A % B)] := dig_one (by have := Nat.gcd_pos_of_pos_left (A % B) hB0; omega) (Nat.lt_of_le_of_lt (Nat.le_of_dvd hB0 (Nat.gcd_dvd_left _ _)) lB)
     have gg : Nat.gcd B (A % B) = G := by rw [Nat.gcd_comm, ← Nat.gcd_rec, Nat.gcd_comm]; exact RR.gcd
     have DM : Hid (Calls Tryz.prog 90 #[slX ga A qa, slX gb B qb] wr fun e w' => ∃ q r, e = .returned (.tuple #[q, r, .int .i64 0]) ∧ Rd w' q (M.digs B64 (A / B)) ∧ Rd w' r (M.digs B64 (A % B)) ∧ Below wr.heap.size wr w') := by
      have l1 := digs_mono' RR.le
      refine (divmod_any _ _ _ _ wr RR.rdA RR.rdB (M.Low.digs B64_two A) (M.Low.digs B64_two B) RR.size (Nat.le_trans l1 RR.size)).mono ?_
      rintro e w' ⟨-, h, hb⟩
      rw [M.val_digs B64_two, M.val_digs B64_two] at h
      obtain ⟨q, r, h1, h2, h3⟩ := h hB0
      exact ⟨q, r, h1, h2, h3, hb⟩
     have LD := shut (fun v w => ldiv_both B (A % B) v w hB0 lB (Nat.mod_lt _ hB0))
     have kb := RR.kb
     rw [z] at kb
     have R2 := shut RR
     unfold slX at *
     rw [z] at DM ⊢
     generalize hna : (M.digs B64 A).length = na at *
     generalize hca : (M.digs B64 A ++ qa).length = ca at *
     generalize hcb : ([B] ++ qb).length = cb at *
     have hcb0 : 1 ≤ cb := by rw [← hcb]; simp
     have GG := shut gg
     have HGD := shut hGd
     have ic : ((0 : Nat) : Int) < cb := by omega
     clear hna hca hcb R ME RR hn hn1 gg hGd z
     simp only [List.length_cons, List.length_nil, Nat.zero_add] at *
     go_wp2_with fail
     refine (DM.out).mono ?_
     rintro e w7 ⟨q, r, rfl, rq, rr, b7⟩
     have y0 := (kb.below b7).cell (j := 0) (by simp)
     rw [show lm ([B] ++ qb) 0 = B from rfl] at y0
     have LD2 := shut (LD.out r w7 rr (R2.out.below b7).tab)
     have RR2 := shut (R2.out.below b7)
     obtain ⟨aq, cq, rfl, -, -⟩ := id rq
     obtain ⟨ar, cr, rfl, -, -⟩ := id rr
     clear rr rq b7 LD R2 kb DM
     go_wp2_with fail
     refine (LD2.out).mono ?_
     rintro e w8 ⟨rfl, rfl⟩
     clear LD2 y0
     go_wp2
     go_ret
     refine ⟨_, rfl, ?_, RR2.out.gr.of_below ((Below.refl _ _).alloc (Nat.le_refl _) _)⟩
     rw [HG.out, ← GG.out, HGD.out]
     exact rd1 _ rfl _
 ·have c1 : ¬ cmpN X Y < 0 := by
   rcases Nat.lt_or_ge Y X with h | h
   ·rw [cmpN_gt h]; omega
   ·rw [cmpN_eq (by omega)]; omega
  generalize cmpN X Y = cc at *
  have HM0 := shut hm0
  have HM1 := shut hm1
  have hle : m1 ≤ m0 := by rw [← hm0, ← hm1]; exact digs_mono' (by omega)
  have RY : Hid (∀ w1, Below w.heap.size w w1 → ∀ w2, Below w1.heap.size w1 w2 → Rd w2 (.slice (some ⟨g1, 0, none⟩) m1 m1) (M.digs B64 Y)) := by
   intro w1 b1 w2 b2
   rw [← hm1]
   exact ((k1.below b1).below b2).rd0 _ (Nat.le_refl _)
  have FIT : Hid ((M.digs B64 Y).length ≤ m0) := by show _ ≤ _; omega
  clear hm0 hm1
  go_enter Tryz.func89, Tryz.ntmps89
  go_wp2_with fail
  refine (HC.out).mono ?_
  rintro e w1 ⟨rfl, b1⟩
  go_wp2_with (first
   | (at_make; refine wpList_mk2 rfl _ _ rfl _ _ 0 m0 rfl rfl (by omega) (by omega) (by omega) (by omega) ?_; intro w2 kn b2)
   | (at_builtin; refine wpList_appB rfl _ _ rfl w1.heap.size m0 (List.replicate m0 0) (M.digs B64 Y) rfl kn (by simp) (.slice (some ⟨g1, 0, none⟩) m1 m1) rfl (RY.out w1 b1 w2 b2) FIT.out ?_; intro w3 kn3 o3))
  have IN : Hid (Rows2 g0 g1 (Nat.gcd X Y) w w3 g0 w1.heap.size X Y [] (List.drop (M.digs B64 Y).length (List.replicate m0 0))) := by
   have l0 := k0.lt
   have e1 := b1.size
   have hb3 : Below w1.heap.size w1 w3 := ⟨o3.os.trans b2.os, o3.tape.trans b2.tape, o3.output.trans b2.output, by rw [o3.size]; exact b2.size, fun i hi => (o3.block i (by omega)).trans (b2.block i hi)⟩
   have hbb := Below.after b1 hb3
   refine ⟨by simpa using k0.below hbb, kn3, by omega, Or.inl rfl, Or.inr (Or.inr e1), ?_, by omega, rfl, by rw [HM0.out]; exact h0, hT.below hbb, Grew2.of hbb⟩
   have := FIT.out
   rw [HM0.out, List.length_append, List.length_drop, List.length_replicate]
   omega
  have V0 : Hid (Value.slice (some ⟨g0, 0, none⟩) m0 m0 = slX g0 X []) := by
   show _ = _
   unfold slX
   rw [List.append_nil, HM0.out]
  have V1 : Hid (Value.slice (some ⟨w1.heap.size, 0, none⟩) (M.digs B64 Y).length m0 = slX w1.heap.size Y (List.drop (M.digs B64 Y).length (List.replicate m0 0))) := by
   have := FIT.out
   have e : (M.digs B64 Y ++ List.drop (M.digs B64 Y).length (List.replicate m0 0)).length = m0 := by rw [List.length_append, List.length_drop, List.length_replicate]; omega
   show _ = _
   unfold slX
   rw [e]
  generalize hG : Nat.gcd X Y = G at *
  have HG := shut hG
  clear hG kn3 o3 kn b2 b1 k0 k1 hT HC RY FIT hle
  go_loopw [0, 1] (fun vx vy wr => ∃ ga gb A B qa qb, vx = slX ga A qa ∧ vy = slX gb B qb ∧ Rows2 g0 g1 G w wr ga gb A B qa qb) (fun _ vy wr => rowN vy wr)
  case atStart => exact ⟨_, _, _, _, _, _, V0.out, V1.out, IN.out⟩
  case round =>
   clear V0 V1 IN
   obtain ⟨ga, gb, A, B, qa, qb, rfl, rfl, RR⟩ := hrel
   have ME := shut (rowN_eq RR.kb)
   have R := shut RR
   by_cases hn : 1 < (M.digs B64 B).length
   ·have LS : Hid (Calls Tryz.prog 119 #[slX ga A qa, slX gb B qb] wr fun e w' => ∃ a b c d : Nat, e = .returned (stV a b c d) ∧ a < B64 ∧ b < B64 ∧ c < B64 ∧ d < B64 ∧
      (b = 0 ∨ ∃ X' Y', M.Eu a b c d A B X' Y' ∧ 0 < Y' ∧ Y' < X' ∧ 1 ≤ c ∧ 1 ≤ d) ∧ Below wr.heap.size wr w') := by
     have l1 := digs_mono' RR.le
     have l2 := RR.size
     have := lsteps_any (some ⟨ga, 0, none⟩) (some ⟨gb, 0, none⟩) (M.digs B64 A ++ qa).length (M.digs B64 B ++ qb).length ((M.digs B64 A).length - 1) (M.digs B64 A) (M.digs B64 B) wr RR.rdA RR.rdB (M.Low.digs B64_two A) (M.Low.digs B64_two B) (by omega) (by omega) (by omega) (by omega)
      (by have := M.trim_digs B64_two A ((M.digs B64 A).length - 1) (by omega); unfold lm; omega) (by rw [M.val_digs B64_two, M.val_digs B64_two]; exact RR.le)
     rw [M.val_digs B64_two, M.val_digs B64_two] at this
     exact this
    have hn1 : (1 : Int) < ((M.digs B64 B).length : Nat) := by omega
    have HN := shut hn
    unfold slX at *
    generalize hna : (M.digs B64 A).length = na at *
    generalize hnb : (M.digs B64 B).length = nb at *
    generalize hca : (M.digs B64 A ++ qa).length = ca at *
    generalize hcb : (M.digs B64 B ++ qb).length = cb at *
    have NA := shut hna
    have NB := shut hnb
    have CA := shut hca
    have CB := shut hcb
    clear hna hnb hca hcb RR hn
    go_wp2_with fail
    refine (LS.out).mono ?_
    rintro e w4 ⟨a, b, c, d, rfl, ha, hb, hc, hd, hs, b4⟩
    unfold stV
    have NO := shut (fun w => none_any a b c d w)
    unfold stV at NO
    obtain ⟨w5, hw5⟩ : ∃ w5, w5 = w4.alloc (.cells #[.int .u64 (a : Nat), .int .u64 (b : Nat), .int .u64 (c : Nat), .int .u64 (d : Nat)] 164) := ⟨_, rfl⟩
    have kS : Cel w5 w4.heap.size [.int .u64 (a : Nat), .int .u64 (b : Nat), .int .u64 (c : Nat), .int .u64 (d : Nat)] 164 := by rw [hw5]; exact Cel.new _ _ _
    have b5 : Below w4.heap.size w4 w5 := by rw [hw5]; go_grown
    have lga := (R.out.below b4).ka.lt
    have lgb := (R.out.below b4).kb.lt
    replace R := shut ((R.out.below b4).below b5)
    go_wp2_with fail
    rw [← hw5]
    clear hw5
    refine (NO.out _).mono ?_
    rintro e w6 ⟨rfl, b6⟩
    replace kS := kS.below b6
    replace R := shut (R.out.below b6)
    have s0 := celq0 kS
    have s1 := celq1 kS
    have s2 := celq2 kS
    have s3 := celq3 kS
    have HA := shut ha
    have HB := shut hb
    have HC := shut hc
    have HD := shut hd
    have HS := shut hs
    clear NO LS b4 b5 b6 ha hb hc hd hs
    have hB0 : 0 < B := by
     rcases Nat.eq_zero_or_pos B with e | e
     ·have h2 := HN.out
      have h3 := NB.out
      rw [e, M.digs_zero] at h3
      simp at h3
      omega
     ·exact e
    by_cases hb0 : b = 0
    ·have DM : Hid (Calls Tryz.prog 90 #[.slice (some ⟨ga, 0, none⟩) na ca, .slice (some ⟨gb, 0, none⟩) nb cb] w6 fun e w' => ∃ q r, e = .returned (.tuple #[q, r, .int .i64 0]) ∧ Rd w' r (M.digs B64 (A % B)) ∧ Below w6.heap.size w6 w') := by
      have rA := R.out.rdA
      have rB := R.out.rdB
      unfold slX at rA rB
      rw [NA.out, CA.out] at rA
      rw [NB.out, CB.out] at rB
      have l1 := digs_mono' R.out.le
      refine (divmod_any _ _ _ _ w6 rA rB (M.Low.digs B64_two A) (M.Low.digs B64_two B) R.out.size (Nat.le_trans l1 R.out.size)).mono ?_
      rintro e w' ⟨-, h, hb⟩
      rw [M.val_digs B64_two, M.val_digs B64_two] at h
      obtain ⟨q, r, h1, -, h3⟩ := h hB0
      exact ⟨q, r, h1, h3, hb⟩
     rw [decide_eq_true hb0]
     go_wp2_with fail
     refine (DM.out).mono ?_
     rintro e w7 ⟨q, r, rfl, rr, b7⟩
     replace R := shut (R.out.below b7)
     have KA := shut R.out.ka
     have l3 : (M.digs B64 (A % B)).length ≤ ca := by
      have l1 := digs_mono' (Nat.le_trans (Nat.le_of_lt (Nat.mod_lt A hB0)) R.out.le)
      have := CA.out
      rw [List.length_append] at this
      omega
     have L3 := shut l3
     have RR := shut rr
     obtain ⟨ar, cr, rfl, -, -⟩ := id rr
     clear rr l3 b7 DM
     go_wp2_with (first
      | (at_builtin; refine wpList_appB rfl _ _ rfl ga ca (M.digs B64 A ++ qa) (M.digs B64 (A % B)) rfl KA.out CA.out _ rfl RR.out L3.out ?_; intro w8 k8 o8))
     have e8 : (M.digs B64 (A % B) ++ (M.digs B64 A ++ qa).drop (M.digs B64 (A % B)).length).length = ca := by
      have := L3.out
      have := CA.out
      rw [List.length_append, List.length_drop]
      omega
     refine ⟨⟨gb, ga, B, A % B, qb, (M.digs B64 A ++ qa).drop (M.digs B64 (A % B)).length, by rw [NB.out, CB.out], by rw [e8], R.out.divided hB0 k8 o8⟩, ?_⟩
     have m8 := rowN_eq k8
     unfold slX at m8
     rw [e8] at m8
     rw [m8, ME.out]
     exact Nat.mod_lt A hB0
    ·rw [decide_eq_false hb0]
     have LO : Hid (Calls Tryz.prog 121 #[.slice (some ⟨gb, 0, none⟩) nb cb, .int .i64 (na : Nat)] w6 fun e w' => e = .returned (.slice (some ⟨gb, 0, none⟩) na cb) ∧ Blk w' gb (M.digs B64 B ++ List.replicate (na - nb) 0 ++ qb.drop (na - nb)) ∧ Only gb w6 w') := by
      have l1 := digs_mono' R.out.le
      have l2 := R.out.cap
      have l4 := R.out.size
      have e1 := NA.out
      have e2 := NB.out
      have := longer_any gb (M.digs B64 B) qb na cb w6 R.out.kb (by omega) (by omega) CB.out.symm (by omega)
      rw [NB.out] at this
      exact this
     go_wp2_with fail
     refine (LO.out).mono ?_
     rintro e w7 ⟨rfl, k7, o7⟩
     have kS7 : Cel w7 w4.heap.size [.int .u64 (a : Nat), .int .u64 (b : Nat), .int .u64 (c : Nat), .int .u64 (d : Nat)] 164 := by
      unfold Cel at kS ⊢
      rw [o7.block _ (by omega)]; exact kS
     have ka7 : Blk w7 ga (M.digs B64 A ++ qa) := o7.blk R.out.ka R.out.ne
     have t0 := celq0 kS7
     have t1 := celq1 kS7
     have t2 := celq2 kS7
     have t3 := celq3 kS7
     obtain ⟨X', Y', eu, y0, yx, c1', d1'⟩ : ∃ X' Y', M.Eu a b c d A B X' Y' ∧ 0 < Y' ∧ Y' < X' ∧ 1 ≤ c ∧ 1 ≤ d := by
      rcases HS.out with h | h
      ·exact absurd h hb0
      ·exact h
     have hXA : X' ≤ A := by
      have := eu.x
      have := Nat.mul_le_mul_right X' d1'
      omega
     have hYB : Y' < B := by
      have := eu.y
      have := Nat.mul_le_mul_right X' c1'
      omega
     have ln : (M.digs B64 B ++ List.replicate (na - nb) 0).length = na := by
      have l1 := digs_mono' R.out.le
      rw [NA.out, NB.out] at l1
      rw [List.length_append, List.length_replicate, NB.out]
      omega
     have vB : M.val B64 (M.digs B64 B ++ List.replicate (na - nb) 0) = B := by
      rw [M.val_append, M.val_digs B64_two, val_zeros, Nat.mul_zero, Nat.add_zero]
     have hA : A < B64 ^ na := by
      have := M.val_lt B64_pos (M.Low.digs B64_two A)
      rwa [M.val_digs B64_two, NA.out] at this
     have TK : Hid (Calls Tryz.prog 122 #[.agg #[.int .u64 (a : Nat), .int .u64 (b : Nat), .int .u64 (c : Nat), .int .u64 (d : Nat)], .slice (some ⟨ga, 0, none⟩) na ca, .slice (some ⟨gb, 0, none⟩) na cb] w7 fun e w' =>
       ∃ xs' ys' : List Nat, e = .returned (.tuple #[]) ∧ Blk w' ga (xs' ++ qa) ∧ Blk w' gb (ys' ++ qb.drop (na - nb)) ∧ xs'.length = na ∧ ys'.length = na ∧ M.Low B64 xs' ∧ M.Low B64 ys' ∧ M.val B64 xs' = X' ∧ M.val B64 ys' = Y' ∧ Grew2 ga gb w7 w') := by
      have hca : (M.digs B64 A).length ≤ cb := by
       have := R.out.cap
       rw [CB.out] at this
       exact this
      have := take_walk a b c d ga gb 118 (M.digs B64 A) (M.digs B64 B ++ List.replicate (na - nb) 0) qa (qb.drop (na - nb)) ca na cb w7 ka7 k7 R.out.ne (by rw [ln, NA.out]) HA.out HB.out HC.out HD.out (M.Low.digs B64_two A)
       ((M.Low.digs B64_two B).append (low_zeros _)) hca (by rw [NA.out]; have := R.out.size; rw [NA.out] at this; omega) X' Y'
       (by rw [M.val_digs B64_two, vB]; rcases eu.take with ⟨h, -⟩ | ⟨h, -⟩; exact Or.inl h; exact Or.inr h) (by rw [M.val_digs B64_two, vB]; rcases eu.take with ⟨-, h⟩ | ⟨-, h⟩; exact Or.inr h; exact Or.inl h)
       (by rw [NA.out]; omega) (by rw [NA.out]; omega)
      rw [NA.out] at this
      exact this
     have EU := shut eu
     have HXA := shut hXA
     have HYB := shut hYB
     have YX := shut yx
     clear s0 s1 s2 s3 eu hXA hYB yx c1' d1' ln vB hA LO
     go_wp2_with fail
     refine (TK.out).mono ?_
     rintro e w8 ⟨xs', ys', rfl, k8, k9, n8, n9, lx8, ly8, v8, v9, g8⟩
     have hna4 : na ≤ 4000 := by have := R.out.size; rw [NA.out] at this; exact this
     have lca : na ≤ ca := by have h1 := NA.out; have h2 := CA.out; rw [List.length_append] at h2; omega
     have lcb : na ≤ cb := by have h1 := R.out.cap; rw [NA.out, CB.out] at h1; exact h1
     have SX := shut (shorter_any w8 (some ⟨ga, 0, none⟩) ca xs' (Bk.rd (t := 118) k8 ca (by omega)) lx8 (by omega))
     have SY := shut (shorter_any w8 (some ⟨gb, 0, none⟩) cb ys' (Bk.rd (t := 118) k9 cb (by omega)) ly8 (by omega))
     rw [n8, v8] at SX
     rw [n9, v9] at SY
     have N8 := shut n8
     have N9 := shut n9
     clear n8 n9 v8 v9
     go_wp2_with fail
     refine (SX.out).mono ?_
     rintro e w9 ⟨i1, rfl, li1, t8, rfl⟩
     go_wp2_with fail
     refine (SY.out).mono ?_
     rintro e w10 ⟨i2, rfl, li2, t9, rfl⟩
     have T8 := shut t8
     have T9 := shut t9
     clear t8 t9
     go_wp2
     have d8 : M.digs B64 X' ++ (xs'.drop i1 ++ qa) = xs' ++ qa := by rw [← T8.out, ← List.append_assoc, List.take_append_drop]
     have d9 : M.digs B64 Y' ++ (ys'.drop i2 ++ qb.drop (na - nb)) = ys' ++ qb.drop (na - nb) := by rw [← T9.out, ← List.append_assoc, List.take_append_drop]
     have n1 : (M.digs B64 X').length = i1 := by rw [← T8.out, List.length_take, N8.out]; omega
     have n2 : (M.digs B64 Y').length = i2 := by rw [← T9.out, List.length_take, N9.out]; omega
     have c8 : (xs' ++ qa).length = ca := by
      have h1 := NA.out
      have h2 := CA.out
      rw [List.length_append] at h2 ⊢
      rw [N8.out]
      omega
     have c9 : (ys' ++ qb.drop (na - nb)).length = cb := by
      have h1 := NB.out
      have h2 := CB.out
      have l1 := digs_mono' R.out.le
      rw [NA.out, NB.out] at l1
      rw [List.length_append] at h2 ⊢
      rw [N9.out, List.length_drop]
      omega
     have g7 : Grew2 ga gb w6 w7 := Grew2.right o7
     refine ⟨⟨ga, gb, X', Y', xs'.drop i1 ++ qa, ys'.drop i2 ++ qb.drop (na - nb), by rw [n1, d8, c8], by rw [n2, d9, c9], ?_⟩, ?_⟩
     ·refine ⟨by rw [d8]; exact k8, by rw [d9]; exact k9, R.out.ne, R.out.fa, R.out.fb, by rw [n1, d9, c9]; omega, Nat.le_of_lt YX.out, by rw [EU.out.gcd]; exact R.out.gcd, by omega, ?_, ?_⟩
      ·exact (R.out.tab.grew2 R.out.ka R.out.kb g7).grew2 ka7 k7 g8
      ·exact (R.out.gr.put g7 R.out.fa R.out.fb).put g8 R.out.fa R.out.fb
     ·have m9 := rowN_eq (g := gb) (A := Y') (q := ys'.drop i2 ++ qb.drop (na - nb)) (by rw [d9]; exact k9)
      unfold slX at m9
      rw [n2, d9, c9] at m9
      rw [m9, ME.out]
      exact HYB.out
   ·have hn1 : ¬ (1 : Int) < ((M.digs B64 B).length : Nat) := by omega
    rcases Nat.eq_zero_or_pos B with hB0 | hB0
    ·have z : M.digs B64 B = [] := by rw [hB0, M.digs_zero]
     have rA := RR.rdA
     have gg := RR.gcd
     rw [hB0, Nat.gcd_zero_right] at gg
     have GR := shut RR.gr
     have RA := shut rA
     have GG := shut gg
     clear gg rA R ME RR hn hn1
     unfold slX at *
     rw [z]
     go_wp2_with fail
     go_ret
     exact ⟨_, rfl, by rw [HG.out, ← GG.out]; exact RA.out, GR.out⟩
    ·have lB : B < B64 := by
      have h1 := M.val_lt B64_pos (M.Low.digs B64_two B)
      rw [M.val_digs B64_two] at h1
      have h2 : B64 ^ (M.digs B64 B).length ≤ B64 ^ 1 := Nat.pow_le_pow_right B64_pos (by omega)
      rw [Nat.pow_one] at h2
      omega
     have z : M.digs B64 B = [B] := dig_one (by omega) lB
     have hGd : M.digs B64 (Nat.gcd B (A % B)) = [Nat.gcd B (A % B)] := dig_one (by have := Nat.gcd_pos_of_pos_left (A % B) hB0; omega) (Nat.lt_of_le_of_lt (Nat.le_of_dvd hB0 (Nat.gcd_dvd_left _ _)) lB)
     have gg : Nat.gcd B (A % B) = G := by rw [Nat.gcd_comm, ← Nat.gcd_rec, Nat.gcd_comm]; exact RR.gcd
     have DM : Hid (Calls Tryz.prog 90 #[slX ga A qa, slX gb B qb] wr fun e w' => ∃ q r, e = .returned (.tuple #[q, r, .int .i64 0]) ∧ Rd w' q (M.digs B64 (A / B)) ∧ Rd w' r (M.digs B64 (A % B)) ∧ Below wr.heap.size wr w') := by
      have l1 := digs_mono' RR.le
      refine (divmod_any _ _ _ _ wr RR.rdA RR.rdB (M.Low.digs B64_two A) (M.Low.digs B64_two B) RR.size (Nat.le_trans l1 RR.size)).mono ?_
      rintro e w' ⟨-, h, hb⟩
      rw [M.val_digs B64_two, M.val_digs B64_two] at h
      obtain ⟨q, r, h1, h2, h3⟩ := h hB0
      exact ⟨q, r, h1, h2, h3, hb⟩
     have LD := shut (fun v w => ldiv_both B (A % B) v w hB0 lB (Nat.mod_lt _ hB0))
     have kb := RR.kb
     rw [z] at kb
     have R2 := shut RR
     unfold slX at *
     rw [z] at DM ⊢
     generalize hna : (M.digs B64 A).length = na at *
     generalize hca : (M.digs B64 A ++ qa).length = ca at *
     generalize hcb : ([B] ++ qb).length = cb at *
     have hcb0 : 1 ≤ cb := by rw [← hcb]; simp
     have GG := shut gg
     have HGD := shut hGd
     have ic : ((0 : Nat) : Int) < cb := by omega
     clear hna hca hcb R ME RR hn hn1 gg hGd z
     simp only [List.length_cons, List.length_nil, Nat.zero_add] at *
     go_wp2_with fail
     refine (DM.out).mono ?_
     rintro e w7 ⟨q, r, rfl, rq, rr, b7⟩
     have y0 := (kb.below b7).cell (j := 0) (by simp)
     rw [show lm ([B] ++ qb) 0 = B from rfl] at y0
     have LD2 := shut (LD.out r w7 rr (R2.out.below b7).tab)
     have RR2 := shut (R2.out.below b7)
     obtain ⟨aq, cq, rfl, -, -⟩ := id rq
     obtain ⟨ar, cr, rfl, -, -⟩ := id rr
     clear rr rq b7 LD R2 kb DM
     go_wp2_with fail
     refine (LD2.out).mono ?_
     rintro e w8 ⟨rfl, rfl⟩
     clear LD2 y0
     go_wp2
     go_ret
     refine ⟨_, rfl, ?_, RR2.out.gr.of_below ((Below.refl _ _).alloc (Nat.le_refl _) _)⟩
     rw [HG.out, ← GG.out, HGD.out]
     exact rd1 _ rfl _
end Go.Proofs.YtbafjmjcepcckaaGreatDoor
namespace Go.Proofs.YtbafjmjcepcckaaGreatDoor
open Go.RowKit Go.Shelf
theorem Below.of_grew2 {w w1 w2 w3 : World} {g0 g1 : Nat} (bb : Below w.heap.size w w1) (h2 : Grew2 g0 g1 w1.drew w2) (h3 : Below w2.heap.size w2 w3) (l0 : w.heap.size ≤ g0) (l1 : w.heap.size ≤ g1) : Below w.heap.size w w3 :=
 Below.after (Grew2.below (show Below w.heap.size w w1.drew from bb.drew) h2 bb.size l0 l1) h3
theorem nat_ltK {s : ByteArray} {K : Nat} (h : s.size ≤ 8 * K) : natOf s < B64 ^ K := by
 refine Nat.lt_of_lt_of_le (natOf_lt s) ?_
 rw [B64_pow]
 exact Nat.pow_le_pow_right (by omega) h
theorem digs_leK {s : ByteArray} {K : Nat} (h : s.size ≤ 8 * K) : (M.digs B64 (natOf s)).length ≤ K := M.digs_len_of_lt B64_two (nat_ltK h)
theorem gcd_le_max (a b : Nat) : Nat.gcd a b ≤ max a b := by
 rcases Nat.eq_zero_or_pos a with h | h
 ·rw [h, Nat.gcd_zero_left]; omega
 ·have := Nat.le_of_dvd h (Nat.gcd_dvd_left a b); omega
theorem gcd_ltK {s0 s1 : ByteArray} {K : Nat} (h0 : s0.size ≤ 8 * K) (h1 : s1.size ≤ 8 * K) : Nat.gcd (natOf s0) (natOf s1) < B64 ^ K := by
 have a := nat_ltK h0
 have b := nat_ltK h1
 have c := gcd_le_max (natOf s0) (natOf s1)
 generalize B64 ^ K = P at *
 omega
theorem tellG {s0 s1 : ByteArray} {K : Nat} (hK : K ≤ 4000) (h0 : s0.size ≤ 8 * K) (h1 : s1.size ≤ 8 * K) (v : Value) (wx : World) (hr : Rd wx v (M.digs B64 (Nat.gcd (natOf s0) (natOf s1)))) :
  Calls Tryz.prog 87 #[.agg #[.bool false, v]] wx (Re wx (zI (sgn false (Nat.gcd (natOf s0) (natOf s1))))) := tell_dig false hK (gcd_ltK h0 h1) v wx hr
theorem zgcd_ok (n0 n1 : Bool) (s0 s1 : ByteArray) (w : World) (o0 : OkZ n0 s0) (o1 : OkZ n1 s1) (z0 : s0.size ≤ 32000) (z1 : s1.size ≤ 32000) (hT : Tab w) :
  Calls Tryz.prog 55 #[.agg #[.bool n0, .string s0], .agg #[.bool n1, .string s1]] w (Re w (.tuple #[zI (Nat.gcd (natOf s0) (natOf s1) : Nat), .int .i64 0])) := by
 have HT := shut (tellG (s0 := s0) (s1 := s1) (K := 4000) (by omega) (by omega) (by omega))
 have hz : sgn false (Nat.gcd (natOf s0) (natOf s1)) = ((Nat.gcd (natOf s0) (natOf s1) : Nat) : Int) := rfl
 rw [hz] at HT
 generalize hR : zI ((Nat.gcd (natOf s0) (natOf s1) : Nat) : Int) = R at *
 obtain ⟨za, zb, rfl⟩ : ∃ a b, R = .agg #[.bool a, .string b] := ⟨_, _, hR.symm⟩
 clear hR hz
 go_enter Tryz.func55, Tryz.ntmps55
 go_wp2_with fail
 obtain ⟨w0, hw0, k0, k1, k2, k3, hb0⟩ := boxes4 w (.bool n0) (.string s0) (.bool n1) (.string s1)
 rw [← hw0]
 clear hw0
 refine (read2_own _ n0 n1 s0 s1 w0 k3 o0 o1 z0 z1).mono ?_
 rintro e w1 ⟨g, g0, g1, m0, m1, rfl, kg, e0, e1, r0, r1, hg, hg0, hg1, hb⟩
 have c0 := kg.cell 0
 have c1 := kg.cell 1
 have c2 := kg.cell 2
 have c3 := kg.cell 3
 simp only [List.getElem?_cons_zero, List.getElem?_cons_succ] at c0 c1 c2 c3
 have lt2 := k2.lt
 have m2 := k2.below hb
 have bb := Below.after hb0 hb
 have d0 := digs_leK (s := s0) (K := 4000) (by omega)
 have d1 := digs_leK (s := s1) (K := 4000) (by omega)
 have H55 := shut (cdiv_any g0 g1 (natOf s0) (natOf s1) m0 m1 w1.drew e0 e1 (show Blk w1 _ _ from r0) (show Blk w1 _ _ from r1) (by omega) (by omega) (show Tab w1 from (hT.below hb0).below hb))
 have bs := hb0.size
 clear k0 k1 k2 k3 kg hT e0 e1 r0 r1 d0 d1
 go_wp2
 go_region_with (first | (go_at_call 89; refine (H55.out).mono ?_; rintro e w2 ⟨v, rfl, rv, hb2⟩; obtain ⟨av, cv, rfl, -, -⟩ := id rv) | (go_at_call 87; refine (HT.out _ w2 rv).mono ?_; rintro e w3 ⟨rfl, hb3⟩; have q2 := ((show Cel w1.drew _ _ _ from m2).grew2 hb2 (by omega) (by omega)).below hb3; have e0 := cel2_0 q2; have e1 := cel2_1 q2; have f0 := q2.frozen 0; have f1 := q2.frozen 1))
 all_goals try go_wp2
 all_goals refine post_z1 (p := 4) (u := 5) (by kernel_rfl) rfl rfl rfl ((q2.set 0 _).set 1 _) ⟨rfl, ((Below.of_grew2 bb hb2 hb3 (by omega) (by omega)).setCell (by simp; omega) _).setCell (by simp; omega) _⟩
open Go.RowKit
theorem divisor_plain (n0 n1 : Bool) (s0 s1 : ByteArray) (w : World) (o0 : OkZ n0 s0) (o1 : OkZ n1 s1) (z0 : s0.size ≤ 32000) (z1 : s1.size ≤ 32000) (hT : Tab w) (hne0 : s0 ≠ ⟨#[1]⟩) (hne : s1 ≠ ⟨#[1]⟩) :
  Calls Tryz.prog 104 #[.agg #[.bool n0, .string s0], .agg #[.bool n1, .string s1]] w (Re w (zI ((Nat.gcd (natOf s0) (natOf s1) : Nat) : Int))) := by
 have HA := shut (fun w hT => zgcd_ok n0 n1 s0 s1 w o0 o1 z0 z1 hT)
 generalize hR : zI ((Nat.gcd (natOf s0) (natOf s1) : Nat) : Int) = R at *
 obtain ⟨za, zb, rfl⟩ : ∃ a b, R = .agg #[.bool a, .string b] := ⟨_, _, hR.symm⟩
 clear hR
 have hne0 := ne1 hne0
 have hne := ne1 hne
 go_enter Tryz.func104, Tryz.ntmps104
 go_wp2_with fail
 go_fit (HA.out _ (hT.below (ba (ba (ba (Below.refl _ _) _) _) _)))
 rintro e w1 ⟨rfl, b1⟩
 obtain ⟨ka, kb, kr, b1⟩ := al3 b1
 have bb := b1
 clear b1
 have cr_0 := cel2_0' (kr.alloc (.cells #[.bool za, .string zb] 24))
 have fr_1 := Cel.frozen (kr.alloc (.cells #[.bool za, .string zb] 24)) 0
 have cr_2 := cel2_1' (kr.alloc (.cells #[.bool za, .string zb] 24))
 have fr_3 := Cel.frozen (kr.alloc (.cells #[.bool za, .string zb] 24)) 1
 go_wp2
 have kr' := (kr.alloc (.cells #[.bool za, .string zb] 24))
 exact post_z (p := 4) (by kernel_rfl) rfl rfl ((kr'.set 0 _).set 1 _) ⟨rfl, (Below.setCell (ba bb _) (by simp; omega) _).setCell (by simp; omega) _⟩
theorem divisor_l (n0 n1 : Bool) (s1 : ByteArray) (w : World) :
  Calls Tryz.prog 104 #[.agg #[.bool n0, .string ⟨#[1]⟩], .agg #[.bool n1, .string s1]] w (Re w (.agg #[.bool false, .string ⟨#[1]⟩])) := by
 go_enter Tryz.func104, Tryz.ntmps104
 go_wp2
 obtain ⟨w0, hw, k0, k1, k2, b⟩ := mk3 w [.bool n0, .string ⟨#[1]⟩] [.bool n1, .string s1] [.bool false, .string ⟨#[1]⟩] 24 24 24
 rw [← hw]
 exact post_z (p := 4) (by kernel_rfl) rfl rfl k2 ⟨rfl, b⟩
theorem divisor_r (n0 n1 : Bool) (s0 : ByteArray) (w : World) (hne : s0 ≠ ⟨#[1]⟩) :
  Calls Tryz.prog 104 #[.agg #[.bool n0, .string s0], .agg #[.bool n1, .string ⟨#[1]⟩]] w (Re w (.agg #[.bool false, .string ⟨#[1]⟩])) := by
 have hne := ne1 hne
 go_enter Tryz.func104, Tryz.ntmps104
 go_wp2
 obtain ⟨w0, hw, k0, k1, k2, b⟩ := mk3 w [.bool n0, .string s0] [.bool n1, .string ⟨#[1]⟩] [.bool false, .string ⟨#[1]⟩] 24 24 24
 rw [← hw]
 exact post_z (p := 4) (by kernel_rfl) rfl rfl k2 ⟨rfl, b⟩
theorem divisor_ok (n0 n1 : Bool) (s0 s1 : ByteArray) (w : World) (o0 : OkZ n0 s0) (o1 : OkZ n1 s1) (z0 : s0.size ≤ 32000) (z1 : s1.size ≤ 32000) (hT : Tab w) :
  Calls Tryz.prog 104 #[.agg #[.bool n0, .string s0], .agg #[.bool n1, .string s1]] w (Re w (zI ((Nat.gcd (natOf s0) (natOf s1) : Nat) : Int))) := by
 by_cases h0 : s0 = ⟨#[1]⟩
 ·subst h0
  rw [natOf_one, Nat.gcd_one_left, show (((1 : Nat) : Int)) = 1 from rfl, zI_one]
  exact divisor_l n0 n1 s1 w
 ·by_cases h1 : s1 = ⟨#[1]⟩
  ·subst h1
   rw [natOf_one, Nat.gcd_one_right, show (((1 : Nat) : Int)) = 1 from rfl, zI_one]
   exact divisor_r n0 n1 s0 w h0
  ·exact divisor_plain n0 n1 s0 s1 w o0 o1 z0 z1 hT h0 h1
open Go.RowKit
theorem tooLong_no (B : Nat) (s d : ByteArray) (w : World) (hB : Cel w B [.string s, .string d] 22) (hs : s.size ≤ 8000) (hd : d.size ≤ 8000) :
  Calls Tryz.prog 102 #[.slice (some ⟨B, 0, none⟩) 2 2] w (Re w (.bool false)) := by
 have i0 : ¬ (8000 : Int) < s.size := by omega
 have i1 : ¬ (8000 : Int) < d.size := by omega
 obtain ⟨c0, c1⟩ := xk2 hB
 go_enter Tryz.func102, Tryz.ntmps102
 go_wp2
 go_loopw [7] (fun i wr => wr = w ∧ (i = .int .i64 0 ∨ i = .int .i64 1 ∨ i = .int .i64 2)) (fun i _ => 2 - (intOf i).toNat)
 case atStart => exact ⟨rfl, Or.inl rfl⟩
 case round =>
  obtain ⟨rfl, rfl | rfl | rfl⟩ := hrel
  ·go_wp2
   exact ⟨⟨trivial, Or.inr (Or.inl (by go_num))⟩, by simp [intOf]⟩
  ·go_wp2
   exact ⟨⟨trivial, Or.inr (Or.inr (by go_num))⟩, by simp [intOf]⟩
  ·go_wp2
   go_ret
   exact ⟨rfl, Below.refl _ _⟩
theorem tooLong_1 (B : Nat) (s d : ByteArray) (w : World) (hB : Cel w B [.string s, .string d] 22) (hs : 8000 < s.size) :
  Calls Tryz.prog 102 #[.slice (some ⟨B, 0, none⟩) 2 2] w (Re w (.bool true)) := by
 have i0 : (8000 : Int) < s.size := by omega
 obtain ⟨c0, c1⟩ := xk2 hB
 go_enter Tryz.func102, Tryz.ntmps102
 go_wp2
 go_loopw [7] (fun i wr => wr = w ∧ i = .int .i64 0) (fun i _ => 2 - (intOf i).toNat)
 case atStart => exact ⟨rfl, rfl⟩
 case round =>
  obtain ⟨rfl, rfl⟩ := hrel
  go_wp2
  go_ret
  exact ⟨rfl, Below.refl _ _⟩
theorem tooLong_2 (B : Nat) (s d : ByteArray) (w : World) (hB : Cel w B [.string s, .string d] 22) (hs : s.size ≤ 8000) (hd : 8000 < d.size) :
  Calls Tryz.prog 102 #[.slice (some ⟨B, 0, none⟩) 2 2] w (Re w (.bool true)) := by
 have i0 : ¬ (8000 : Int) < s.size := by omega
 have i1 : (8000 : Int) < d.size := by omega
 obtain ⟨c0, c1⟩ := xk2 hB
 go_enter Tryz.func102, Tryz.ntmps102
 go_wp2
 go_loopw [7] (fun i wr => wr = w ∧ (i = .int .i64 0 ∨ i = .int .i64 1)) (fun i _ => 2 - (intOf i).toNat)
 case atStart => exact ⟨rfl, Or.inl rfl⟩
 case round =>
  obtain ⟨rfl, rfl | rfl⟩ := hrel
  ·go_wp2
   exact ⟨⟨trivial, Or.inr (by go_num)⟩, by simp [intOf]⟩
  ·go_wp2
   go_ret
   exact ⟨rfl, Below.refl _ _⟩
theorem tooLong_any (s d : ByteArray) : ∃ t : Bool, (t = true ↔ 8000 < s.size ∨ 8000 < d.size) ∧ ∀ (B : Nat) (w : World) (_ : Cel w B [.string s, .string d] 22),
  Calls Tryz.prog 102 #[.slice (some ⟨B, 0, none⟩) 2 2] w (Re w (.bool t)) := by
 by_cases hs : 8000 < s.size
 ·exact ⟨true, ⟨fun _ => Or.inl hs, fun _ => rfl⟩, fun B w hB => tooLong_1 B s d w hB hs⟩
 ·by_cases hd : 8000 < d.size
  ·exact ⟨true, ⟨fun _ => Or.inr hd, fun _ => rfl⟩, fun B w hB => tooLong_2 B s d w hB (by omega) hd⟩
  ·exact ⟨false, ⟨fun h => (by cases h), fun h => (by omega)⟩, fun B w hB => tooLong_no B s d w hB (by omega) (by omega)⟩
open Go.RowKit
theorem fld1 (n : Bool) (s : ByteArray) (w : World) : (Instr.field 24 (.agg #[.bool n, .string s]) 1).run Tryz.prog w = .ok (.string s) w := by kernel_rfl
theorem rchk_long (n : Bool) (s d : ByteArray) (w : World)
  (HL : Hid (∀ (B : Nat) (w : World) (_ : Cel w B [.string s, .string d] 22), Calls Tryz.prog 102 #[.slice (some ⟨B, 0, none⟩) 2 2] w (Re w (.bool true)))) :
  Calls Tryz.prog 65 #[.agg #[.bool n, .string s, .string d]] w (Re w (.int .i64 5)) := by
 go_enter Tryz.func65, Tryz.ntmps65
 go_wp2_with fail
 obtain ⟨w0, hw, k0, k1, bb⟩ := mk2 w [.bool n, .string s, .string d] [.string s, .string d] 26 22
 rw [← hw]
 clear hw
 go_fit (HL.out _ w0 k1)
 rintro e w1 ⟨rfl, b1⟩
 replace k0 := k0.below b1
 replace bb := Below.after bb b1
 clear b1 k1
 go_wp2
 go_ret
 exact ⟨rfl, bb⟩
theorem rchk_num (n : Bool) (s d : ByteArray) (w : World) (c : Int) (hc : ¬ c = 0)
  (HL : Hid (∀ (B : Nat) (w : World) (_ : Cel w B [.string s, .string d] 22), Calls Tryz.prog 102 #[.slice (some ⟨B, 0, none⟩) 2 2] w (Re w (.bool false))))
  (HC : Hid (∀ w1, Calls Tryz.prog 103 #[.agg #[.bool n, .string s]] w1 (Re w1 (.int .i64 c)))) :
  Calls Tryz.prog 65 #[.agg #[.bool n, .string s, .string d]] w (Re w (.int .i64 c)) := by
 go_enter Tryz.func65, Tryz.ntmps65
 go_wp2_with fail
 obtain ⟨w0, hw, k0, k1, bb⟩ := mk2 w [.bool n, .string s, .string d] [.string s, .string d] 26 22
 rw [← hw]
 clear hw
 go_fit (HL.out _ w0 k1)
 rintro e w1 ⟨rfl, b1⟩
 replace k0 := k0.below b1
 replace bb := Below.after bb b1
 clear b1 k1
 obtain ⟨c0, c1, c2⟩ := xk3 k0
 go_wp2_with fail
 go_fit (HC.out _)
 rintro e w2 ⟨rfl, b1⟩
 replace k0 := k0.below b1
 replace bb := Below.after bb b1
 clear b1 c0 c1 c2
 go_wp2
 go_ret
 exact ⟨rfl, bb⟩
theorem rchk_ok (n zn : Bool) (s d zs : ByteArray) (w : World) (hd : 0 < d.size) (hd0 : ¬ lm (byts d) 0 = 0)
  (HL : Hid (∀ (B : Nat) (w : World) (_ : Cel w B [.string s, .string d] 22), Calls Tryz.prog 102 #[.slice (some ⟨B, 0, none⟩) 2 2] w (Re w (.bool false))))
  (HC : Hid (∀ w1, Calls Tryz.prog 103 #[.agg #[.bool n, .string s]] w1 (Re w1 (.int .i64 0))))
  (HV : Hid (∀ w1, Below w.heap.size w w1 → Calls Tryz.prog 104 #[.agg #[.bool n, .string s], .agg #[.bool false, .string d]] w1 (Re w1 (.agg #[.bool zn, .string zs]))))
  (hz : (zs.toList == [1]) = true) :
  Calls Tryz.prog 65 #[.agg #[.bool n, .string s, .string d]] w (Re w (.int .i64 0)) := by
 have g1 : ¬ ((d[0]).toNat : Int) = 0 := by rw [byts_at d 0 hd]; omega
 have g2 : ¬ d[0] = 0 := fun h => g1 (by rw [h]; rfl)
 have g4 := toList_ne hd
 have g5 : d.toList.isEmpty = false := by simpa using g4
 have g6 : (0 : Int) < d.size := by omega
 clear hd0
 have g7 : (((d[0]).toNat : Int) == 0) = false := by simpa using g1
 have gf := fld1 zn zs
 go_enter Tryz.func65, Tryz.ntmps65
 go_wp2_with fail
 obtain ⟨w0, hw, k0, k1, bb⟩ := mk2 w [.bool n, .string s, .string d] [.string s, .string d] 26 22
 rw [← hw]
 clear hw
 go_fit (HL.out _ w0 k1)
 rintro e w1 ⟨rfl, b1⟩
 replace k0 := k0.below b1
 replace bb := Below.after bb b1
 clear b1 k1
 obtain ⟨c0, c1, c2⟩ := xk3 k0
 go_wp2_with fail
 go_fit (HC.out _)
 rintro e w2 ⟨rfl, b1⟩
 replace k0 := k0.below b1
 replace bb := Below.after bb b1
 clear b1 c0 c1 c2
 go_wp2
 refine wp_region_held_drew (S := (fun w' => xc3 w' w.heap.size (.bool n) (.string s) (.string d))) (by kernel_rfl) ?_ (fun hHeld => ?_)
 ·exact (xk3 k0)
 refine tq 0 rfl ?_
 refine tq 1 rfl ?_
 refine tq 2 rfl ?_
 refine tq 3 rfl ?_
 refine tq 4 rfl ?_
 refine tq 5 rfl ?_
 refine tq 6 rfl ?_
 refine tq 7 rfl ?_
 refine tq 8 rfl ?_
 refine tq 9 rfl ?_
 refine tq 10 rfl ?_
 refine tq 11 rfl ?_
 refine tq 12 rfl ?_
 refine wpAnyH_ready (rs := [13]) (by kernel_rfl) (by simp) ?_
 refine AllReadyH.cons (o := _) rfl (fun K hK => ?_) AllReadyH.nil
 go_simp
 go_fit (den_any _ _ _ _)
 rintro e wn ⟨rfl, bn⟩
 replace k0 := k0.below (un bn)
 replace bb := Below.after bb (un bn)
 clear bn
 try go_wp2_with fail
 refine hK.out _ _ ?_ (fun hHeld => ?_)
 ·exact (xk3 k0)
 clear hK K
 try simp only [ly]
 refine wpAnyH_ready (rs := [14]) (by kernel_rfl) (by simp) ?_
 refine AllReadyH.cons (o := _) rfl (fun K hK => ?_) AllReadyH.nil
 go_simp
 go_fit (HV.out _ ?_)
 ·first | exact bb | exact bb.drew
 rintro e wn ⟨rfl, bn⟩
 replace k0 := k0.below (un bn)
 replace bb := Below.after bb (un bn)
 clear bn
 try go_wp2_with fail
 refine hK.out _ _ ?_ (fun hHeld => ?_)
 ·exact (xk3 k0)
 clear hK K
 try simp only [ly]
 refine tq 15 rfl ?_
 refine tq 16 rfl ?_
 refine tq 17 rfl ?_
 refine wpAnyH_done (by kernel_rfl) ?_ _
 go_wp2
 go_ret
 exact ⟨rfl, bb⟩
theorem rchk_gcd (n zn : Bool) (s d zs : ByteArray) (w : World) (hd : 0 < d.size) (hd0 : ¬ lm (byts d) 0 = 0)
  (HL : Hid (∀ (B : Nat) (w : World) (_ : Cel w B [.string s, .string d] 22), Calls Tryz.prog 102 #[.slice (some ⟨B, 0, none⟩) 2 2] w (Re w (.bool false))))
  (HC : Hid (∀ w1, Calls Tryz.prog 103 #[.agg #[.bool n, .string s]] w1 (Re w1 (.int .i64 0))))
  (HV : Hid (∀ w1, Below w.heap.size w w1 → Calls Tryz.prog 104 #[.agg #[.bool n, .string s], .agg #[.bool false, .string d]] w1 (Re w1 (.agg #[.bool zn, .string zs]))))
  (hz : (zs.toList == [1]) = false) :
  Calls Tryz.prog 65 #[.agg #[.bool n, .string s, .string d]] w (Re w (.int .i64 1)) := by
 have g1 : ¬ ((d[0]).toNat : Int) = 0 := by rw [byts_at d 0 hd]; omega
 have g2 : ¬ d[0] = 0 := fun h => g1 (by rw [h]; rfl)
 have g4 := toList_ne hd
 have g5 : d.toList.isEmpty = false := by simpa using g4
 have g6 : (0 : Int) < d.size := by omega
 clear hd0
 have g7 : (((d[0]).toNat : Int) == 0) = false := by simpa using g1
 have gf := fld1 zn zs
 go_enter Tryz.func65, Tryz.ntmps65
 go_wp2_with fail
 obtain ⟨w0, hw, k0, k1, bb⟩ := mk2 w [.bool n, .string s, .string d] [.string s, .string d] 26 22
 rw [← hw]
 clear hw
 go_fit (HL.out _ w0 k1)
 rintro e w1 ⟨rfl, b1⟩
 replace k0 := k0.below b1
 replace bb := Below.after bb b1
 clear b1 k1
 obtain ⟨c0, c1, c2⟩ := xk3 k0
 go_wp2_with fail
 go_fit (HC.out _)
 rintro e w2 ⟨rfl, b1⟩
 replace k0 := k0.below b1
 replace bb := Below.after bb b1
 clear b1 c0 c1 c2
 go_wp2
 refine wp_region_held_drew (S := (fun w' => xc3 w' w.heap.size (.bool n) (.string s) (.string d))) (by kernel_rfl) ?_ (fun hHeld => ?_)
 ·exact (xk3 k0)
 refine tq 0 rfl ?_
 refine tq 1 rfl ?_
 refine tq 2 rfl ?_
 refine tq 3 rfl ?_
 refine tq 4 rfl ?_
 refine tq 5 rfl ?_
 refine tq 6 rfl ?_
 refine tq 7 rfl ?_
 refine tq 8 rfl ?_
 refine tq 9 rfl ?_
 refine tq 10 rfl ?_
 refine tq 11 rfl ?_
 refine tq 12 rfl ?_
 refine wpAnyH_ready (rs := [13]) (by kernel_rfl) (by simp) ?_
 refine AllReadyH.cons (o := _) rfl (fun K hK => ?_) AllReadyH.nil
 go_simp
 go_fit (den_any _ _ _ _)
 rintro e wn ⟨rfl, bn⟩
 replace k0 := k0.below (un bn)
 replace bb := Below.after bb (un bn)
 clear bn
 try go_wp2_with fail
 refine hK.out _ _ ?_ (fun hHeld => ?_)
 ·exact (xk3 k0)
 clear hK K
 try simp only [ly]
 refine wpAnyH_ready (rs := [14]) (by kernel_rfl) (by simp) ?_
 refine AllReadyH.cons (o := _) rfl (fun K hK => ?_) AllReadyH.nil
 go_simp
 go_fit (HV.out _ ?_)
 ·first | exact bb | exact bb.drew
 rintro e wn ⟨rfl, bn⟩
 replace k0 := k0.below (un bn)
 replace bb := Below.after bb (un bn)
 clear bn
 try go_wp2_with fail
 refine hK.out _ _ ?_ (fun hHeld => ?_)
 ·exact (xk3 k0)
 clear hK K
 try simp only [ly]
 refine tq 15 rfl ?_
 refine tq 16 rfl ?_
 refine tq 17 rfl ?_
 refine wpAnyH_done (by kernel_rfl) ?_ _
 go_wp2
 go_ret
 exact ⟨rfl, bb⟩
theorem rchk_empty (n : Bool) (s : ByteArray) (w : World)
  (HL : Hid (∀ (B : Nat) (w : World) (_ : Cel w B [.string s, .string ByteArray.empty] 22), Calls Tryz.prog 102 #[.slice (some ⟨B, 0, none⟩) 2 2] w (Re w (.bool false))))
  (HC : Hid (∀ w1, Calls Tryz.prog 103 #[.agg #[.bool n, .string s]] w1 (Re w1 (.int .i64 0)))) :
  Calls Tryz.prog 65 #[.agg #[.bool n, .string s, .string ByteArray.empty]] w (Re w (.int .i64 1)) := by
 go_enter Tryz.func65, Tryz.ntmps65
 go_wp2_with fail
 obtain ⟨w0, hw, k0, k1, bb⟩ := mk2 w [.bool n, .string s, .string ByteArray.empty] [.string s, .string ByteArray.empty] 26 22
 rw [← hw]
 clear hw
 go_fit (HL.out _ w0 k1)
 rintro e w1 ⟨rfl, b1⟩
 replace k0 := k0.below b1
 replace bb := Below.after bb b1
 clear b1 k1
 obtain ⟨c0, c1, c2⟩ := xk3 k0
 go_wp2_with fail
 go_fit (HC.out _)
 rintro e w2 ⟨rfl, b1⟩
 replace k0 := k0.below b1
 replace bb := Below.after bb b1
 clear b1 c0 c1 c2
 go_wp2
 refine wp_region_held_drew (S := (fun w' => xc3 w' w.heap.size (.bool n) (.string s) (.string ByteArray.empty))) (by kernel_rfl) ?_ (fun hHeld => ?_)
 ·exact (xk3 k0)
 refine tq 0 rfl ?_
 refine tq 1 rfl ?_
 refine tq 2 rfl ?_
 refine tq 3 rfl ?_
 refine tu 4 rfl ?_
 refine tu 5 rfl ?_
 refine tu 6 rfl ?_
 refine tu 7 rfl ?_
 refine tq 8 rfl ?_
 refine tq 9 rfl ?_
 refine tu 10 rfl ?_
 refine tu 11 rfl ?_
 refine tu 12 rfl ?_
 refine tu 13 rfl ?_
 refine tu 14 rfl ?_
 refine tu 15 rfl ?_
 refine tu 16 rfl ?_
 refine tq 17 rfl ?_
 refine wpAnyH_done (by kernel_rfl) ?_ _
 go_wp2
 go_ret
 exact ⟨rfl, bb.drew⟩
theorem rchk_zero (n : Bool) (s d : ByteArray) (w : World) (hd : 0 < d.size) (hd0 : lm (byts d) 0 = 0)
  (HL : Hid (∀ (B : Nat) (w : World) (_ : Cel w B [.string s, .string d] 22), Calls Tryz.prog 102 #[.slice (some ⟨B, 0, none⟩) 2 2] w (Re w (.bool false))))
  (HC : Hid (∀ w1, Calls Tryz.prog 103 #[.agg #[.bool n, .string s]] w1 (Re w1 (.int .i64 0)))) :
  Calls Tryz.prog 65 #[.agg #[.bool n, .string s, .string d]] w (Re w (.int .i64 1)) := by
 have g1 : ((d[0]).toNat : Int) = 0 := by rw [byts_at d 0 hd, hd0]; rfl
 have g3 : (d[0]).toNat = 0 := by omega
 have g2 : d[0] = 0 := UInt8.toNat.inj g3
 have g4 := toList_ne hd
 have g5 : d.toList.isEmpty = false := by simpa using g4
 have g6 : (0 : Int) < d.size := by omega
 clear hd0
 have g7 : (((d[0]).toNat : Int) == 0) = true := by simpa using g1
 go_enter Tryz.func65, Tryz.ntmps65
 go_wp2_with fail
 obtain ⟨w0, hw, k0, k1, bb⟩ := mk2 w [.bool n, .string s, .string d] [.string s, .string d] 26 22
 rw [← hw]
 clear hw
 go_fit (HL.out _ w0 k1)
 rintro e w1 ⟨rfl, b1⟩
 replace k0 := k0.below b1
 replace bb := Below.after bb b1
 clear b1 k1
 obtain ⟨c0, c1, c2⟩ := xk3 k0
 go_wp2_with fail
 go_fit (HC.out _)
 rintro e w2 ⟨rfl, b1⟩
 replace k0 := k0.below b1
 replace bb := Below.after bb b1
 clear b1 c0 c1 c2
 go_wp2
 refine wp_region_held_drew (S := (fun w' => xc3 w' w.heap.size (.bool n) (.string s) (.string d))) (by kernel_rfl) ?_ (fun hHeld => ?_)
 ·exact (xk3 k0)
 refine tq 0 rfl ?_
 refine tq 1 rfl ?_
 refine tq 2 rfl ?_
 refine tq 3 rfl ?_
 refine tq 4 rfl ?_
 refine tq 5 rfl ?_
 refine tq 6 rfl ?_
 refine tq 7 rfl ?_
 refine tq 8 rfl ?_
 refine tq 9 rfl ?_
 refine tu 10 rfl ?_
 refine tu 11 rfl ?_
 refine tu 12 rfl ?_
 refine tu 13 rfl ?_
 refine tu 14 rfl ?_
 refine tu 15 rfl ?_
 refine tu 16 rfl ?_
 refine tq 17 rfl ?_
 refine wpAnyH_done (by kernel_rfl) ?_ _
 go_wp2
 go_ret
 exact ⟨rfl, bb.drew⟩
theorem rchk_any (n : Bool) (s d : ByteArray) (w : World) (hT : Tab w) :
  Calls Tryz.prog 65 #[.agg #[.bool n, .string s, .string d]] w (Re w (.int .i64 (chkq n s d : Nat))) := by
 obtain ⟨t, ht, hL⟩ := tooLong_any s d
 by_cases hl : 8000 < s.size ∨ 8000 < d.size
 ·obtain rfl := ht.2 hl
  rw [show chkq n s d = 5 by unfold chkq; rw [if_pos hl]]
  exact rchk_long n s d w (shut hL)
 ·obtain rfl : t = false := by
   cases t with
   | false => rfl
   | true => exact absurd (ht.1 rfl) hl
  have hs : s.size ≤ 8000 := by omega
  have hdl : d.size ≤ 8000 := by omega
  by_cases hc : chk n s = 0
  ·have HC : Hid (∀ w1, Calls Tryz.prog 103 #[.agg #[.bool n, .string s]] w1 (Re w1 (.int .i64 0))) := by
    intro w1
    have := check_any n s w1
    rw [hc] at this
    exact this
   have o := (chk_ok (by omega)).1 hc
   by_cases hd : 0 < d.size
   ·by_cases h0 : lm (byts d) 0 = 0
    ·rw [show chkq n s d = 1 by unfold chkq; rw [if_neg hl, if_pos (Or.inr (Or.inr (Or.inl h0)))]]
     exact rchk_zero n s d w hd h0 (shut hL) HC
    ·have od : OkS d := fun _ => h0
     have HV : Hid (∀ w1, Below w.heap.size w w1 → Calls Tryz.prog 104 #[.agg #[.bool n, .string s], .agg #[.bool false, .string d]] w1 (Re w1 (zI ((Nat.gcd (natOf s) (natOf d) : Nat) : Int)))) :=
      fun w1 b => divisor_ok n false s d w1 o ⟨od, fun h => by cases h⟩ (by omega) (by omega) (hT.below b)
     have e : zI ((Nat.gcd (natOf s) (natOf d) : Nat) : Int) = .agg #[.bool false, .string (strOf (Nat.gcd (natOf s) (natOf d)))] := by
      show zV _ _ = _
      rw [Int.natAbs_natCast, show decide ((((Nat.gcd (natOf s) (natOf d) : Nat)) : Int) < 0) = false by simp]
      rfl
     rw [e] at HV
     by_cases hg : Nat.gcd (natOf s) (natOf d) = 1
     ·rw [chkq_ok ⟨o, od, natOf_pos od hd, hg⟩ hs hdl]
      exact rchk_ok n _ s d _ w hd h0 (shut hL) HC HV (eq1 (by rw [hg, strOf_one]))
     ·rw [show chkq n s d = 1 by unfold chkq; rw [if_neg hl, if_pos (Or.inr (Or.inr (Or.inr hg)))]]
      exact rchk_gcd n _ s d _ w hd h0 (shut hL) HC HV (ne1 fun h => hg (by
       have := natOf_strOf (Nat.gcd (natOf s) (natOf d))
       rw [h, natOf_one] at this
       exact this.symm))
   ·have g3 : d = ByteArray.empty := ByteArray.size_eq_zero_iff.1 (by omega)
    subst g3
    rw [show chkq n s ByteArray.empty = 1 by unfold chkq; rw [if_neg hl, if_pos (Or.inr (Or.inl (show ByteArray.empty.size = 0 from rfl)))]]
    exact rchk_empty n s w (shut hL) HC
  ·have h1 : chk n s = 1 := by
    unfold chk at hc ⊢
    rw [if_neg (by omega)] at hc ⊢
    split at hc
    ·rw [if_pos (by assumption)]
    ·exact absurd rfl hc
   have HC : Hid (∀ w1, Calls Tryz.prog 103 #[.agg #[.bool n, .string s]] w1 (Re w1 (.int .i64 1))) := by
    intro w1
    have := check_any n s w1
    rw [h1] at this
    exact this
   rw [show chkq n s d = 1 by unfold chkq; rw [if_neg hl, if_pos (Or.inl hc)]]
   exact rchk_num n s d w 1 (by omega) (shut hL) HC
open Go.RowKit
def nfZ (z : Int) : Bool := decide (z < 0)
def sfZ (z : Int) : ByteArray := strOf z.natAbs
theorem zI_nz (z : Int) : zI z = .agg #[.bool (nfZ z), .string (sfZ z)] := rfl
theorem okS_sfZ (z : Int) : OkS (sfZ z) := okS_strOf _
theorem okZ_nz (z : Int) : OkZ (nfZ z) (sfZ z) := okZ_zI z
theorem zOf_nz (z : Int) : zOf (nfZ z) (sfZ z) = z := zOf_zI z
theorem natOf_sfZ (z : Int) : natOf (sfZ z) = z.natAbs := natOf_strOf _
theorem okZ_false {s : ByteArray} (h : OkS s) : OkZ false s := ⟨h, fun e => by cases e⟩
theorem zOf_f (s : ByteArray) : zOf false s = ((natOf s : Nat) : Int) := rfl
theorem lmul_nat (s0 s1 : ByteArray) (w : World) (o0 : OkS s0) (o1 : OkS s1) (z0 : s0.size ≤ 16000) (z1 : s1.size ≤ 16000) :
  Calls Tryz.prog 99 #[.string s0, .string s1] w (Re w (.string (strOf (natOf s0 * natOf s1)))) := by
 have key : ∀ (x y : ByteArray), OkS x → OkS y → x.size ≤ 16000 → y.size ≤ 16000 → Hid (∀ w1, Calls Tryz.prog 57 #[.agg #[.bool false, .string x], .agg #[.bool false, .string y]] w1 (Re w1 (.tuple #[.agg #[.bool (nfZ ((natOf x : Int) * (natOf y : Int))), .string (strOf (natOf x * natOf y))], .int .i64 0]))) := fun x y ox oy zx zy w1 => by
  have := zmul_ok false false x y w1 (okZ_false ox) (okZ_false oy) zx zy
  rw [zOf_f, zOf_f, zI_nz] at this
  have e : sfZ ((natOf x : Int) * (natOf y : Int)) = strOf (natOf x * natOf y) := by unfold sfZ; rw [Int.natAbs_mul]; rfl
  rw [e] at this
  exact this
 by_cases hl : s0.size < s1.size
 ·by_cases h1 : s0 = ⟨#[1]⟩
  ·subst h1
   have e : strOf (natOf ⟨#[1]⟩ * natOf s1) = s1 := by rw [natOf_one, Nat.one_mul, strOf_natOf o1]
   rw [e]
   exact lmul_swap1 s1 w (by have : (⟨#[1]⟩ : ByteArray).size = 1 := rfl; omega)
  ·have k := key s1 s0 o1 o0 z1 z0
   rw [Nat.mul_comm]
   exact lmul_swap s0 s1 _ _ w (by omega) (ne1 h1) (by omega) k
 ·by_cases h1 : s1 = ⟨#[1]⟩
  ·subst h1
   have e : strOf (natOf s0 * natOf ⟨#[1]⟩) = s0 := by rw [natOf_one, Nat.mul_one, strOf_natOf o0]
   rw [e]
   exact lmul_one s0 w (by have : (⟨#[1]⟩ : ByteArray).size = 1 := rfl; omega)
  ·exact lmul_walk s0 s1 _ _ w (by omega) (ne1 h1) (by omega) (key s0 s1 o0 o1 z0 z1)
theorem ldivide_nat (s0 s1 : ByteArray) (w : World) (o0 : OkS s0) (o1 : OkS s1) (z0 : s0.size ≤ 16000) (z1 : s1.size ≤ 16000) (h : 0 < natOf s1) :
  Calls Tryz.prog 98 #[.string s0, .string s1] w (Re w (.tuple #[.string (strOf (natOf s0 / natOf s1)), .string (strOf (natOf s0 % natOf s1))])) := by
 refine ldivide_walk s0 s1 _ _ (nfZ ((natOf s0 : Int) / (natOf s1 : Int))) (nfZ ((natOf s0 : Int) % (natOf s1 : Int))) w (by omega) (fun w1 => ?_)
 have := zdiv_ok false false s0 s1 w1 (okZ_false o0) (okZ_false o1) (by omega) (by omega) h
 rw [zOf_f, zOf_f, zI_nz, zI_nz] at this
 exact this
theorem bd_sf {z : Int} {K : Nat} (h : Bd z K) : (sfZ z).size ≤ K := h.size
open Go.RowKit
theorem nprod_take_succ {L : List ByteArray} {k : Nat} (h : k < L.length) : Dt.nprod ((L.take (k + 1)).map natOf) = Dt.nprod ((L.take k).map natOf) * natOf (nt L k) := by
 rw [List.take_add_one, List.getElem?_eq_getElem h, List.map_append, Dt.nprod_append]
 congr 1
 unfold nt
 rw [List.getD_eq_getElem?_getD, List.getElem?_eq_getElem h]
 simp [Dt.nprod]
theorem nprod_take_le {L : List ByteArray} (hp : ∀ x ∈ L, 0 < natOf x) (k : Nat) : Dt.nprod ((L.take k).map natOf) ≤ Dt.nprod (L.map natOf) := by
 conv => rhs; rw [← List.take_append_drop k L, List.map_append, Dt.nprod_append]
 refine Nat.le_mul_of_pos_right _ (Dt.nprod_pos fun x hx => ?_)
 rw [List.mem_map] at hx
 obtain ⟨y, hy, rfl⟩ := hx
 exact hp y (List.mem_of_mem_drop hy)
theorem nfZ_div {cur : Int} {g : Nat} (hg : 0 < g) (hd : g ∣ cur.natAbs) : nfZ (cur / (g : Int)) = nfZ cur ∧ sfZ (cur / (g : Int)) = strOf (cur.natAbs / g) := by
 have hd' : (g : Int) ∣ cur := Int.ofNat_dvd_left.2 hd
 refine ⟨?_, ?_⟩
 ·unfold nfZ
  by_cases c : cur < 0
  ·rw [decide_eq_true c, decide_eq_true (Int.ediv_neg_of_neg_of_pos c (by omega))]
  ·rw [decide_eq_false c, decide_eq_false (by have := Int.ediv_nonneg (a := cur) (b := g) (by omega) (by omega); omega)]
 ·unfold sfZ
  rw [Int.natAbs_ediv_of_dvd hd']
  simp
theorem over_any (N : Int) (v : Value) (L : List ByteArray) (w : World) (hT : Tab w) (hv : RdS w v L) (hL : L.length ≤ 1000) (ho : ∀ x ∈ L, OkS x ∧ 0 < natOf x ∧ x.size ≤ 8000) {K : Nat} (hK : K ≤ 8000) (hN : Bd N K) (hP : Dt.nprod (L.map natOf) < 256 ^ K) :
  Calls Tryz.prog 62 #[.agg #[.bool (nfZ N), .string (sfZ N)], v] w (Re w (qI (mkRat N (Dt.nprod (L.map natOf))))) := by
 obtain ⟨a, cap, rfl, -, -⟩ := id hv
 replace hv := shut hv
 replace ho := shut ho
 replace hT := shut hT
 replace hN := shut hN
 replace hP := shut hP
 generalize hM : L.length = m at *
 go_enter Tryz.func62, Tryz.ntmps62
 go_wp2_with fail
 obtain ⟨w1, hw, ka, kr, b1⟩ := mk2 w [.bool (nfZ N), .string (sfZ N)] [.bool false, .string { data := #[] }, .string { data := #[] }] 24 26
 rw [← hw]
 clear hw
 go_loopw [5, 14] (fun dv i wr => ∃ (k : Nat) (cur : Int) (den e : Nat), k ≤ m ∧ i = .int .i64 k ∧ dv = .string (strOf den) ∧ N = cur * e ∧ Dt.nprod ((L.take k).map natOf) = den * e ∧ 0 < e ∧ 0 < den ∧ Nat.gcd cur.natAbs den = 1 ∧ Cel wr w.heap.size [.bool (nfZ cur), .string (sfZ cur)] 24 ∧ Cel wr (w.heap.size + 1) [.bool false, .string { data := #[] }, .string { data := #[] }] 26 ∧ Below w.heap.size w wr) (fun _ i _ => m - (intOf i).toNat)
 case atStart => exact ⟨0, N, 1, 1, by omega, rfl, by rw [strOf_one], by simp, rfl, by omega, by omega, by simp, ka, kr, b1⟩
 case round =>
  clear ka kr b1
  obtain ⟨k, cur, den, ee, hk, rfl, rfl, i1, i2, i3, i4, i5, ka, kr, bb⟩ := hrel
  by_cases hkn : k < m
  ·have hkL : k < L.length := by omega
   obtain ⟨a', cap', e', -, hc⟩ := hv.out.below bb
   simp only [Value.slice.injEq] at e'
   obtain ⟨rfl, -, rfl⟩ := e'
   obtain ⟨b, off, rfl, h0⟩ := hc k (by omega)
   clear hc
   obtain ⟨od, pd, zd⟩ := ho.out _ (nt_mem hkL)
   have hs := nprod_take_succ hkL
   have hpos : ∀ x ∈ L, 0 < natOf x := fun x hx => (ho.out x hx).2.1
   have lcur : cur.natAbs ≤ N.natAbs := by rw [i1, Int.natAbs_mul]; simpa using Nat.le_mul_of_pos_right cur.natAbs i3
   have bcur : Bd cur K := hN.out.le lcur
   have zcur : (sfZ cur).size ≤ K := bcur.size
   have lden : den < 256 ^ K := by
    have h1 := nprod_take_le hpos k
    rw [i2] at h1
    have h2 := Nat.le_mul_of_pos_right den i3
    exact Nat.lt_of_le_of_lt (Nat.le_trans h2 h1) hP.out
   have zden : (strOf den).size ≤ K := strOf_lt lden
   clear lden lcur
   by_cases e1 : nt L k = ⟨#[1]⟩
   ·have F : Hid (Dt.nprod ((L.take (k + 1)).map natOf) = den * ee) := by show _ = _; rw [hs, e1, natOf_one, Nat.mul_one, i2]
    have e2 := eq1' e1
    replace i1 := shut i1
    replace i2 := shut i2
    replace i3 := shut i3
    replace i4 := shut i4
    replace i5 := shut i5
    clear e1 hs zcur zden
    go_wp2
    exact ⟨⟨k + 1, cur, den, ee, by omega, by go_num, rfl, i1.out, F.out, i3.out, i4.out, i5.out, ka, kr, bb⟩, by simp [intOf]; omega⟩
   ·obtain ⟨g, hg⟩ : ∃ g, g = Nat.gcd cur.natAbs (natOf (nt L k)) := ⟨_, rfl⟩
    obtain ⟨f1, f2, f3, f4, f5⟩ := Dt.over_step i1 i2 i3 pd i4 i5 hg
    have g0 : 0 < g := by rw [hg]; exact Nat.gcd_pos_of_pos_right _ pd
    have gn : g ∣ cur.natAbs := by rw [hg]; exact Nat.gcd_dvd_left ..
    have gd : g ∣ natOf (nt L k) := by rw [hg]; exact Nat.gcd_dvd_right ..
    obtain ⟨n1, n2⟩ := nfZ_div g0 gn
    have HD := shut (fun w1 => ldivide_nat (sfZ cur) (nt L k) w1 (okS_sfZ cur) od (by omega) (by omega) pd)
    rw [natOf_sfZ] at HD
    obtain ⟨R, hR⟩ : ∃ R, R = cur.natAbs % natOf (nt L k) := ⟨_, rfl⟩
    rw [← hR] at HD
    have lR : R < natOf (nt L k) := by rw [hR]; exact Nat.mod_lt _ pd
    have zR : (strOf R).size ≤ 8000 := Nat.le_trans (strOf_lt (Nat.lt_trans lR (natOf_lt _))) zd
    have HG : Hid (∀ w1, Below w.heap.size w w1 → Calls Tryz.prog 55 #[.agg #[.bool false, .string (strOf R)], .agg #[.bool false, .string (nt L k)]] w1 (Re w1 (.tuple #[.agg #[.bool false, .string (strOf g)], .int .i64 0]))) := fun w1 b => by
     have := zgcd_ok false false (strOf R) (nt L k) w1 (okZ_false (okS_strOf R)) (okZ_false od) (by omega) (by omega) (hT.out.below b)
     have eg : Nat.gcd R (natOf (nt L k)) = g := by rw [hg, hR, Nat.gcd_comm cur.natAbs, Nat.gcd_rec (natOf (nt L k)) cur.natAbs]
     rw [natOf_strOf, eg, zI_nz] at this
     exact this
    have lg : g ≤ natOf (nt L k) := Nat.le_of_dvd pd gd
    have zg : (strOf g).size ≤ 8000 := Nat.le_trans (strOf_lt (Nat.lt_of_le_of_lt lg (natOf_lt _))) zd
    have H3 := shut (fun w1 => ldivide_nat (sfZ cur) (strOf g) w1 (okS_sfZ cur) (okS_strOf g) (by omega) (by omega) (by rw [natOf_strOf]; exact g0))
    have H4 := shut (fun w1 => ldivide_nat (nt L k) (strOf g) w1 od (okS_strOf g) (by omega) (by omega) (by rw [natOf_strOf]; exact g0))
    rw [natOf_sfZ, natOf_strOf] at H3
    rw [natOf_strOf] at H4
    have zq : (strOf (natOf (nt L k) / g)).size ≤ 8000 := Nat.le_trans (strOf_lt (Nat.lt_of_le_of_lt (Nat.div_le_self _ _) (natOf_lt _))) zd
    have H5 := shut (fun w1 => lmul_nat (strOf den) (strOf (natOf (nt L k) / g)) w1 (okS_strOf den) (okS_strOf _) (by omega) (by omega))
    rw [natOf_strOf, natOf_strOf] at H5
    rw [← n2] at H3
    have F : Hid (Dt.nprod ((L.take (k + 1)).map natOf) = den * (natOf (nt L k) / g) * (ee * g)) := by show _ = _; rw [hs, f2]
    have e2 := ne1' e1
    have oX : Hid (nt L k = strOf (natOf (nt L k))) := (strOf_natOf od).symm
    have H6 := shut (fun w1 => lmul_nat (strOf den) (nt L k) w1 (okS_strOf den) od (by omega) (by omega))
    rw [natOf_strOf] at H6
    replace f1 := shut f1
    replace f3 := shut f3
    replace f4 := shut f4
    replace f5 := shut f5
    replace n1 := shut n1
    replace i3 := shut i3
    clear i1 i2 i4 i5 hs zcur zden f2 hR lR zR lg zg zq gn gd n2 bcur hpos e1 hg g0 pd od zd hkL oX
    obtain ⟨c0, c1⟩ := xk2 ka
    go_wp2_with fail
    go_fit (HD.out _)
    rintro e w2 ⟨rfl, b1⟩
    replace ka := ka.below b1
    replace kr := kr.below b1
    replace bb := Below.after bb b1
    clear b1 c0 c1 h0
    go_wp2_with fail
    go_fit (HG.out _ bb)
    rintro e w3 ⟨rfl, b1⟩
    replace ka := ka.below b1
    replace kr := kr.below b1
    replace bb := Below.after bb b1
    clear b1 HD HG
    by_cases hg1 : g = 1
    ·subst hg1
     have e3 : ((strOf 1).toList == [1]) = true := eq1' strOf_one
     have F1 : Hid (N = cur * ee ∧ 0 < den * natOf (nt L k) ∧ Nat.gcd cur.natAbs (den * natOf (nt L k)) = 1 ∧ Dt.nprod ((L.take (k + 1)).map natOf) = den * natOf (nt L k) * ee) := by
      have a1 := f1.out
      have a2 := f4.out
      have a3 := f5.out
      have a4 := F.out
      simp only [Nat.mul_one, Nat.div_one, Int.natCast_one, Int.ediv_one] at a1 a2 a3 a4
      exact ⟨by simpa using a1, a2, by simpa using a3, a4⟩
     clear f1 f3 f4 f5 n1 H3 H4 H5 F
     go_wp2_with fail
     go_fit (H6.out _)
     rintro e w4 ⟨rfl, b1⟩
     obtain ⟨-, b1⟩ := al1 b1
     replace ka := ka.below b1
     replace kr := kr.below b1
     replace bb := Below.after bb b1
     clear b1 H6
     go_wp2
     exact ⟨⟨k + 1, cur, den * natOf (nt L k), ee, by omega, by go_num, rfl, F1.out.1, F1.out.2.2.2, i3.out, F1.out.2.1, F1.out.2.2.1, ka, kr, bb⟩, by simp [intOf]; omega⟩
    ·have e3 : ((strOf g).toList == [1]) = false := ne1' (fun e => hg1 (by rw [← natOf_strOf g, e, natOf_one]))
     have hne : ¬ w3.heap.size = w.heap.size := by have := ka.lt; omega
     have hne' : ¬ w.heap.size = w3.heap.size := by have := ka.lt; omega
     obtain ⟨c0, c1⟩ := xk2 (ka.alloc (.cells #[.bool false, .string (strOf g)] 24))
     go_wp2_with fail
     go_fit (H3.out _)
     rintro e w4 ⟨rfl, b1⟩
     obtain ⟨kc, b1⟩ := al1 b1
     replace ka := ka.below b1
     replace kr := kr.below b1
     replace bb := Below.after bb b1
     clear b1 H3 c0 c1
     have c1 := cel2_1' ka
     have f1' := Cel.frozen ka 1
     have c2 := cel2_1' kc
     go_wp2_with fail
     obtain ⟨w5, hw⟩ : ∃ x, x = w4.setCell ⟨w.heap.size, 1, none⟩ (.string (sfZ (cur / (g : Int)))) := ⟨_, rfl⟩
     rw [← hw]
     replace ka := ka.set 1 (.string (sfZ (cur / (g : Int))))
     replace kr := Cel.other (g' := w.heap.size) kr (by omega) 1 (.string (sfZ (cur / (g : Int))))
     replace bb := bset (g := w.heap.size) bb (Nat.le_refl _) 1 (.string (sfZ (cur / (g : Int))))
     rw [← hw] at ka kr bb
     clear hw c1 f1' c2 kc
     go_fit (H4.out _)
     rintro e w6 ⟨rfl, b1⟩
     replace ka := ka.below b1
     replace kr := kr.below b1
     replace bb := Below.after bb b1
     clear b1 H4
     go_wp2_with fail
     go_fit (H5.out _)
     rintro e w7 ⟨rfl, b1⟩
     replace ka := ka.below b1
     replace kr := kr.below b1
     replace bb := Below.after bb b1
     clear b1 H5
     have ka' : Hid (Cel w7 w.heap.size [.bool (nfZ (cur / (g : Int))), .string (sfZ (cur / (g : Int)))] 24) := by
      show Cel _ _ _ _
      rw [n1.out]; exact ka
     clear ka
     go_wp2
     exact ⟨⟨k + 1, cur / (g : Int), den * (natOf (nt L k) / g), ee * g, by omega, by go_num, rfl, f1.out, F.out, f3.out, f4.out, f5.out, ka'.out, kr, bb⟩, by simp [intOf]; omega⟩
  ·obtain rfl : k = m := by omega
   have F : Hid (qI (mkRat N (Dt.nprod (L.map natOf))) = .agg #[.bool (nfZ cur), .string (sfZ cur), .string (strOf den)]) := by
    show _ = _
    rw [List.take_of_length_le (by omega)] at i2
    obtain ⟨q1, q2⟩ := Dt.over_end i1 i2 i3 i4 i5
    exact qI_of ⟨q1, q2⟩ (zI_nz cur) rfl
   clear i1 i2 i3 i4 i5
   obtain ⟨c0, c1⟩ := xk2 ka
   obtain ⟨d0, d1, d2⟩ := xk3 kr
   have f0 := Cel.frozen kr 0
   have f1 := Cel.frozen kr 1
   have f2 := Cel.frozen kr 2
   go_wp2
   refine post_q (p := 4) (by kernel_rfl) rfl rfl (((kr.set 0 _).set 1 _).set 2 _) ⟨by rw [F.out], bset (bset (bset bb (by omega) 0 _) (by omega) 1 _) (by omega) 2 _⟩
open Go.RowKit
theorem isE {s : ByteArray} (h : 0 < natOf s) : s.toList.isEmpty = false := by
 have : 0 < s.size := Nat.pos_of_ne_zero fun e => by have := natOf_empty e; omega
 simpa using toList_ne this
open Go.RowKit
theorem qI_int (z : Int) {n : Bool} {s : ByteArray} (h : zI z = .agg #[.bool n, .string s]) : qI (z : Rat) = .agg #[.bool n, .string s, .string ⟨#[1]⟩] :=
 qI_of (q := (z : Rat)) (m := 1) ⟨rfl, rfl⟩ h strOf_one.symm
open Go.RowKit
def Cells (w : World) (g : Nat) (t : TypeId) (n : Nat) (f : Nat → Value) : Prop := ∃ cs : Array Value, w.heap[g]? = some (.cells cs t (0, 0)) ∧ cs.size = n ∧ ∀ i, i < n → cs[i]? = some (f i)
theorem Cells.cell {w : World} {g n : Nat} {t : TypeId} {f : Nat → Value} (h : Cells w g t n f) {i : Nat} (hi : i < n) : w.cell? ⟨g, i, none⟩ = some (f i) := by
 obtain ⟨cs, h1, h2, h3⟩ := h
 simp [World.cell?, h1, h3 i hi]
theorem Cells.frozen {w : World} {g n : Nat} {t : TypeId} {f : Nat → Value} (h : Cells w g t n f) (i : Nat) : w.frozen? ⟨g, i, none⟩ = false := by
 obtain ⟨cs, h1, h2, h3⟩ := h
 simp [World.frozen?, h1]
theorem Cells.lt {w : World} {g n : Nat} {t : TypeId} {f : Nat → Value} (h : Cells w g t n f) : g < w.heap.size := by
 obtain ⟨cs, h1, -⟩ := h
 by_cases hg : g < w.heap.size
 ·exact hg
 ·rw [Array.getElem?_eq_none (by omega)] at h1; cases h1
theorem Cells.below {w w' : World} {g n : Nat} {t : TypeId} {f : Nat → Value} (h : Cells w g t n f) (hb : Below w.heap.size w w') : Cells w' g t n f := by
 have hl := h.lt
 obtain ⟨cs, h1, h2, h3⟩ := h
 exact ⟨cs, by rw [hb.block g hl]; exact h1, h2, h3⟩
theorem Cells.other {w : World} {g g' n : Nat} {t : TypeId} {f : Nat → Value} (h : Cells w g t n f) (hne : g ≠ g') (j : Nat) (v : Value) : Cells (w.setCell ⟨g', j, none⟩ v) g t n f := by
 obtain ⟨cs, h1, h2, h3⟩ := h
 exact ⟨cs, by rw [Below.heap_setCell _ _ _ _ (by exact hne)]; exact h1, h2, h3⟩
theorem Cells.set {w : World} {g n : Nat} {t : TypeId} {f : Nat → Value} (h : Cells w g t n f) (j : Nat) (v : Value) : Cells (w.setCell ⟨g, j, none⟩ v) g t n (fun i => if i = j then v else f i) := by
 obtain ⟨cs, h1, h2, h3⟩ := h
 refine ⟨cs.setIfInBounds j v, by simp [World.setCell, Array.getElem?_modify, h1], by simp [h2], fun i hi => ?_⟩
 show _ = some (if i = j then v else f i)
 by_cases e : i = j
 ·subst e
  rw [if_pos rfl]
  simp [h2, hi]
 ·rw [if_neg e, Array.getElem?_setIfInBounds_ne (fun q => e q.symm)]
  exact h3 i hi
theorem Cells.congr {w : World} {g n : Nat} {t : TypeId} {f f' : Nat → Value} (h : Cells w g t n f) (he : ∀ i, i < n → f i = f' i) : Cells w g t n f' := by
 obtain ⟨cs, h1, h2, h3⟩ := h
 exact ⟨cs, h1, h2, fun i hi => by rw [← he i hi]; exact h3 i hi⟩
def fz (z : Nat → Int) (i : Nat) : Value := if i % 2 = 0 then .bool (nfZ (z (i / 2))) else .string (sfZ (z (i / 2)))
open Go.RowKit
theorem named0 : ∃ (nf : Int → Bool) (sf : Int → ByteArray), (∀ z, zI z = .agg #[.bool (nf z), .string (sf z)]) ∧ (∀ z, OkZ (nf z) (sf z)) ∧ (∀ z k, Bd z k → (sf z).size ≤ k) ∧ (∀ z, zOf (nf z) (sf z) = z) ∧ (∀ z, natOf (sf z) = z.natAbs) ∧ (∀ m : Nat, nf (m : Int) = false) ∧ (∀ m : Nat, sf (m : Int) = strOf m) ∧ (∀ m : Nat, natOf (sf (m : Int)) = m) ∧ (∀ m : Nat, zI (m : Int) = .agg #[.bool false, .string (sf (m : Int))]) := by
 obtain ⟨nf, sf, h1, h2, h3, h4, -, h6, h7, h8⟩ := named
 have hn : ∀ m : Nat, nf (m : Int) = false := fun m => by rw [h7]; simp
 exact ⟨nf, sf, h1, h2, h3, h4, h6, hn, fun m => by rw [h8]; rfl, fun m => by rw [h6]; rfl, fun m => by rw [h1, hn]⟩
theorem bd_nat {s : ByteArray} {k : Nat} (h : s.size ≤ k) : Bd ((natOf s : Nat) : Int) k := bd_zOf (n := false) h
theorem zOf_false (s : ByteArray) : zOf false s = ((natOf s : Nat) : Int) := rfl
open Go.RowKit
def twoq (n0 : Bool) (s0 d0 : ByteArray) (n1 : Bool) (s1 d1 : ByteArray) : Nat := if chkq n0 s0 d0 = 0 then chkq n1 s1 d1 else chkq n0 s0 d0
theorem twoq_zero {n0 n1 : Bool} {s0 d0 s1 d1 : ByteArray} : twoq n0 s0 d0 n1 s1 d1 = 0 ↔ chkq n0 s0 d0 = 0 ∧ chkq n1 s1 d1 = 0 := by
 unfold twoq
 by_cases h : chkq n0 s0 d0 = 0
 ·rw [if_pos h]; exact ⟨fun e => ⟨h, e⟩, fun e => e.2⟩
 ·rw [if_neg h]; exact ⟨fun e => absurd e h, fun e => absurd e.1 h⟩
end Go.Proofs.YtbafjmjcepcckaaGreatDoor
