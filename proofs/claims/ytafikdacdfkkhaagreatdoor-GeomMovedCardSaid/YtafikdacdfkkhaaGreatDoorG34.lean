/-
  Package whole: commonDivisor.
  Package whole: Gcd.
  Package rat: divisor, cut.
  Package rat: Check.
-/
import Derived.Test.YtafikdacdfkkhaaGreatDoorG24
import Derived.Test.YtafikdacdfkkhaaGreatDoorG29
import Derived.Test.YtafikdacdfkkhaaGreatDoorG31
import Derived.Test.YtafikdacdfkkhaaGreatDoorG32
import Derived.Test.YtafikdacdfkkhaaGreatDoorG33
namespace Go.Proofs.YtafikdacdfkkhaaGreatDoor
open Go.RowKit Go.Shelf

theorem val_zeros (b : Nat) : ∀ n, M.val b (List.replicate n 0) = 0
 | 0 => rfl
 | n + 1 => by rw [List.replicate_succ, M.val_cons, val_zeros b n]; simp
theorem low_zeros (n : Nat) : M.Low B64 (List.replicate n 0) := fun x hx => by rw [List.eq_of_mem_replicate hx]; exact B64_pos

set_option maxRecDepth 100000 in
set_option maxHeartbeats 8000000 in
theorem cdiv_any (g0 g1 X Y m0 m1 : Nat) (w : World) (hm0 : (M.digs B64 X).length = m0) (hm1 : (M.digs B64 Y).length = m1) (k0 : Blk w g0 (M.digs B64 X)) (k1 : Blk w g1 (M.digs B64 Y)) (h0 : m0 ≤ 4000) (h1 : m1 ≤ 4000) (hT : Tab w) :
  Calls Tryz.prog 178 #[.slice (some ⟨g0, 0, none⟩) m0 m0, .slice (some ⟨g1, 0, none⟩) m1 m1] w fun e w' => ∃ v, e = .returned v ∧ Rd w' v (M.digs B64 (Nat.gcd X Y)) ∧ Grew2 g0 g1 w w' := by
 have HC : Hid (Calls Tryz.prog 160 #[.slice (some ⟨g0, 0, none⟩) m0 m0, .slice (some ⟨g1, 0, none⟩) m1 m1] w fun e w' => e = .returned (.tuple #[.int .i64 (cmpN X Y), .int .i64 0]) ∧ Below w.heap.size w w') := by
  have := cmp_any (.slice (some ⟨g0, 0, none⟩) m0 m0) (.slice (some ⟨g1, 0, none⟩) m1 m1) (M.digs B64 X) (M.digs B64 Y) w (by rw [← hm0]; exact k0.rd0 _ (Nat.le_refl _)) (by rw [← hm1]; exact k1.rd0 _ (Nat.le_refl _)) (M.Low.digs B64_two X) (M.Low.digs B64_two Y) (by omega) (by omega)
  rwa [M.val_digs B64_two, M.val_digs B64_two] at this
 by_cases hXY : X < Y
 ·have c1 : cmpN X Y < 0 := by rw [cmpN_lt hXY]; omega
  generalize cmpN X Y = cc at *
  have HM0 := shut hm0
  have HM1 := shut hm1
  have hle : m0 ≤ m1 := by rw [← hm0, ← hm1]; exact digs_mono' (by omega)
  have RY : Hid (∀ w1, Below w.heap.size w w1 → ∀ w2, Below w1.heap.size w1 w2 → Rd w2 (.slice (some ⟨g0, 0, none⟩) m0 m0) (M.digs B64 X)) := by
   intro w1 b1 w2 b2
   rw [← hm0]
   exact ((k0.below b1).below b2).rd0 _ (Nat.le_refl _)
  have FIT : Hid ((M.digs B64 X).length ≤ m1) := by show _ ≤ _; omega
  clear hm0 hm1
  go_enter Tryz.func178, Tryz.ntmps178
  go_wp2_with fail
  refine (HC.out).mono ?_
  rintro e w1 ⟨rfl, b1⟩
  go_wp2_with (first
   | (at_make; refine wpList_mk2 rfl _ _ rfl _ _ 0 m1 rfl rfl (by omega) (by omega) (by omega) (by omega) ?_; intro w2 kn b2)
   | (at_builtin; refine wpList_appB rfl _ _ rfl w1.heap.size m1 (List.replicate m1 0) (M.digs B64 X) rfl kn (by simp) (.slice (some ⟨g0, 0, none⟩) m0 m0) rfl (RY.out w1 b1 w2 b2) FIT.out ?_; intro w3 kn3 o3))
  have IN : Hid (Rows2 g0 g1 (Nat.gcd X Y) w w3 g1 w1.heap.size Y X [] (List.drop (M.digs B64 X).length (List.replicate m1 0))) := by
   have l0 := k1.lt
   have e1 := b1.size
   have hb3 : Below w1.heap.size w1 w3 := ⟨o3.os.trans b2.os, o3.tape.trans b2.tape, o3.output.trans b2.output, by rw [o3.size]; exact b2.size, fun i hi => (o3.block i (by omega)).trans (b2.block i hi)⟩
   have hbb := Below.after b1 hb3
   refine ⟨by simpa using k1.below hbb, kn3, by omega, Or.inr (Or.inl rfl), Or.inr (Or.inr e1), ?_, by omega, Nat.gcd_comm _ _, by rw [HM1.out]; exact h1, hT.below hbb, Grew2.of hbb⟩
   have := FIT.out
   rw [HM1.out, List.length_append, List.length_drop, List.length_replicate]
   omega
  have V0 : Hid (Value.slice (some ⟨g1, 0, none⟩) m1 m1 = slX g1 Y []) := by
   show _ = _
   unfold slX
   rw [List.append_nil, HM1.out]
  have V1 : Hid (Value.slice (some ⟨w1.heap.size, 0, none⟩) (M.digs B64 X).length m1 = slX w1.heap.size X (List.drop (M.digs B64 X).length (List.replicate m1 0))) := by
   have := FIT.out
   have e : (M.digs B64 X ++ List.drop (M.digs B64 X).length (List.replicate m1 0)).length = m1 := by rw [List.length_append, List.length_drop, List.length_replicate]; omega
   show _ = _
   unfold slX
   rw [e]
  generalize hG : Nat.gcd X Y = G at *
  have HG := shut hG
  clear hG kn3 o3 kn b2 b1 k0 k1 hT HC RY FIT hle
  go_loopw [0, 1] (fun vx vy wr => ∃ ga gb A B qa qb, vx = slX ga A qa ∧ vy = slX gb B qb ∧ Rows2 g0 g1 G w wr ga gb A B qa qb) (fun _ vy wr => rowN vy wr)
  case atStart => exact ⟨_, _, _, _, _, _, V0.out, V1.out, IN.out⟩
  case round =>
   clear V0 V1 IN
   obtain ⟨ga, gb, A, B, qa, qb, rfl, rfl, RR⟩ := hrel
   have ME := shut (rowN_eq RR.kb)
   have R := shut RR
   by_cases hn : 1 < (M.digs B64 B).length
   ·have LS : Hid (Calls Tryz.prog 200 #[slX ga A qa, slX gb B qb] wr fun e w' => ∃ a b c d : Nat, e = .returned (stV a b c d) ∧ a < B64 ∧ b < B64 ∧ c < B64 ∧ d < B64 ∧
      (b = 0 ∨ ∃ X' Y', M.Eu a b c d A B X' Y' ∧ 0 < Y' ∧ Y' < X' ∧ 1 ≤ c ∧ 1 ≤ d) ∧ Below wr.heap.size wr w') := by
     have l1 := digs_mono' RR.le
     have l2 := RR.size
     have := lsteps_any (some ⟨ga, 0, none⟩) (some ⟨gb, 0, none⟩) (M.digs B64 A ++ qa).length (M.digs B64 B ++ qb).length ((M.digs B64 A).length - 1) (M.digs B64 A) (M.digs B64 B) wr RR.rdA RR.rdB (M.Low.digs B64_two A) (M.Low.digs B64_two B) (by omega) (by omega) (by omega) (by omega)
      (by have := M.trim_digs B64_two A ((M.digs B64 A).length - 1) (by omega); unfold lm; omega) (by rw [M.val_digs B64_two, M.val_digs B64_two]; exact RR.le)
     rw [M.val_digs B64_two, M.val_digs B64_two] at this
     exact this
    have hn1 : (1 : Int) < ((M.digs B64 B).length : Nat) := by omega
    have HN := shut hn
    unfold slX at *
    generalize hna : (M.digs B64 A).length = na at *
    generalize hnb : (M.digs B64 B).length = nb at *
    generalize hca : (M.digs B64 A ++ qa).length = ca at *
    generalize hcb : (M.digs B64 B ++ qb).length = cb at *
    have NA := shut hna
    have NB := shut hnb
    have CA := shut hca
    have CB := shut hcb
    clear hna hnb hca hcb RR hn
    go_wp2_with fail
    refine (LS.out).mono ?_
    rintro e w4 ⟨a, b, c, d, rfl, ha, hb, hc, hd, hs, b4⟩
    unfold stV
    have NO := shut (fun w => none_any a b c d w)
    unfold stV at NO
    obtain ⟨w5, hw5⟩ : ∃ w5, w5 = w4.alloc (.cells #[.int .u64 (a : Nat), .int .u64 (b : Nat), .int .u64 (c : Nat), .int .u64 (d : Nat)] 193) := ⟨_, rfl⟩
    have kS : Cel w5 w4.heap.size [.int .u64 (a : Nat), .int .u64 (b : Nat), .int .u64 (c : Nat), .int .u64 (d : Nat)] 193 := by rw [hw5]; exact Cel.new _ _ _
    have b5 : Below w4.heap.size w4 w5 := by rw [hw5]; go_grown
    have lga := (R.out.below b4).ka.lt
    have lgb := (R.out.below b4).kb.lt
    replace R := shut ((R.out.below b4).below b5)
    go_wp2_with fail
    rw [← hw5]
    clear hw5
    refine (NO.out _).mono ?_
    rintro e w6 ⟨rfl, b6⟩
    replace kS := kS.below b6
    replace R := shut (R.out.below b6)
    have s0 := celq0 kS
    have s1 := celq1 kS
    have s2 := celq2 kS
    have s3 := celq3 kS
    have HA := shut ha
    have HB := shut hb
    have HC := shut hc
    have HD := shut hd
    have HS := shut hs
    clear NO LS b4 b5 b6 ha hb hc hd hs
    have hB0 : 0 < B := by
     rcases Nat.eq_zero_or_pos B with e | e
     ·have h2 := HN.out
      have h3 := NB.out
      rw [e, M.digs_zero] at h3
      simp at h3
      omega
     ·exact e
    by_cases hb0 : b = 0
    ·have DM : Hid (Calls Tryz.prog 179 #[.slice (some ⟨ga, 0, none⟩) na ca, .slice (some ⟨gb, 0, none⟩) nb cb] w6 fun e w' => ∃ q r, e = .returned (.tuple #[q, r, .int .i64 0]) ∧ Rd w' r (M.digs B64 (A % B)) ∧ Below w6.heap.size w6 w') := by
      have rA := R.out.rdA
      have rB := R.out.rdB
      unfold slX at rA rB
      rw [NA.out, CA.out] at rA
      rw [NB.out, CB.out] at rB
      have l1 := digs_mono' R.out.le
      refine (divmod_any _ _ _ _ w6 rA rB (M.Low.digs B64_two A) (M.Low.digs B64_two B) R.out.size (Nat.le_trans l1 R.out.size)).mono ?_
      rintro e w' ⟨-, h, hb⟩
      rw [M.val_digs B64_two, M.val_digs B64_two] at h
      obtain ⟨q, r, h1, -, h3⟩ := h hB0
      exact ⟨q, r, h1, h3, hb⟩
     rw [decide_eq_true hb0]
     go_wp2_with fail
     refine (DM.out).mono ?_
     rintro e w7 ⟨q, r, rfl, rr, b7⟩
     replace R := shut (R.out.below b7)
     have KA := shut R.out.ka
     have l3 : (M.digs B64 (A % B)).length ≤ ca := by
      have l1 := digs_mono' (Nat.le_trans (Nat.le_of_lt (Nat.mod_lt A hB0)) R.out.le)
      have := CA.out
      rw [List.length_append] at this
      omega
     have L3 := shut l3
     have RR := shut rr
     obtain ⟨ar, cr, rfl, -, -⟩ := id rr
     clear rr l3 b7 DM
     go_wp2_with (first
      | (at_builtin; refine wpList_appB rfl _ _ rfl ga ca (M.digs B64 A ++ qa) (M.digs B64 (A % B)) rfl KA.out CA.out _ rfl RR.out L3.out ?_; intro w8 k8 o8))
     have e8 : (M.digs B64 (A % B) ++ (M.digs B64 A ++ qa).drop (M.digs B64 (A % B)).length).length = ca := by
      have := L3.out
      have := CA.out
      rw [List.length_append, List.length_drop]
      omega
     refine ⟨⟨gb, ga, B, A % B, qb, (M.digs B64 A ++ qa).drop (M.digs B64 (A % B)).length, by rw [NB.out, CB.out], by rw [e8], R.out.divided hB0 k8 o8⟩, ?_⟩
     have m8 := rowN_eq k8
     unfold slX at m8
     rw [e8] at m8
     rw [m8, ME.out]
     exact Nat.mod_lt A hB0
    ·rw [decide_eq_false hb0]
     have LO : Hid (Calls Tryz.prog 202 #[.slice (some ⟨gb, 0, none⟩) nb cb, .int .i64 (na : Nat)] w6 fun e w' => e = .returned (.slice (some ⟨gb, 0, none⟩) na cb) ∧ Blk w' gb (M.digs B64 B ++ List.replicate (na - nb) 0 ++ qb.drop (na - nb)) ∧ Only gb w6 w') := by
      have l1 := digs_mono' R.out.le
      have l2 := R.out.cap
      have l4 := R.out.size
      have e1 := NA.out
      have e2 := NB.out
      have := longer_any gb (M.digs B64 B) qb na cb w6 R.out.kb (by omega) (by omega) CB.out.symm (by omega)
      rw [NB.out] at this
      exact this
     go_wp2_with fail
     refine (LO.out).mono ?_
     rintro e w7 ⟨rfl, k7, o7⟩
     have kS7 : Cel w7 w4.heap.size [.int .u64 (a : Nat), .int .u64 (b : Nat), .int .u64 (c : Nat), .int .u64 (d : Nat)] 193 := by
      unfold Cel at kS ⊢
      rw [o7.block _ (by omega)]; exact kS
     have ka7 : Blk w7 ga (M.digs B64 A ++ qa) := o7.blk R.out.ka R.out.ne
     have t0 := celq0 kS7
     have t1 := celq1 kS7
     have t2 := celq2 kS7
     have t3 := celq3 kS7
     obtain ⟨X', Y', eu, y0, yx, c1', d1'⟩ : ∃ X' Y', M.Eu a b c d A B X' Y' ∧ 0 < Y' ∧ Y' < X' ∧ 1 ≤ c ∧ 1 ≤ d := by
      rcases HS.out with h | h
      ·exact absurd h hb0
      ·exact h
     have hXA : X' ≤ A := by
      have := eu.x
      have := Nat.mul_le_mul_right X' d1'
      omega
     have hYB : Y' < B := by
      have := eu.y
      have := Nat.mul_le_mul_right X' c1'
      omega
     have ln : (M.digs B64 B ++ List.replicate (na - nb) 0).length = na := by
      have l1 := digs_mono' R.out.le
      rw [NA.out, NB.out] at l1
      rw [List.length_append, List.length_replicate, NB.out]
      omega
     have vB : M.val B64 (M.digs B64 B ++ List.replicate (na - nb) 0) = B := by
      rw [M.val_append, M.val_digs B64_two, val_zeros, Nat.mul_zero, Nat.add_zero]
     have hA : A < B64 ^ na := by
      have := M.val_lt B64_pos (M.Low.digs B64_two A)
      rwa [M.val_digs B64_two, NA.out] at this
     have TK : Hid (Calls Tryz.prog 203 #[.agg #[.int .u64 (a : Nat), .int .u64 (b : Nat), .int .u64 (c : Nat), .int .u64 (d : Nat)], .slice (some ⟨ga, 0, none⟩) na ca, .slice (some ⟨gb, 0, none⟩) na cb] w7 fun e w' =>
       ∃ xs' ys' : List Nat, e = .returned (.tuple #[]) ∧ Blk w' ga (xs' ++ qa) ∧ Blk w' gb (ys' ++ qb.drop (na - nb)) ∧ xs'.length = na ∧ ys'.length = na ∧ M.Low B64 xs' ∧ M.Low B64 ys' ∧ M.val B64 xs' = X' ∧ M.val B64 ys' = Y' ∧ Grew2 ga gb w7 w') := by
      have hca : (M.digs B64 A).length ≤ cb := by
       have := R.out.cap
       rw [CB.out] at this
       exact this
      have := take_walk a b c d ga gb 136 (M.digs B64 A) (M.digs B64 B ++ List.replicate (na - nb) 0) qa (qb.drop (na - nb)) ca na cb w7 ka7 k7 R.out.ne (by rw [ln, NA.out]) HA.out HB.out HC.out HD.out (M.Low.digs B64_two A)
       ((M.Low.digs B64_two B).append (low_zeros _)) hca (by rw [NA.out]; have := R.out.size; rw [NA.out] at this; omega) X' Y'
       (by rw [M.val_digs B64_two, vB]; rcases eu.take with ⟨h, -⟩ | ⟨h, -⟩; exact Or.inl h; exact Or.inr h) (by rw [M.val_digs B64_two, vB]; rcases eu.take with ⟨-, h⟩ | ⟨-, h⟩; exact Or.inr h; exact Or.inl h)
       (by rw [NA.out]; omega) (by rw [NA.out]; omega)
      rw [NA.out] at this
      exact this
     have EU := shut eu
     have HXA := shut hXA
     have HYB := shut hYB
     have YX := shut yx
     clear s0 s1 s2 s3 eu hXA hYB yx c1' d1' ln vB hA LO
     go_wp2_with fail
     refine (TK.out).mono ?_
     rintro e w8 ⟨xs', ys', rfl, k8, k9, n8, n9, lx8, ly8, v8, v9, g8⟩
     have hna4 : na ≤ 4000 := by have := R.out.size; rw [NA.out] at this; exact this
     have lca : na ≤ ca := by have h1 := NA.out; have h2 := CA.out; rw [List.length_append] at h2; omega
     have lcb : na ≤ cb := by have h1 := R.out.cap; rw [NA.out, CB.out] at h1; exact h1
     have SX := shut (shorter_any w8 (some ⟨ga, 0, none⟩) ca xs' (Bk.rd (t := 136) k8 ca (by omega)) lx8 (by omega))
     have SY := shut (shorter_any w8 (some ⟨gb, 0, none⟩) cb ys' (Bk.rd (t := 136) k9 cb (by omega)) ly8 (by omega))
     rw [n8, v8] at SX
     rw [n9, v9] at SY
     have N8 := shut n8
     have N9 := shut n9
     clear n8 n9 v8 v9
     go_wp2_with fail
     refine (SX.out).mono ?_
     rintro e w9 ⟨i1, rfl, li1, t8, rfl⟩
     go_wp2_with fail
     refine (SY.out).mono ?_
     rintro e w10 ⟨i2, rfl, li2, t9, rfl⟩
     have T8 := shut t8
     have T9 := shut t9
     clear t8 t9
     go_wp2
     have d8 : M.digs B64 X' ++ (xs'.drop i1 ++ qa) = xs' ++ qa := by rw [← T8.out, ← List.append_assoc, List.take_append_drop]
     have d9 : M.digs B64 Y' ++ (ys'.drop i2 ++ qb.drop (na - nb)) = ys' ++ qb.drop (na - nb) := by rw [← T9.out, ← List.append_assoc, List.take_append_drop]
     have n1 : (M.digs B64 X').length = i1 := by rw [← T8.out, List.length_take, N8.out]; omega
     have n2 : (M.digs B64 Y').length = i2 := by rw [← T9.out, List.length_take, N9.out]; omega
     have c8 : (xs' ++ qa).length = ca := by
      have h1 := NA.out
      have h2 := CA.out
      rw [List.length_append] at h2 ⊢
      rw [N8.out]
      omega
     have c9 : (ys' ++ qb.drop (na - nb)).length = cb := by
      have h1 := NB.out
      have h2 := CB.out
      have l1 := digs_mono' R.out.le
      rw [NA.out, NB.out] at l1
      rw [List.length_append] at h2 ⊢
      rw [N9.out, List.length_drop]
      omega
     have g7 : Grew2 ga gb w6 w7 := Grew2.right o7
     refine ⟨⟨ga, gb, X', Y', xs'.drop i1 ++ qa, ys'.drop i2 ++ qb.drop (na - nb), by rw [n1, d8, c8], by rw [n2, d9, c9], ?_⟩, ?_⟩
     ·refine ⟨by rw [d8]; exact k8, by rw [d9]; exact k9, R.out.ne, R.out.fa, R.out.fb, by rw [n1, d9, c9]; omega, Nat.le_of_lt YX.out, by rw [EU.out.gcd]; exact R.out.gcd, by omega, ?_, ?_⟩
      ·exact (R.out.tab.grew2 R.out.ka R.out.kb g7).grew2 ka7 k7 g8
      ·exact (R.out.gr.put g7 R.out.fa R.out.fb).put g8 R.out.fa R.out.fb
     ·have m9 := rowN_eq (g := gb) (A := Y') (q := ys'.drop i2 ++ qb.drop (na - nb)) (by rw [d9]; exact k9)
      unfold slX at m9
      rw [n2, d9, c9] at m9
      rw [m9, ME.out]
      exact HYB.out
   ·have hn1 : ¬ (1 : Int) < ((M.digs B64 B).length : Nat) := by omega
    rcases Nat.eq_zero_or_pos B with hB0 | hB0
    ·have z : M.digs B64 B = [] := by rw [hB0, M.digs_zero]
     have rA := RR.rdA
     have gg := RR.gcd
     rw [hB0, Nat.gcd_zero_right] at gg
     have GR := shut RR.gr
     have RA := shut rA
     have GG := shut gg
     clear gg rA R ME RR hn hn1
     unfold slX at *
     rw [z]
     go_wp2_with fail
     go_ret
     exact ⟨_, rfl, by rw [HG.out, ← GG.out]; exact RA.out, GR.out⟩
    ·have lB : B < B64 := by
      have h1 := M.val_lt B64_pos (M.Low.digs B64_two B)
      rw [M.val_digs B64_two] at h1
      have h2 : B64 ^ (M.digs B64 B).length ≤ B64 ^ 1 := Nat.pow_le_pow_right B64_pos (by omega)
      rw [Nat.pow_one] at h2
      omega
     have z : M.digs B64 B = [B] := dig_one (by omega) lB
     have hGd : M.digs B64 (Nat.gcd B (A % B)) = [Nat.gcd B (A % B)] := dig_one (by have := Nat.gcd_pos_of_pos_left (A % B) hB0; omega) (Nat.lt_of_le_of_lt (Nat.le_of_dvd hB0 (Nat.gcd_dvd_left _ _)) lB)
     have gg : Nat.gcd B (A % B) = G := by rw [Nat.gcd_comm, ← Nat.gcd_rec, Nat.gcd_comm]; exact RR.gcd
     have DM : Hid (Calls Tryz.prog 179 #[slX ga A qa, slX gb B qb] wr fun e w' => ∃ q r, e = .returned (.tuple #[q, r, .int .i64 0]) ∧ Rd w' q (M.digs B64 (A / B)) ∧ Rd w' r (M.digs B64 (A % B)) ∧ Below wr.heap.size wr w') := by
      have l1 := digs_mono' RR.le
      refine (divmod_any _ _ _ _ wr RR.rdA RR.rdB (M.Low.digs B64_two A) (M.Low.digs B64_two B) RR.size (Nat.le_trans l1 RR.size)).mono ?_
      rintro e w' ⟨-, h, hb⟩
      rw [M.val_digs B64_two, M.val_digs B64_two] at h
      obtain ⟨q, r, h1, h2, h3⟩ := h hB0
      exact ⟨q, r, h1, h2, h3, hb⟩
     have LD := shut (fun v w => ldiv_both B (A % B) v w hB0 lB (Nat.mod_lt _ hB0))
     have kb := RR.kb
     rw [z] at kb
     have R2 := shut RR
     unfold slX at *
     rw [z] at DM ⊢
     generalize hna : (M.digs B64 A).length = na at *
     generalize hca : (M.digs B64 A ++ qa).length = ca at *
     generalize hcb : ([B] ++ qb).length = cb at *
     have hcb0 : 1 ≤ cb := by rw [← hcb]; simp
     have GG := shut gg
     have HGD := shut hGd
     have ic : ((0 : Nat) : Int) < cb := by omega
     clear hna hca hcb R ME RR hn hn1 gg hGd z
     simp only [List.length_cons, List.length_nil, Nat.zero_add] at *
     go_wp2_with fail
     refine (DM.out).mono ?_
     rintro e w7 ⟨q, r, rfl, rq, rr, b7⟩
     have y0 := (kb.below b7).cell (j := 0) (by simp)
     rw [show lm ([B] ++ qb) 0 = B from rfl] at y0
     have LD2 := shut (LD.out r w7 rr (R2.out.below b7).tab)
     have RR2 := shut (R2.out.below b7)
     obtain ⟨aq, cq, rfl, -, -⟩ := id rq
     obtain ⟨ar, cr, rfl, -, -⟩ := id rr
     clear rr rq b7 LD R2 kb DM
     go_wp2_with fail
     refine (LD2.out).mono ?_
     rintro e w8 ⟨rfl, rfl⟩
     clear LD2 y0
     go_wp2
     go_ret
     refine ⟨_, rfl, ?_, RR2.out.gr.of_below ((Below.refl _ _).alloc (Nat.le_refl _) _)⟩
     rw [HG.out, ← GG.out, HGD.out]
     exact rd1 _ rfl _
 ·have c1 : ¬ cmpN X Y < 0 := by
   rcases Nat.lt_or_ge Y X with h | h
   ·rw [cmpN_gt h]; omega
   ·rw [cmpN_eq (by omega)]; omega
  generalize cmpN X Y = cc at *
  have HM0 := shut hm0
  have HM1 := shut hm1
  have hle : m1 ≤ m0 := by rw [← hm0, ← hm1]; exact digs_mono' (by omega)
  have RY : Hid (∀ w1, Below w.heap.size w w1 → ∀ w2, Below w1.heap.size w1 w2 → Rd w2 (.slice (some ⟨g1, 0, none⟩) m1 m1) (M.digs B64 Y)) := by
   intro w1 b1 w2 b2
   rw [← hm1]
   exact ((k1.below b1).below b2).rd0 _ (Nat.le_refl _)
  have FIT : Hid ((M.digs B64 Y).length ≤ m0) := by show _ ≤ _; omega
  clear hm0 hm1
  go_enter Tryz.func178, Tryz.ntmps178
  go_wp2_with fail
  refine (HC.out).mono ?_
  rintro e w1 ⟨rfl, b1⟩
  go_wp2_with (first
   | (at_make; refine wpList_mk2 rfl _ _ rfl _ _ 0 m0 rfl rfl (by omega) (by omega) (by omega) (by omega) ?_; intro w2 kn b2)
   | (at_builtin; refine wpList_appB rfl _ _ rfl w1.heap.size m0 (List.replicate m0 0) (M.digs B64 Y) rfl kn (by simp) (.slice (some ⟨g1, 0, none⟩) m1 m1) rfl (RY.out w1 b1 w2 b2) FIT.out ?_; intro w3 kn3 o3))
  have IN : Hid (Rows2 g0 g1 (Nat.gcd X Y) w w3 g0 w1.heap.size X Y [] (List.drop (M.digs B64 Y).length (List.replicate m0 0))) := by
   have l0 := k0.lt
   have e1 := b1.size
   have hb3 : Below w1.heap.size w1 w3 := ⟨o3.os.trans b2.os, o3.tape.trans b2.tape, o3.output.trans b2.output, by rw [o3.size]; exact b2.size, fun i hi => (o3.block i (by omega)).trans (b2.block i hi)⟩
   have hbb := Below.after b1 hb3
   refine ⟨by simpa using k0.below hbb, kn3, by omega, Or.inl rfl, Or.inr (Or.inr e1), ?_, by omega, rfl, by rw [HM0.out]; exact h0, hT.below hbb, Grew2.of hbb⟩
   have := FIT.out
   rw [HM0.out, List.length_append, List.length_drop, List.length_replicate]
   omega
  have V0 : Hid (Value.slice (some ⟨g0, 0, none⟩) m0 m0 = slX g0 X []) := by
   show _ = _
   unfold slX
   rw [List.append_nil, HM0.out]
  have V1 : Hid (Value.slice (some ⟨w1.heap.size, 0, none⟩) (M.digs B64 Y).length m0 = slX w1.heap.size Y (List.drop (M.digs B64 Y).length (List.replicate m0 0))) := by
   have := FIT.out
   have e : (M.digs B64 Y ++ List.drop (M.digs B64 Y).length (List.replicate m0 0)).length = m0 := by rw [List.length_append, List.length_drop, List.length_replicate]; omega
   show _ = _
   unfold slX
   rw [e]
  generalize hG : Nat.gcd X Y = G at *
  have HG := shut hG
  clear hG kn3 o3 kn b2 b1 k0 k1 hT HC RY FIT hle
  go_loopw [0, 1] (fun vx vy wr => ∃ ga gb A B qa qb, vx = slX ga A qa ∧ vy = slX gb B qb ∧ Rows2 g0 g1 G w wr ga gb A B qa qb) (fun _ vy wr => rowN vy wr)
  case atStart => exact ⟨_, _, _, _, _, _, V0.out, V1.out, IN.out⟩
  case round =>
   clear V0 V1 IN
   obtain ⟨ga, gb, A, B, qa, qb, rfl, rfl, RR⟩ := hrel
   have ME := shut (rowN_eq RR.kb)
   have R := shut RR
   by_cases hn : 1 < (M.digs B64 B).length
   ·have LS : Hid (Calls Tryz.prog 200 #[slX ga A qa, slX gb B qb] wr fun e w' => ∃ a b c d : Nat, e = .returned (stV a b c d) ∧ a < B64 ∧ b < B64 ∧ c < B64 ∧ d < B64 ∧
      (b = 0 ∨ ∃ X' Y', M.Eu a b c d A B X' Y' ∧ 0 < Y' ∧ Y' < X' ∧ 1 ≤ c ∧ 1 ≤ d) ∧ Below wr.heap.size wr w') := by
     have l1 := digs_mono' RR.le
     have l2 := RR.size
     have := lsteps_any (some ⟨ga, 0, none⟩) (some ⟨gb, 0, none⟩) (M.digs B64 A ++ qa).length (M.digs B64 B ++ qb).length ((M.digs B64 A).length - 1) (M.digs B64 A) (M.digs B64 B) wr RR.rdA RR.rdB (M.Low.digs B64_two A) (M.Low.digs B64_two B) (by omega) (by omega) (by omega) (by omega)
      (by have := M.trim_digs B64_two A ((M.digs B64 A).length - 1) (by omega); unfold lm; omega) (by rw [M.val_digs B64_two, M.val_digs B64_two]; exact RR.le)
     rw [M.val_digs B64_two, M.val_digs B64_two] at this
     exact this
    have hn1 : (1 : Int) < ((M.digs B64 B).length : Nat) := by omega
    have HN := shut hn
    unfold slX at *
    generalize hna : (M.digs B64 A).length = na at *
    generalize hnb : (M.digs B64 B).length = nb at *
    generalize hca : (M.digs B64 A ++ qa).length = ca at *
    generalize hcb : (M.digs B64 B ++ qb).length = cb at *
    have NA := shut hna
    have NB := shut hnb
    have CA := shut hca
    have CB := shut hcb
    clear hna hnb hca hcb RR hn
    go_wp2_with fail
    refine (LS.out).mono ?_
    rintro e w4 ⟨a, b, c, d, rfl, ha, hb, hc, hd, hs, b4⟩
    unfold stV
    have NO := shut (fun w => none_any a b c d w)
    unfold stV at NO
    obtain ⟨w5, hw5⟩ : ∃ w5, w5 = w4.alloc (.cells #[.int .u64 (a : Nat), .int .u64 (b : Nat), .int .u64 (c : Nat), .int .u64 (d : Nat)] 193) := ⟨_, rfl⟩
    have kS : Cel w5 w4.heap.size [.int .u64 (a : Nat), .int .u64 (b : Nat), .int .u64 (c : Nat), .int .u64 (d : Nat)] 193 := by rw [hw5]; exact Cel.new _ _ _
    have b5 : Below w4.heap.size w4 w5 := by rw [hw5]; go_grown
    have lga := (R.out.below b4).ka.lt
    have lgb := (R.out.below b4).kb.lt
    replace R := shut ((R.out.below b4).below b5)
    go_wp2_with fail
    rw [← hw5]
    clear hw5
    refine (NO.out _).mono ?_
    rintro e w6 ⟨rfl, b6⟩
    replace kS := kS.below b6
    replace R := shut (R.out.below b6)
    have s0 := celq0 kS
    have s1 := celq1 kS
    have s2 := celq2 kS
    have s3 := celq3 kS
    have HA := shut ha
    have HB := shut hb
    have HC := shut hc
    have HD := shut hd
    have HS := shut hs
    clear NO LS b4 b5 b6 ha hb hc hd hs
    have hB0 : 0 < B := by
     rcases Nat.eq_zero_or_pos B with e | e
     ·have h2 := HN.out
      have h3 := NB.out
      rw [e, M.digs_zero] at h3
      simp at h3
      omega
     ·exact e
    by_cases hb0 : b = 0
    ·have DM : Hid (Calls Tryz.prog 179 #[.slice (some ⟨ga, 0, none⟩) na ca, .slice (some ⟨gb, 0, none⟩) nb cb] w6 fun e w' => ∃ q r, e = .returned (.tuple #[q, r, .int .i64 0]) ∧ Rd w' r (M.digs B64 (A % B)) ∧ Below w6.heap.size w6 w') := by
      have rA := R.out.rdA
      have rB := R.out.rdB
      unfold slX at rA rB
      rw [NA.out, CA.out] at rA
      rw [NB.out, CB.out] at rB
      have l1 := digs_mono' R.out.le
      refine (divmod_any _ _ _ _ w6 rA rB (M.Low.digs B64_two A) (M.Low.digs B64_two B) R.out.size (Nat.le_trans l1 R.out.size)).mono ?_
      rintro e w' ⟨-, h, hb⟩
      rw [M.val_digs B64_two, M.val_digs B64_two] at h
      obtain ⟨q, r, h1, -, h3⟩ := h hB0
      exact ⟨q, r, h1, h3, hb⟩
     rw [decide_eq_true hb0]
     go_wp2_with fail
     refine (DM.out).mono ?_
     rintro e w7 ⟨q, r, rfl, rr, b7⟩
     replace R := shut (R.out.below b7)
     have KA := shut R.out.ka
     have l3 : (M.digs B64 (A % B)).length ≤ ca := by
      have l1 := digs_mono' (Nat.le_trans (Nat.le_of_lt (Nat.mod_lt A hB0)) R.out.le)
      have := CA.out
      rw [List.length_append] at this
      omega
     have L3 := shut l3
     have RR := shut rr
     obtain ⟨ar, cr, rfl, -, -⟩ := id rr
     clear rr l3 b7 DM
     go_wp2_with (first
      | (at_builtin; refine wpList_appB rfl _ _ rfl ga ca (M.digs B64 A ++ qa) (M.digs B64 (A % B)) rfl KA.out CA.out _ rfl RR.out L3.out ?_; intro w8 k8 o8))
     have e8 : (M.digs B64 (A % B) ++ (M.digs B64 A ++ qa).drop (M.digs B64 (A % B)).length).length = ca := by
      have := L3.out
      have := CA.out
      rw [List.length_append, List.length_drop]
      omega
     refine ⟨⟨gb, ga, B, A % B, qb, (M.digs B64 A ++ qa).drop (M.digs B64 (A % B)).length, by rw [NB.out, CB.out], by rw [e8], R.out.divided hB0 k8 o8⟩, ?_⟩
     have m8 := rowN_eq k8
     unfold slX at m8
     rw [e8] at m8
     rw [m8, ME.out]
     exact Nat.mod_lt A hB0
    ·rw [decide_eq_false hb0]
     have LO : Hid (Calls Tryz.prog 202 #[.slice (some ⟨gb, 0, none⟩) nb cb, .int .i64 (na : Nat)] w6 fun e w' => e = .returned (.slice (some ⟨gb, 0, none⟩) na cb) ∧ Blk w' gb (M.digs B64 B ++ List.replicate (na - nb) 0 ++ qb.drop (na - nb)) ∧ Only gb w6 w') := by
      have l1 := digs_mono' R.out.le
      have l2 := R.out.cap
      have l4 := R.out.size
      have e1 := NA.out
      have e2 := NB.out
      have := longer_any gb (M.digs B64 B) qb na cb w6 R.out.kb (by omega) (by omega) CB.out.symm (by omega)
      rw [NB.out] at this
      exact this
     go_wp2_with fail
     refine (LO.out).mono ?_
     rintro e w7 ⟨rfl, k7, o7⟩
     have kS7 : Cel w7 w4.heap.size [.int .u64 (a : Nat), .int .u64 (b : Nat), .int .u64 (c : Nat), .int .u64 (d : Nat)] 193 := by
      unfold Cel at kS ⊢
      rw [o7.block _ (by omega)]; exact kS
     have ka7 : Blk w7 ga (M.digs B64 A ++ qa) := o7.blk R.out.ka R.out.ne
     have t0 := celq0 kS7
     have t1 := celq1 kS7
     have t2 := celq2 kS7
     have t3 := celq3 kS7
     obtain ⟨X', Y', eu, y0, yx, c1', d1'⟩ : ∃ X' Y', M.Eu a b c d A B X' Y' ∧ 0 < Y' ∧ Y' < X' ∧ 1 ≤ c ∧ 1 ≤ d := by
      rcases HS.out with h | h
      ·exact absurd h hb0
      ·exact h
     have hXA : X' ≤ A := by
      have := eu.x
      have := Nat.mul_le_mul_right X' d1'
      omega
     have hYB : Y' < B := by
      have := eu.y
      have := Nat.mul_le_mul_right X' c1'
      omega
     have ln : (M.digs B64 B ++ List.replicate (na - nb) 0).length = na := by
      have l1 := digs_mono' R.out.le
      rw [NA.out, NB.out] at l1
      rw [List.length_append, List.length_replicate, NB.out]
      omega
     have vB : M.val B64 (M.digs B64 B ++ List.replicate (na - nb) 0) = B := by
      rw [M.val_append, M.val_digs B64_two, val_zeros, Nat.mul_zero, Nat.add_zero]
     have hA : A < B64 ^ na := by
      have := M.val_lt B64_pos (M.Low.digs B64_two A)
      rwa [M.val_digs B64_two, NA.out] at this
     have TK : Hid (Calls Tryz.prog 203 #[.agg #[.int .u64 (a : Nat), .int .u64 (b : Nat), .int .u64 (c : Nat), .int .u64 (d : Nat)], .slice (some ⟨ga, 0, none⟩) na ca, .slice (some ⟨gb, 0, none⟩) na cb] w7 fun e w' =>
       ∃ xs' ys' : List Nat, e = .returned (.tuple #[]) ∧ Blk w' ga (xs' ++ qa) ∧ Blk w' gb (ys' ++ qb.drop (na - nb)) ∧ xs'.length = na ∧ ys'.length = na ∧ M.Low B64 xs' ∧ M.Low B64 ys' ∧ M.val B64 xs' = X' ∧ M.val B64 ys' = Y' ∧ Grew2 ga gb w7 w') := by
      have hca : (M.digs B64 A).length ≤ cb := by
       have := R.out.cap
       rw [CB.out] at this
       exact this
      have := take_walk a b c d ga gb 136 (M.digs B64 A) (M.digs B64 B ++ List.replicate (na - nb) 0) qa (qb.drop (na - nb)) ca na cb w7 ka7 k7 R.out.ne (by rw [ln, NA.out]) HA.out HB.out HC.out HD.out (M.Low.digs B64_two A)
       ((M.Low.digs B64_two B).append (low_zeros _)) hca (by rw [NA.out]; have := R.out.size; rw [NA.out] at this; omega) X' Y'
       (by rw [M.val_digs B64_two, vB]; rcases eu.take with ⟨h, -⟩ | ⟨h, -⟩; exact Or.inl h; exact Or.inr h) (by rw [M.val_digs B64_two, vB]; rcases eu.take with ⟨-, h⟩ | ⟨-, h⟩; exact Or.inr h; exact Or.inl h)
       (by rw [NA.out]; omega) (by rw [NA.out]; omega)
      rw [NA.out] at this
      exact this
     have EU := shut eu
     have HXA := shut hXA
     have HYB := shut hYB
     have YX := shut yx
     clear s0 s1 s2 s3 eu hXA hYB yx c1' d1' ln vB hA LO
     go_wp2_with fail
     refine (TK.out).mono ?_
     rintro e w8 ⟨xs', ys', rfl, k8, k9, n8, n9, lx8, ly8, v8, v9, g8⟩
     have hna4 : na ≤ 4000 := by have := R.out.size; rw [NA.out] at this; exact this
     have lca : na ≤ ca := by have h1 := NA.out; have h2 := CA.out; rw [List.length_append] at h2; omega
     have lcb : na ≤ cb := by have h1 := R.out.cap; rw [NA.out, CB.out] at h1; exact h1
     have SX := shut (shorter_any w8 (some ⟨ga, 0, none⟩) ca xs' (Bk.rd (t := 136) k8 ca (by omega)) lx8 (by omega))
     have SY := shut (shorter_any w8 (some ⟨gb, 0, none⟩) cb ys' (Bk.rd (t := 136) k9 cb (by omega)) ly8 (by omega))
     rw [n8, v8] at SX
     rw [n9, v9] at SY
     have N8 := shut n8
     have N9 := shut n9
     clear n8 n9 v8 v9
     go_wp2_with fail
     refine (SX.out).mono ?_
     rintro e w9 ⟨i1, rfl, li1, t8, rfl⟩
     go_wp2_with fail
     refine (SY.out).mono ?_
     rintro e w10 ⟨i2, rfl, li2, t9, rfl⟩
     have T8 := shut t8
     have T9 := shut t9
     clear t8 t9
     go_wp2
     have d8 : M.digs B64 X' ++ (xs'.drop i1 ++ qa) = xs' ++ qa := by rw [← T8.out, ← List.append_assoc, List.take_append_drop]
     have d9 : M.digs B64 Y' ++ (ys'.drop i2 ++ qb.drop (na - nb)) = ys' ++ qb.drop (na - nb) := by rw [← T9.out, ← List.append_assoc, List.take_append_drop]
     have n1 : (M.digs B64 X').length = i1 := by rw [← T8.out, List.length_take, N8.out]; omega
     have n2 : (M.digs B64 Y').length = i2 := by rw [← T9.out, List.length_take, N9.out]; omega
     have c8 : (xs' ++ qa).length = ca := by
      have h1 := NA.out
      have h2 := CA.out
      rw [List.length_append] at h2 ⊢
      rw [N8.out]
      omega
     have c9 : (ys' ++ qb.drop (na - nb)).length = cb := by
      have h1 := NB.out
      have h2 := CB.out
      have l1 := digs_mono' R.out.le
      rw [NA.out, NB.out] at l1
      rw [List.length_append] at h2 ⊢
      rw [N9.out, List.length_drop]
      omega
     have g7 : Grew2 ga gb w6 w7 := Grew2.right o7
     refine ⟨⟨ga, gb, X', Y', xs'.drop i1 ++ qa, ys'.drop i2 ++ qb.drop (na - nb), by rw [n1, d8, c8], by rw [n2, d9, c9], ?_⟩, ?_⟩
     ·refine ⟨by rw [d8]; exact k8, by rw [d9]; exact k9, R.out.ne, R.out.fa, R.out.fb, by rw [n1, d9, c9]; omega, Nat.le_of_lt YX.out, by rw [EU.out.gcd]; exact R.out.gcd, by omega, ?_, ?_⟩
      ·exact (R.out.tab.grew2 R.out.ka R.out.kb g7).grew2 ka7 k7 g8
      ·exact (R.out.gr.put g7 R.out.fa R.out.fb).put g8 R.out.fa R.out.fb
     ·have m9 := rowN_eq (g := gb) (A := Y') (q := ys'.drop i2 ++ qb.drop (na - nb)) (by rw [d9]; exact k9)
      unfold slX at m9
      rw [n2, d9, c9] at m9
      rw [m9, ME.out]
      exact HYB.out
   ·have hn1 : ¬ (1 : Int) < ((M.digs B64 B).length : Nat) := by omega
    rcases Nat.eq_zero_or_pos B with hB0 | hB0
    ·have z : M.digs B64 B = [] := by rw [hB0, M.digs_zero]
     have rA := RR.rdA
     have gg := RR.gcd
     rw [hB0, Nat.gcd_zero_right] at gg
     have GR := shut RR.gr
     have RA := shut rA
     have GG := shut gg
     clear gg rA R ME RR hn hn1
     unfold slX at *
     rw [z]
     go_wp2_with fail
     go_ret
     exact ⟨_, rfl, by rw [HG.out, ← GG.out]; exact RA.out, GR.out⟩
    ·have lB : B < B64 := by
      have h1 := M.val_lt B64_pos (M.Low.digs B64_two B)
      rw [M.val_digs B64_two] at h1
      have h2 : B64 ^ (M.digs B64 B).length ≤ B64 ^ 1 := Nat.pow_le_pow_right B64_pos (by omega)
      rw [Nat.pow_one] at h2
      omega
     have z : M.digs B64 B = [B] := dig_one (by omega) lB
     have hGd : M.digs B64 (Nat.gcd B (A % B)) = [Nat.gcd B (A % B)] := dig_one (by have := Nat.gcd_pos_of_pos_left (A % B) hB0; omega) (Nat.lt_of_le_of_lt (Nat.le_of_dvd hB0 (Nat.gcd_dvd_left _ _)) lB)
     have gg : Nat.gcd B (A % B) = G := by rw [Nat.gcd_comm, ← Nat.gcd_rec, Nat.gcd_comm]; exact RR.gcd
     have DM : Hid (Calls Tryz.prog 179 #[slX ga A qa, slX gb B qb] wr fun e w' => ∃ q r, e = .returned (.tuple #[q, r, .int .i64 0]) ∧ Rd w' q (M.digs B64 (A / B)) ∧ Rd w' r (M.digs B64 (A % B)) ∧ Below wr.heap.size wr w') := by
      have l1 := digs_mono' RR.le
      refine (divmod_any _ _ _ _ wr RR.rdA RR.rdB (M.Low.digs B64_two A) (M.Low.digs B64_two B) RR.size (Nat.le_trans l1 RR.size)).mono ?_
      rintro e w' ⟨-, h, hb⟩
      rw [M.val_digs B64_two, M.val_digs B64_two] at h
      obtain ⟨q, r, h1, h2, h3⟩ := h hB0
      exact ⟨q, r, h1, h2, h3, hb⟩
     have LD := shut (fun v w => ldiv_both B (A % B) v w hB0 lB (Nat.mod_lt _ hB0))
     have kb := RR.kb
     rw [z] at kb
     have R2 := shut RR
     unfold slX at *
     rw [z] at DM ⊢
     generalize hna : (M.digs B64 A).length = na at *
     generalize hca : (M.digs B64 A ++ qa).length = ca at *
     generalize hcb : ([B] ++ qb).length = cb at *
     have hcb0 : 1 ≤ cb := by rw [← hcb]; simp
     have GG := shut gg
     have HGD := shut hGd
     have ic : ((0 : Nat) : Int) < cb := by omega
     clear hna hca hcb R ME RR hn hn1 gg hGd z
     simp only [List.length_cons, List.length_nil, Nat.zero_add] at *
     go_wp2_with fail
     refine (DM.out).mono ?_
     rintro e w7 ⟨q, r, rfl, rq, rr, b7⟩
     have y0 := (kb.below b7).cell (j := 0) (by simp)
     rw [show lm ([B] ++ qb) 0 = B from rfl] at y0
     have LD2 := shut (LD.out r w7 rr (R2.out.below b7).tab)
     have RR2 := shut (R2.out.below b7)
     obtain ⟨aq, cq, rfl, -, -⟩ := id rq
     obtain ⟨ar, cr, rfl, -, -⟩ := id rr
     clear rr rq b7 LD R2 kb DM
     go_wp2_with fail
     refine (LD2.out).mono ?_
     rintro e w8 ⟨rfl, rfl⟩
     clear LD2 y0
     go_wp2
     go_ret
     refine ⟨_, rfl, ?_, RR2.out.gr.of_below ((Below.refl _ _).alloc (Nat.le_refl _) _)⟩
     rw [HG.out, ← GG.out, HGD.out]
     exact rd1 _ rfl _
end Go.Proofs.YtafikdacdfkkhaaGreatDoor
namespace Go.Proofs.YtafikdacdfkkhaaGreatDoor
open Go.RowKit Go.Shelf

theorem Below.of_grew2 {w w1 w2 w3 : World} {g0 g1 : Nat} (bb : Below w.heap.size w w1) (h2 : Grew2 g0 g1 w1.drew w2) (h3 : Below w2.heap.size w2 w3) (l0 : w.heap.size ≤ g0) (l1 : w.heap.size ≤ g1) : Below w.heap.size w w3 :=
 Below.after (Grew2.below (show Below w.heap.size w w1.drew from bb.drew) h2 bb.size l0 l1) h3
theorem nat_ltK {s : ByteArray} {K : Nat} (h : s.size ≤ 8 * K) : natOf s < B64 ^ K := by
 refine Nat.lt_of_lt_of_le (natOf_lt s) ?_
 rw [B64_pow]
 exact Nat.pow_le_pow_right (by omega) h
theorem digs_leK {s : ByteArray} {K : Nat} (h : s.size ≤ 8 * K) : (M.digs B64 (natOf s)).length ≤ K := M.digs_len_of_lt B64_two (nat_ltK h)
theorem gcd_le_max (a b : Nat) : Nat.gcd a b ≤ max a b := by
 rcases Nat.eq_zero_or_pos a with h | h
 ·rw [h, Nat.gcd_zero_left]; omega
 ·have := Nat.le_of_dvd h (Nat.gcd_dvd_left a b); omega

theorem gcd_ltK {s0 s1 : ByteArray} {K : Nat} (h0 : s0.size ≤ 8 * K) (h1 : s1.size ≤ 8 * K) : Nat.gcd (natOf s0) (natOf s1) < B64 ^ K := by
 have a := nat_ltK h0
 have b := nat_ltK h1
 have c := gcd_le_max (natOf s0) (natOf s1)
 generalize B64 ^ K = P at *
 omega

theorem tellG {s0 s1 : ByteArray} {K : Nat} (hK : K ≤ 4000) (h0 : s0.size ≤ 8 * K) (h1 : s1.size ≤ 8 * K) (v : Value) (wx : World) (hr : Rd wx v (M.digs B64 (Nat.gcd (natOf s0) (natOf s1)))) :
  Calls Tryz.prog 177 #[.agg #[.bool false, v]] wx fun e w' => e = .returned (zI (sgn false (Nat.gcd (natOf s0) (natOf s1)))) ∧ Below wx.heap.size wx w' := tell_dig false hK (gcd_ltK h0 h1) v wx hr

set_option maxRecDepth 100000 in
set_option maxHeartbeats 4000000 in
theorem zgcd_ok (n0 n1 : Bool) (s0 s1 : ByteArray) (w : World) (o0 : OkZ n0 s0) (o1 : OkZ n1 s1) (z0 : s0.size ≤ 32000) (z1 : s1.size ≤ 32000) (hT : Tab w) :
  Calls Tryz.prog 149 #[.agg #[.bool n0, .string s0], .agg #[.bool n1, .string s1]] w fun e w' => e = .returned (.tuple #[zI (Nat.gcd (natOf s0) (natOf s1) : Nat), .int .i64 0]) ∧ Below w.heap.size w w' := by
 have HT := shut (tellG (s0 := s0) (s1 := s1) (K := 4000) (by omega) (by omega) (by omega))
 have hz : sgn false (Nat.gcd (natOf s0) (natOf s1)) = ((Nat.gcd (natOf s0) (natOf s1) : Nat) : Int) := rfl
 rw [hz] at HT
 generalize hR : zI ((Nat.gcd (natOf s0) (natOf s1) : Nat) : Int) = R at *
 obtain ⟨za, zb, rfl⟩ : ∃ a b, R = .agg #[.bool a, .string b] := ⟨_, _, hR.symm⟩
 clear hR hz
 go_enter Tryz.func149, Tryz.ntmps149
 go_wp2_with fail
 obtain ⟨w0, hw0, k0, k1, k2, k3, hb0⟩ := boxes4 w (.bool n0) (.string s0) (.bool n1) (.string s1)
 rw [← hw0]
 clear hw0
 refine (read2_own _ n0 n1 s0 s1 w0 k3 o0 o1 z0 z1).mono ?_
 rintro e w1 ⟨g, g0, g1, m0, m1, rfl, kg, e0, e1, r0, r1, hg, hg0, hg1, hb⟩
 have c0 := kg.cell 0
 have c1 := kg.cell 1
 have c2 := kg.cell 2
 have c3 := kg.cell 3
 simp only [List.getElem?_cons_zero, List.getElem?_cons_succ] at c0 c1 c2 c3
 have lt2 := k2.lt
 have m2 := k2.below hb
 have bb := Below.after hb0 hb
 have d0 := digs_leK (s := s0) (K := 4000) (by omega)
 have d1 := digs_leK (s := s1) (K := 4000) (by omega)
 have H55 := shut (cdiv_any g0 g1 (natOf s0) (natOf s1) m0 m1 w1.drew e0 e1 (show Blk w1 _ _ from r0) (show Blk w1 _ _ from r1) (by omega) (by omega) (show Tab w1 from (hT.below hb0).below hb))
 have bs := hb0.size
 clear k0 k1 k2 k3 kg hT e0 e1 r0 r1 d0 d1
 go_wp2
 go_region_with (first | (go_at_call 178; refine (H55.out).mono ?_; rintro e w2 ⟨v, rfl, rv, hb2⟩; obtain ⟨av, cv, rfl, -, -⟩ := id rv) | (go_at_call 177; refine (HT.out _ w2 rv).mono ?_; rintro e w3 ⟨rfl, hb3⟩; have q2 := ((show Cel w1.drew _ _ _ from m2).grew2 hb2 (by omega) (by omega)).below hb3; have e0 := cel2_0 q2; have e1 := cel2_1 q2; have f0 := q2.frozen 0; have f1 := q2.frozen 1))
 all_goals try go_wp2
 all_goals refine post_z1 (p := 4) (u := 5) (by kernel_rfl) rfl rfl rfl ((q2.set 0 _).set 1 _) ⟨rfl, ((Below.of_grew2 bb hb2 hb3 (by omega) (by omega)).setCell (by simp; omega) _).setCell (by simp; omega) _⟩

end Go.Proofs.YtafikdacdfkkhaaGreatDoor
namespace Go.Proofs.YtafikdacdfkkhaaGreatDoor
open Go.RowKit

set_option maxRecDepth 100000 in
set_option maxHeartbeats 1000000 in
theorem divisor_plain (n0 n1 : Bool) (s0 s1 : ByteArray) (w : World) (o0 : OkZ n0 s0) (o1 : OkZ n1 s1) (z0 : s0.size ≤ 32000) (z1 : s1.size ≤ 32000) (hT : Tab w) (hne0 : s0 ≠ ⟨#[1]⟩) (hne : s1 ≠ ⟨#[1]⟩) :
  Calls Tryz.prog 117 #[.agg #[.bool n0, .string s0], .agg #[.bool n1, .string s1]] w fun e w' => e = .returned (zI ((Nat.gcd (natOf s0) (natOf s1) : Nat) : Int)) ∧ Below w.heap.size w w' := by
 have HA := shut (fun w hT => zgcd_ok n0 n1 s0 s1 w o0 o1 z0 z1 hT)
 generalize hR : zI ((Nat.gcd (natOf s0) (natOf s1) : Nat) : Int) = R at *
 obtain ⟨za, zb, rfl⟩ : ∃ a b, R = .agg #[.bool a, .string b] := ⟨_, _, hR.symm⟩
 clear hR
 have hne0 := ne1 hne0
 have hne := ne1 hne
 go_enter Tryz.func117, Tryz.ntmps117
 go_wp2_with fail
 go_fit (HA.out _ (hT.below (ba (ba (ba (Below.refl _ _) _) _) _)))
 rintro e w1 ⟨rfl, b1⟩
 obtain ⟨ka, kb, kr, b1⟩ := al3 b1
 have bb := b1
 clear b1
 have cr_0 := cel2_0' (kr.alloc (.cells #[.bool za, .string zb] 24))
 have fr_1 := Cel.frozen (kr.alloc (.cells #[.bool za, .string zb] 24)) 0
 have cr_2 := cel2_1' (kr.alloc (.cells #[.bool za, .string zb] 24))
 have fr_3 := Cel.frozen (kr.alloc (.cells #[.bool za, .string zb] 24)) 1
 go_wp2
 have kr' := (kr.alloc (.cells #[.bool za, .string zb] 24))
 exact post_z (p := 4) (by kernel_rfl) rfl rfl ((kr'.set 0 _).set 1 _) ⟨rfl, (Below.setCell (ba bb _) (by simp; omega) _).setCell (by simp; omega) _⟩
set_option maxRecDepth 100000 in
set_option maxHeartbeats 1000000 in
theorem divisor_l (n0 n1 : Bool) (s1 : ByteArray) (w : World) :
  Calls Tryz.prog 117 #[.agg #[.bool n0, .string ⟨#[1]⟩], .agg #[.bool n1, .string s1]] w fun e w' => e = .returned (.agg #[.bool false, .string ⟨#[1]⟩]) ∧ Below w.heap.size w w' := by
 go_enter Tryz.func117, Tryz.ntmps117
 go_wp2
 obtain ⟨w0, hw, k0, k1, k2, b⟩ := mk3 w [.bool n0, .string ⟨#[1]⟩] [.bool n1, .string s1] [.bool false, .string ⟨#[1]⟩] 24 24 24
 rw [← hw]
 exact post_z (p := 4) (by kernel_rfl) rfl rfl k2 ⟨rfl, b⟩
set_option maxRecDepth 100000 in
set_option maxHeartbeats 1000000 in
theorem divisor_r (n0 n1 : Bool) (s0 : ByteArray) (w : World) (hne : s0 ≠ ⟨#[1]⟩) :
  Calls Tryz.prog 117 #[.agg #[.bool n0, .string s0], .agg #[.bool n1, .string ⟨#[1]⟩]] w fun e w' => e = .returned (.agg #[.bool false, .string ⟨#[1]⟩]) ∧ Below w.heap.size w w' := by
 have hne := ne1 hne
 go_enter Tryz.func117, Tryz.ntmps117
 go_wp2
 obtain ⟨w0, hw, k0, k1, k2, b⟩ := mk3 w [.bool n0, .string s0] [.bool n1, .string ⟨#[1]⟩] [.bool false, .string ⟨#[1]⟩] 24 24 24
 rw [← hw]
 exact post_z (p := 4) (by kernel_rfl) rfl rfl k2 ⟨rfl, b⟩
theorem divisor_ok (n0 n1 : Bool) (s0 s1 : ByteArray) (w : World) (o0 : OkZ n0 s0) (o1 : OkZ n1 s1) (z0 : s0.size ≤ 32000) (z1 : s1.size ≤ 32000) (hT : Tab w) :
  Calls Tryz.prog 117 #[.agg #[.bool n0, .string s0], .agg #[.bool n1, .string s1]] w fun e w' => e = .returned (zI ((Nat.gcd (natOf s0) (natOf s1) : Nat) : Int)) ∧ Below w.heap.size w w' := by
 by_cases h0 : s0 = ⟨#[1]⟩
 ·subst h0
  rw [natOf_one, Nat.gcd_one_left, show (((1 : Nat) : Int)) = 1 from rfl, zI_one]
  exact divisor_l n0 n1 s1 w
 ·by_cases h1 : s1 = ⟨#[1]⟩
  ·subst h1
   rw [natOf_one, Nat.gcd_one_right, show (((1 : Nat) : Int)) = 1 from rfl, zI_one]
   exact divisor_r n0 n1 s0 w h0
  ·exact divisor_plain n0 n1 s0 s1 w o0 o1 z0 z1 hT h0 h1
end Go.Proofs.YtafikdacdfkkhaaGreatDoor
namespace Go.Proofs.YtafikdacdfkkhaaGreatDoor
open Go.RowKit

theorem fld1 (n : Bool) (s : ByteArray) (w : World) : (Instr.field 24 (.agg #[.bool n, .string s]) 1).run Tryz.prog w = .ok (.string s) w := by kernel_rfl

set_option maxRecDepth 100000 in
set_option maxHeartbeats 4000000 in
theorem rchk_long (n : Bool) (s d : ByteArray) (w : World)
  (HL : Hid (∀ (B : Nat) (w : World) (_ : Cel w B [.string s, .string d] 22), Calls Tryz.prog 115 #[.slice (some ⟨B, 0, none⟩) 2 2] w fun e w' => e = .returned (.bool true) ∧ Below w.heap.size w w')) :
  Calls Tryz.prog 132 #[.agg #[.bool n, .string s, .string d]] w fun e w' => e = .returned (.int .i64 5) ∧ Below w.heap.size w w' := by
 go_enter Tryz.func132, Tryz.ntmps132
 go_wp2_with fail
 obtain ⟨w0, hw, k0, k1, bb⟩ := mk2 w [.bool n, .string s, .string d] [.string s, .string d] 26 22
 rw [← hw]
 clear hw
 go_fit (HL.out _ w0 k1)
 rintro e w1 ⟨rfl, b1⟩
 replace k0 := k0.below b1
 replace bb := Below.after bb b1
 clear b1 k1
 go_wp2
 go_ret
 exact ⟨rfl, bb⟩
set_option maxRecDepth 100000 in
set_option maxHeartbeats 4000000 in
theorem rchk_num (n : Bool) (s d : ByteArray) (w : World) (c : Int) (hc : ¬ c = 0)
  (HL : Hid (∀ (B : Nat) (w : World) (_ : Cel w B [.string s, .string d] 22), Calls Tryz.prog 115 #[.slice (some ⟨B, 0, none⟩) 2 2] w fun e w' => e = .returned (.bool false) ∧ Below w.heap.size w w'))
  (HC : Hid (∀ w1, Calls Tryz.prog 116 #[.agg #[.bool n, .string s]] w1 fun e w' => e = .returned (.int .i64 c) ∧ Below w1.heap.size w1 w')) :
  Calls Tryz.prog 132 #[.agg #[.bool n, .string s, .string d]] w fun e w' => e = .returned (.int .i64 c) ∧ Below w.heap.size w w' := by
 go_enter Tryz.func132, Tryz.ntmps132
 go_wp2_with fail
 obtain ⟨w0, hw, k0, k1, bb⟩ := mk2 w [.bool n, .string s, .string d] [.string s, .string d] 26 22
 rw [← hw]
 clear hw
 go_fit (HL.out _ w0 k1)
 rintro e w1 ⟨rfl, b1⟩
 replace k0 := k0.below b1
 replace bb := Below.after bb b1
 clear b1 k1
 have c0 := cel3_0 k0
 have c1 := cel3_1 k0
 have c2 := cel3_2 k0
 go_wp2_with fail
 go_fit (HC.out _)
 rintro e w2 ⟨rfl, b1⟩
 replace k0 := k0.below b1
 replace bb := Below.after bb b1
 clear b1 c0 c1 c2
 go_wp2
 go_ret
 exact ⟨rfl, bb⟩
set_option maxRecDepth 100000 in
set_option maxHeartbeats 4000000 in
theorem rchk_ok (n zn : Bool) (s d zs : ByteArray) (w : World) (hd : 0 < d.size) (hd0 : ¬ lm (byts d) 0 = 0)
  (HL : Hid (∀ (B : Nat) (w : World) (_ : Cel w B [.string s, .string d] 22), Calls Tryz.prog 115 #[.slice (some ⟨B, 0, none⟩) 2 2] w fun e w' => e = .returned (.bool false) ∧ Below w.heap.size w w'))
  (HC : Hid (∀ w1, Calls Tryz.prog 116 #[.agg #[.bool n, .string s]] w1 fun e w' => e = .returned (.int .i64 0) ∧ Below w1.heap.size w1 w'))
  (HV : Hid (∀ w1, Below w.heap.size w w1 → Calls Tryz.prog 117 #[.agg #[.bool n, .string s], .agg #[.bool false, .string d]] w1 fun e w' => e = .returned (.agg #[.bool zn, .string zs]) ∧ Below w1.heap.size w1 w'))
  (hz : (zs.toList == [1]) = true) :
  Calls Tryz.prog 132 #[.agg #[.bool n, .string s, .string d]] w fun e w' => e = .returned (.int .i64 0) ∧ Below w.heap.size w w' := by
 have g1 : ¬ ((d[0]).toNat : Int) = 0 := by rw [byts_at d 0 hd]; omega
 have g2 : ¬ d[0] = 0 := fun h => g1 (by rw [h]; rfl)
 have g4 := toList_ne hd
 have g5 : d.toList.isEmpty = false := by simpa using g4
 have g6 : (0 : Int) < d.size := by omega
 clear hd0
 have g7 : (((d[0]).toNat : Int) == 0) = false := by simpa using g1
 have gf := fld1 zn zs
 go_enter Tryz.func132, Tryz.ntmps132
 go_wp2_with fail
 obtain ⟨w0, hw, k0, k1, bb⟩ := mk2 w [.bool n, .string s, .string d] [.string s, .string d] 26 22
 rw [← hw]
 clear hw
 go_fit (HL.out _ w0 k1)
 rintro e w1 ⟨rfl, b1⟩
 replace k0 := k0.below b1
 replace bb := Below.after bb b1
 clear b1 k1
 have c0 := cel3_0 k0
 have c1 := cel3_1 k0
 have c2 := cel3_2 k0
 go_wp2_with fail
 go_fit (HC.out _)
 rintro e w2 ⟨rfl, b1⟩
 replace k0 := k0.below b1
 replace bb := Below.after bb b1
 clear b1 c0 c1 c2
 go_wp2
 refine wp_region_held_drew (S := (fun w' => w'.cell? ⟨w.heap.size, 0, none⟩ = some (.bool n) ∧ w'.cell? ⟨w.heap.size, 1, none⟩ = some (.string s) ∧ w'.cell? ⟨w.heap.size, 2, none⟩ = some (.string d))) (by kernel_rfl) ?_ (fun hHeld => ?_)
 ·exact ⟨cel3_0 k0, cel3_1 k0, cel3_2 k0⟩
 refine wpAnyH_take (i := 0) (oi := _) (v := ?_) rfl (by kernel_rfl) (by kernel_rfl) (by kernel_rfl) (fun _ _ _ h => h) (Or.inl ⟨by rfl, ?_⟩) (by assumption) ?_
 rotate_left
 ·(intro w hSw; (try dsimp only at hSw); go_simp; try with_reducible rfl)
 try simp only [Act.put, List.getElem_toArray, List.getElem_cons_zero, List.setIfInBounds_toArray, List.set_cons_zero, List.set_cons_succ]
 refine wpAnyH_take (i := 1) (oi := _) (v := ?_) rfl (by kernel_rfl) (by kernel_rfl) (by kernel_rfl) (fun _ _ _ h => h) (Or.inl ⟨by rfl, ?_⟩) (by assumption) ?_
 rotate_left
 ·(intro w hSw; (try dsimp only at hSw); go_simp; try with_reducible rfl)
 try simp only [Act.put, List.getElem_toArray, List.getElem_cons_succ, List.getElem_cons_zero, List.setIfInBounds_toArray, List.set_cons_zero, List.set_cons_succ]
 refine wpAnyH_take (i := 2) (oi := _) (v := ?_) rfl (by kernel_rfl) (by kernel_rfl) (by kernel_rfl) (fun _ _ _ h => h) (Or.inl ⟨by rfl, ?_⟩) (by assumption) ?_
 rotate_left
 ·(intro w hSw; (try dsimp only at hSw); go_simp; try with_reducible rfl)
 try simp only [Act.put, List.getElem_toArray, List.getElem_cons_succ, List.getElem_cons_zero, List.setIfInBounds_toArray, List.set_cons_zero, List.set_cons_succ]
 refine wpAnyH_take (i := 3) (oi := _) (v := ?_) rfl (by kernel_rfl) (by kernel_rfl) (by kernel_rfl) (fun _ _ _ h => h) (Or.inl ⟨by rfl, ?_⟩) (by assumption) ?_
 rotate_left
 ·(intro w hSw; (try dsimp only at hSw); go_simp; try with_reducible rfl)
 try simp only [Act.put, List.getElem_toArray, List.getElem_cons_succ, List.getElem_cons_zero, List.setIfInBounds_toArray, List.set_cons_zero, List.set_cons_succ]
 refine wpAnyH_take (i := 4) (oi := _) (v := ?_) rfl (by kernel_rfl) (by kernel_rfl) (by kernel_rfl) (fun _ _ _ h => h) (Or.inl ⟨by rfl, ?_⟩) (by assumption) ?_
 rotate_left
 ·(intro w hSw; (try dsimp only at hSw); go_simp; try with_reducible rfl)
 try simp only [Act.put, List.getElem_toArray, List.getElem_cons_succ, List.getElem_cons_zero, List.setIfInBounds_toArray, List.set_cons_zero, List.set_cons_succ]
 refine wpAnyH_take (i := 5) (oi := _) (v := ?_) rfl (by kernel_rfl) (by kernel_rfl) (by kernel_rfl) (fun _ _ _ h => h) (Or.inl ⟨by rfl, ?_⟩) (by assumption) ?_
 rotate_left
 ·(intro w hSw; (try dsimp only at hSw); go_simp; try with_reducible rfl)
 try simp only [Act.put, List.getElem_toArray, List.getElem_cons_succ, List.getElem_cons_zero, List.setIfInBounds_toArray, List.set_cons_zero, List.set_cons_succ]
 refine wpAnyH_take (i := 6) (oi := _) (v := ?_) rfl (by kernel_rfl) (by kernel_rfl) (by kernel_rfl) (fun _ _ _ h => h) (Or.inl ⟨by rfl, ?_⟩) (by assumption) ?_
 rotate_left
 ·(intro w hSw; (try dsimp only at hSw); go_simp; try with_reducible rfl)
 try simp only [Act.put, List.getElem_toArray, List.getElem_cons_succ, List.getElem_cons_zero, List.setIfInBounds_toArray, List.set_cons_zero, List.set_cons_succ]
 refine wpAnyH_take (i := 7) (oi := _) (v := ?_) rfl (by kernel_rfl) (by kernel_rfl) (by kernel_rfl) (fun _ _ _ h => h) (Or.inl ⟨by rfl, ?_⟩) (by assumption) ?_
 rotate_left
 ·(intro w hSw; (try dsimp only at hSw); go_simp; try with_reducible rfl)
 try simp only [Act.put, List.getElem_toArray, List.getElem_cons_succ, List.getElem_cons_zero, List.setIfInBounds_toArray, List.set_cons_zero, List.set_cons_succ]
 refine wpAnyH_take (i := 8) (oi := _) (v := ?_) rfl (by kernel_rfl) (by kernel_rfl) (by kernel_rfl) (fun _ _ _ h => h) (Or.inl ⟨by rfl, ?_⟩) (by assumption) ?_
 rotate_left
 ·(intro w hSw; (try dsimp only at hSw); go_simp; try with_reducible rfl)
 try simp only [Act.put, List.getElem_toArray, List.getElem_cons_succ, List.getElem_cons_zero, List.setIfInBounds_toArray, List.set_cons_zero, List.set_cons_succ]
 refine wpAnyH_take (i := 9) (oi := _) (v := ?_) rfl (by kernel_rfl) (by kernel_rfl) (by kernel_rfl) (fun _ _ _ h => h) (Or.inl ⟨by rfl, ?_⟩) (by assumption) ?_
 rotate_left
 ·(intro w hSw; (try dsimp only at hSw); go_simp; try with_reducible rfl)
 try simp only [Act.put, List.getElem_toArray, List.getElem_cons_succ, List.getElem_cons_zero, List.setIfInBounds_toArray, List.set_cons_zero, List.set_cons_succ]
 refine wpAnyH_take (i := 10) (oi := _) (v := ?_) rfl (by kernel_rfl) (by kernel_rfl) (by kernel_rfl) (fun _ _ _ h => h) (Or.inl ⟨by rfl, ?_⟩) (by assumption) ?_
 rotate_left
 ·(intro w hSw; (try dsimp only at hSw); go_simp; try with_reducible rfl)
 try simp only [Act.put, List.getElem_toArray, List.getElem_cons_succ, List.getElem_cons_zero, List.setIfInBounds_toArray, List.set_cons_zero, List.set_cons_succ]
 refine wpAnyH_take (i := 11) (oi := _) (v := ?_) rfl (by kernel_rfl) (by kernel_rfl) (by kernel_rfl) (fun _ _ _ h => h) (Or.inl ⟨by rfl, ?_⟩) (by assumption) ?_
 rotate_left
 ·(intro w hSw; (try dsimp only at hSw); go_simp; try with_reducible rfl)
 try simp only [Act.put, List.getElem_toArray, List.getElem_cons_succ, List.getElem_cons_zero, List.setIfInBounds_toArray, List.set_cons_zero, List.set_cons_succ]
 refine wpAnyH_take (i := 12) (oi := _) (v := ?_) rfl (by kernel_rfl) (by kernel_rfl) (by kernel_rfl) (fun _ _ _ h => h) (Or.inl ⟨by rfl, ?_⟩) (by assumption) ?_
 rotate_left
 ·(intro w hSw; (try dsimp only at hSw); go_simp; try with_reducible rfl)
 try simp only [Act.put, List.getElem_toArray, List.getElem_cons_succ, List.getElem_cons_zero, List.setIfInBounds_toArray, List.set_cons_zero, List.set_cons_succ]
 refine wpAnyH_ready (rs := [13]) (by kernel_rfl) (by simp) ?_
 refine AllReadyH.cons (o := _) rfl (fun K hK => ?_) AllReadyH.nil
 go_simp
 go_fit (den_any _ _ _ _)
 rintro e wn ⟨rfl, bn⟩
 replace k0 := k0.below ⟨bn.os, bn.tape, bn.output, bn.size, bn.block⟩
 replace bb := Below.after bb ⟨bn.os, bn.tape, bn.output, bn.size, bn.block⟩
 clear bn
 try go_wp2_with fail
 refine hK.out _ _ ?_ (fun hHeld => ?_)
 ·exact ⟨cel3_0 k0, cel3_1 k0, cel3_2 k0⟩
 clear hK K
 try simp only [Act.put, List.getElem_toArray, List.getElem_cons_succ, List.getElem_cons_zero, List.setIfInBounds_toArray, List.set_cons_zero, List.set_cons_succ]
 refine wpAnyH_ready (rs := [14]) (by kernel_rfl) (by simp) ?_
 refine AllReadyH.cons (o := _) rfl (fun K hK => ?_) AllReadyH.nil
 go_simp
 go_fit (HV.out _ ?_)
 ·first | exact bb | exact bb.drew
 rintro e wn ⟨rfl, bn⟩
 replace k0 := k0.below ⟨bn.os, bn.tape, bn.output, bn.size, bn.block⟩
 replace bb := Below.after bb ⟨bn.os, bn.tape, bn.output, bn.size, bn.block⟩
 clear bn
 try go_wp2_with fail
 refine hK.out _ _ ?_ (fun hHeld => ?_)
 ·exact ⟨cel3_0 k0, cel3_1 k0, cel3_2 k0⟩
 clear hK K
 try simp only [Act.put, List.getElem_toArray, List.getElem_cons_succ, List.getElem_cons_zero, List.setIfInBounds_toArray, List.set_cons_zero, List.set_cons_succ]
 refine wpAnyH_take (i := 15) (oi := _) (v := ?_) rfl (by kernel_rfl) (by kernel_rfl) (by kernel_rfl) (fun _ _ _ h => h) (Or.inl ⟨by rfl, ?_⟩) (by assumption) ?_
 rotate_left
 ·(intro w hSw; (try dsimp only at hSw); go_simp; try with_reducible rfl)
 try simp only [Act.put, List.getElem_toArray, List.getElem_cons_succ, List.getElem_cons_zero, List.setIfInBounds_toArray, List.set_cons_zero, List.set_cons_succ]
 refine wpAnyH_take (i := 16) (oi := _) (v := ?_) rfl (by kernel_rfl) (by kernel_rfl) (by kernel_rfl) (fun _ _ _ h => h) (Or.inl ⟨by rfl, ?_⟩) (by assumption) ?_
 rotate_left
 ·(intro w hSw; (try dsimp only at hSw); go_simp; try with_reducible rfl)
 try simp only [Act.put, List.getElem_toArray, List.getElem_cons_succ, List.getElem_cons_zero, List.setIfInBounds_toArray, List.set_cons_zero, List.set_cons_succ]
 refine wpAnyH_take (i := 17) (oi := _) (v := ?_) rfl (by kernel_rfl) (by kernel_rfl) (by kernel_rfl) (fun _ _ _ h => h) (Or.inl ⟨by rfl, ?_⟩) (by assumption) ?_
 rotate_left
 ·(intro w hSw; (try dsimp only at hSw); go_simp; try with_reducible rfl)
 try simp only [Act.put, List.getElem_toArray, List.getElem_cons_succ, List.getElem_cons_zero, List.setIfInBounds_toArray, List.set_cons_zero, List.set_cons_succ]
 refine wpAnyH_done (by kernel_rfl) ?_ _
 go_wp2
 go_ret
 exact ⟨rfl, bb⟩
set_option maxRecDepth 100000 in
set_option maxHeartbeats 4000000 in
theorem rchk_gcd (n zn : Bool) (s d zs : ByteArray) (w : World) (hd : 0 < d.size) (hd0 : ¬ lm (byts d) 0 = 0)
  (HL : Hid (∀ (B : Nat) (w : World) (_ : Cel w B [.string s, .string d] 22), Calls Tryz.prog 115 #[.slice (some ⟨B, 0, none⟩) 2 2] w fun e w' => e = .returned (.bool false) ∧ Below w.heap.size w w'))
  (HC : Hid (∀ w1, Calls Tryz.prog 116 #[.agg #[.bool n, .string s]] w1 fun e w' => e = .returned (.int .i64 0) ∧ Below w1.heap.size w1 w'))
  (HV : Hid (∀ w1, Below w.heap.size w w1 → Calls Tryz.prog 117 #[.agg #[.bool n, .string s], .agg #[.bool false, .string d]] w1 fun e w' => e = .returned (.agg #[.bool zn, .string zs]) ∧ Below w1.heap.size w1 w'))
  (hz : (zs.toList == [1]) = false) :
  Calls Tryz.prog 132 #[.agg #[.bool n, .string s, .string d]] w fun e w' => e = .returned (.int .i64 1) ∧ Below w.heap.size w w' := by
 have g1 : ¬ ((d[0]).toNat : Int) = 0 := by rw [byts_at d 0 hd]; omega
 have g2 : ¬ d[0] = 0 := fun h => g1 (by rw [h]; rfl)
 have g4 := toList_ne hd
 have g5 : d.toList.isEmpty = false := by simpa using g4
 have g6 : (0 : Int) < d.size := by omega
 clear hd0
 have g7 : (((d[0]).toNat : Int) == 0) = false := by simpa using g1
 have gf := fld1 zn zs
 go_enter Tryz.func132, Tryz.ntmps132
 go_wp2_with fail
 obtain ⟨w0, hw, k0, k1, bb⟩ := mk2 w [.bool n, .string s, .string d] [.string s, .string d] 26 22
 rw [← hw]
 clear hw
 go_fit (HL.out _ w0 k1)
 rintro e w1 ⟨rfl, b1⟩
 replace k0 := k0.below b1
 replace bb := Below.after bb b1
 clear b1 k1
 have c0 := cel3_0 k0
 have c1 := cel3_1 k0
 have c2 := cel3_2 k0
 go_wp2_with fail
 go_fit (HC.out _)
 rintro e w2 ⟨rfl, b1⟩
 replace k0 := k0.below b1
 replace bb := Below.after bb b1
 clear b1 c0 c1 c2
 go_wp2
 refine wp_region_held_drew (S := (fun w' => w'.cell? ⟨w.heap.size, 0, none⟩ = some (.bool n) ∧ w'.cell? ⟨w.heap.size, 1, none⟩ = some (.string s) ∧ w'.cell? ⟨w.heap.size, 2, none⟩ = some (.string d))) (by kernel_rfl) ?_ (fun hHeld => ?_)
 ·exact ⟨cel3_0 k0, cel3_1 k0, cel3_2 k0⟩
 refine wpAnyH_take (i := 0) (oi := _) (v := ?_) rfl (by kernel_rfl) (by kernel_rfl) (by kernel_rfl) (fun _ _ _ h => h) (Or.inl ⟨by rfl, ?_⟩) (by assumption) ?_
 rotate_left
 ·(intro w hSw; (try dsimp only at hSw); go_simp; try with_reducible rfl)
 try simp only [Act.put, List.getElem_toArray, List.getElem_cons_zero, List.setIfInBounds_toArray, List.set_cons_zero, List.set_cons_succ]
 refine wpAnyH_take (i := 1) (oi := _) (v := ?_) rfl (by kernel_rfl) (by kernel_rfl) (by kernel_rfl) (fun _ _ _ h => h) (Or.inl ⟨by rfl, ?_⟩) (by assumption) ?_
 rotate_left
 ·(intro w hSw; (try dsimp only at hSw); go_simp; try with_reducible rfl)
 try simp only [Act.put, List.getElem_toArray, List.getElem_cons_succ, List.getElem_cons_zero, List.setIfInBounds_toArray, List.set_cons_zero, List.set_cons_succ]
 refine wpAnyH_take (i := 2) (oi := _) (v := ?_) rfl (by kernel_rfl) (by kernel_rfl) (by kernel_rfl) (fun _ _ _ h => h) (Or.inl ⟨by rfl, ?_⟩) (by assumption) ?_
 rotate_left
 ·(intro w hSw; (try dsimp only at hSw); go_simp; try with_reducible rfl)
 try simp only [Act.put, List.getElem_toArray, List.getElem_cons_succ, List.getElem_cons_zero, List.setIfInBounds_toArray, List.set_cons_zero, List.set_cons_succ]
 refine wpAnyH_take (i := 3) (oi := _) (v := ?_) rfl (by kernel_rfl) (by kernel_rfl) (by kernel_rfl) (fun _ _ _ h => h) (Or.inl ⟨by rfl, ?_⟩) (by assumption) ?_
 rotate_left
 ·(intro w hSw; (try dsimp only at hSw); go_simp; try with_reducible rfl)
 try simp only [Act.put, List.getElem_toArray, List.getElem_cons_succ, List.getElem_cons_zero, List.setIfInBounds_toArray, List.set_cons_zero, List.set_cons_succ]
 refine wpAnyH_take (i := 4) (oi := _) (v := ?_) rfl (by kernel_rfl) (by kernel_rfl) (by kernel_rfl) (fun _ _ _ h => h) (Or.inl ⟨by rfl, ?_⟩) (by assumption) ?_
 rotate_left
 ·(intro w hSw; (try dsimp only at hSw); go_simp; try with_reducible rfl)
 try simp only [Act.put, List.getElem_toArray, List.getElem_cons_succ, List.getElem_cons_zero, List.setIfInBounds_toArray, List.set_cons_zero, List.set_cons_succ]
 refine wpAnyH_take (i := 5) (oi := _) (v := ?_) rfl (by kernel_rfl) (by kernel_rfl) (by kernel_rfl) (fun _ _ _ h => h) (Or.inl ⟨by rfl, ?_⟩) (by assumption) ?_
 rotate_left
 ·(intro w hSw; (try dsimp only at hSw); go_simp; try with_reducible rfl)
 try simp only [Act.put, List.getElem_toArray, List.getElem_cons_succ, List.getElem_cons_zero, List.setIfInBounds_toArray, List.set_cons_zero, List.set_cons_succ]
 refine wpAnyH_take (i := 6) (oi := _) (v := ?_) rfl (by kernel_rfl) (by kernel_rfl) (by kernel_rfl) (fun _ _ _ h => h) (Or.inl ⟨by rfl, ?_⟩) (by assumption) ?_
 rotate_left
 ·(intro w hSw; (try dsimp only at hSw); go_simp; try with_reducible rfl)
 try simp only [Act.put, List.getElem_toArray, List.getElem_cons_succ, List.getElem_cons_zero, List.setIfInBounds_toArray, List.set_cons_zero, List.set_cons_succ]
 refine wpAnyH_take (i := 7) (oi := _) (v := ?_) rfl (by kernel_rfl) (by kernel_rfl) (by kernel_rfl) (fun _ _ _ h => h) (Or.inl ⟨by rfl, ?_⟩) (by assumption) ?_
 rotate_left
 ·(intro w hSw; (try dsimp only at hSw); go_simp; try with_reducible rfl)
 try simp only [Act.put, List.getElem_toArray, List.getElem_cons_succ, List.getElem_cons_zero, List.setIfInBounds_toArray, List.set_cons_zero, List.set_cons_succ]
 refine wpAnyH_take (i := 8) (oi := _) (v := ?_) rfl (by kernel_rfl) (by kernel_rfl) (by kernel_rfl) (fun _ _ _ h => h) (Or.inl ⟨by rfl, ?_⟩) (by assumption) ?_
 rotate_left
 ·(intro w hSw; (try dsimp only at hSw); go_simp; try with_reducible rfl)
 try simp only [Act.put, List.getElem_toArray, List.getElem_cons_succ, List.getElem_cons_zero, List.setIfInBounds_toArray, List.set_cons_zero, List.set_cons_succ]
 refine wpAnyH_take (i := 9) (oi := _) (v := ?_) rfl (by kernel_rfl) (by kernel_rfl) (by kernel_rfl) (fun _ _ _ h => h) (Or.inl ⟨by rfl, ?_⟩) (by assumption) ?_
 rotate_left
 ·(intro w hSw; (try dsimp only at hSw); go_simp; try with_reducible rfl)
 try simp only [Act.put, List.getElem_toArray, List.getElem_cons_succ, List.getElem_cons_zero, List.setIfInBounds_toArray, List.set_cons_zero, List.set_cons_succ]
 refine wpAnyH_take (i := 10) (oi := _) (v := ?_) rfl (by kernel_rfl) (by kernel_rfl) (by kernel_rfl) (fun _ _ _ h => h) (Or.inl ⟨by rfl, ?_⟩) (by assumption) ?_
 rotate_left
 ·(intro w hSw; (try dsimp only at hSw); go_simp; try with_reducible rfl)
 try simp only [Act.put, List.getElem_toArray, List.getElem_cons_succ, List.getElem_cons_zero, List.setIfInBounds_toArray, List.set_cons_zero, List.set_cons_succ]
 refine wpAnyH_take (i := 11) (oi := _) (v := ?_) rfl (by kernel_rfl) (by kernel_rfl) (by kernel_rfl) (fun _ _ _ h => h) (Or.inl ⟨by rfl, ?_⟩) (by assumption) ?_
 rotate_left
 ·(intro w hSw; (try dsimp only at hSw); go_simp; try with_reducible rfl)
 try simp only [Act.put, List.getElem_toArray, List.getElem_cons_succ, List.getElem_cons_zero, List.setIfInBounds_toArray, List.set_cons_zero, List.set_cons_succ]
 refine wpAnyH_take (i := 12) (oi := _) (v := ?_) rfl (by kernel_rfl) (by kernel_rfl) (by kernel_rfl) (fun _ _ _ h => h) (Or.inl ⟨by rfl, ?_⟩) (by assumption) ?_
 rotate_left
 ·(intro w hSw; (try dsimp only at hSw); go_simp; try with_reducible rfl)
 try simp only [Act.put, List.getElem_toArray, List.getElem_cons_succ, List.getElem_cons_zero, List.setIfInBounds_toArray, List.set_cons_zero, List.set_cons_succ]
 refine wpAnyH_ready (rs := [13]) (by kernel_rfl) (by simp) ?_
 refine AllReadyH.cons (o := _) rfl (fun K hK => ?_) AllReadyH.nil
 go_simp
 go_fit (den_any _ _ _ _)
 rintro e wn ⟨rfl, bn⟩
 replace k0 := k0.below ⟨bn.os, bn.tape, bn.output, bn.size, bn.block⟩
 replace bb := Below.after bb ⟨bn.os, bn.tape, bn.output, bn.size, bn.block⟩
 clear bn
 try go_wp2_with fail
 refine hK.out _ _ ?_ (fun hHeld => ?_)
 ·exact ⟨cel3_0 k0, cel3_1 k0, cel3_2 k0⟩
 clear hK K
 try simp only [Act.put, List.getElem_toArray, List.getElem_cons_succ, List.getElem_cons_zero, List.setIfInBounds_toArray, List.set_cons_zero, List.set_cons_succ]
 refine wpAnyH_ready (rs := [14]) (by kernel_rfl) (by simp) ?_
 refine AllReadyH.cons (o := _) rfl (fun K hK => ?_) AllReadyH.nil
 go_simp
 go_fit (HV.out _ ?_)
 ·first | exact bb | exact bb.drew
 rintro e wn ⟨rfl, bn⟩
 replace k0 := k0.below ⟨bn.os, bn.tape, bn.output, bn.size, bn.block⟩
 replace bb := Below.after bb ⟨bn.os, bn.tape, bn.output, bn.size, bn.block⟩
 clear bn
 try go_wp2_with fail
 refine hK.out _ _ ?_ (fun hHeld => ?_)
 ·exact ⟨cel3_0 k0, cel3_1 k0, cel3_2 k0⟩
 clear hK K
 try simp only [Act.put, List.getElem_toArray, List.getElem_cons_succ, List.getElem_cons_zero, List.setIfInBounds_toArray, List.set_cons_zero, List.set_cons_succ]
 refine wpAnyH_take (i := 15) (oi := _) (v := ?_) rfl (by kernel_rfl) (by kernel_rfl) (by kernel_rfl) (fun _ _ _ h => h) (Or.inl ⟨by rfl, ?_⟩) (by assumption) ?_
 rotate_left
 ·(intro w hSw; (try dsimp only at hSw); go_simp; try with_reducible rfl)
 try simp only [Act.put, List.getElem_toArray, List.getElem_cons_succ, List.getElem_cons_zero, List.setIfInBounds_toArray, List.set_cons_zero, List.set_cons_succ]
 refine wpAnyH_take (i := 16) (oi := _) (v := ?_) rfl (by kernel_rfl) (by kernel_rfl) (by kernel_rfl) (fun _ _ _ h => h) (Or.inl ⟨by rfl, ?_⟩) (by assumption) ?_
 rotate_left
 ·(intro w hSw; (try dsimp only at hSw); go_simp; try with_reducible rfl)
 try simp only [Act.put, List.getElem_toArray, List.getElem_cons_succ, List.getElem_cons_zero, List.setIfInBounds_toArray, List.set_cons_zero, List.set_cons_succ]
 refine wpAnyH_take (i := 17) (oi := _) (v := ?_) rfl (by kernel_rfl) (by kernel_rfl) (by kernel_rfl) (fun _ _ _ h => h) (Or.inl ⟨by rfl, ?_⟩) (by assumption) ?_
 rotate_left
 ·(intro w hSw; (try dsimp only at hSw); go_simp; try with_reducible rfl)
 try simp only [Act.put, List.getElem_toArray, List.getElem_cons_succ, List.getElem_cons_zero, List.setIfInBounds_toArray, List.set_cons_zero, List.set_cons_succ]
 refine wpAnyH_done (by kernel_rfl) ?_ _
 go_wp2
 go_ret
 exact ⟨rfl, bb⟩
set_option maxRecDepth 100000 in
set_option maxHeartbeats 4000000 in
theorem rchk_empty (n : Bool) (s : ByteArray) (w : World)
  (HL : Hid (∀ (B : Nat) (w : World) (_ : Cel w B [.string s, .string ByteArray.empty] 22), Calls Tryz.prog 115 #[.slice (some ⟨B, 0, none⟩) 2 2] w fun e w' => e = .returned (.bool false) ∧ Below w.heap.size w w'))
  (HC : Hid (∀ w1, Calls Tryz.prog 116 #[.agg #[.bool n, .string s]] w1 fun e w' => e = .returned (.int .i64 0) ∧ Below w1.heap.size w1 w')) :
  Calls Tryz.prog 132 #[.agg #[.bool n, .string s, .string ByteArray.empty]] w fun e w' => e = .returned (.int .i64 1) ∧ Below w.heap.size w w' := by
 go_enter Tryz.func132, Tryz.ntmps132
 go_wp2_with fail
 obtain ⟨w0, hw, k0, k1, bb⟩ := mk2 w [.bool n, .string s, .string ByteArray.empty] [.string s, .string ByteArray.empty] 26 22
 rw [← hw]
 clear hw
 go_fit (HL.out _ w0 k1)
 rintro e w1 ⟨rfl, b1⟩
 replace k0 := k0.below b1
 replace bb := Below.after bb b1
 clear b1 k1
 have c0 := cel3_0 k0
 have c1 := cel3_1 k0
 have c2 := cel3_2 k0
 go_wp2_with fail
 go_fit (HC.out _)
 rintro e w2 ⟨rfl, b1⟩
 replace k0 := k0.below b1
 replace bb := Below.after bb b1
 clear b1 c0 c1 c2
 go_wp2
 refine wp_region_held_drew (S := (fun w' => w'.cell? ⟨w.heap.size, 0, none⟩ = some (.bool n) ∧ w'.cell? ⟨w.heap.size, 1, none⟩ = some (.string s) ∧ w'.cell? ⟨w.heap.size, 2, none⟩ = some (.string ByteArray.empty))) (by kernel_rfl) ?_ (fun hHeld => ?_)
 ·exact ⟨cel3_0 k0, cel3_1 k0, cel3_2 k0⟩
 refine wpAnyH_take (i := 0) (oi := _) (v := ?_) rfl (by kernel_rfl) (by kernel_rfl) (by kernel_rfl) (fun _ _ _ h => h) (Or.inl ⟨by rfl, ?_⟩) (by assumption) ?_
 rotate_left
 ·(intro w hSw; (try dsimp only at hSw); go_simp; try with_reducible rfl)
 try simp only [Act.put, List.getElem_toArray, List.getElem_cons_zero, List.setIfInBounds_toArray, List.set_cons_zero, List.set_cons_succ]
 refine wpAnyH_take (i := 1) (oi := _) (v := ?_) rfl (by kernel_rfl) (by kernel_rfl) (by kernel_rfl) (fun _ _ _ h => h) (Or.inl ⟨by rfl, ?_⟩) (by assumption) ?_
 rotate_left
 ·(intro w hSw; (try dsimp only at hSw); go_simp; try with_reducible rfl)
 try simp only [Act.put, List.getElem_toArray, List.getElem_cons_succ, List.getElem_cons_zero, List.setIfInBounds_toArray, List.set_cons_zero, List.set_cons_succ]
 refine wpAnyH_take (i := 2) (oi := _) (v := ?_) rfl (by kernel_rfl) (by kernel_rfl) (by kernel_rfl) (fun _ _ _ h => h) (Or.inl ⟨by rfl, ?_⟩) (by assumption) ?_
 rotate_left
 ·(intro w hSw; (try dsimp only at hSw); go_simp; try with_reducible rfl)
 try simp only [Act.put, List.getElem_toArray, List.getElem_cons_succ, List.getElem_cons_zero, List.setIfInBounds_toArray, List.set_cons_zero, List.set_cons_succ]
 refine wpAnyH_take (i := 3) (oi := _) (v := ?_) rfl (by kernel_rfl) (by kernel_rfl) (by kernel_rfl) (fun _ _ _ h => h) (Or.inl ⟨by rfl, ?_⟩) (by assumption) ?_
 rotate_left
 ·(intro w hSw; (try dsimp only at hSw); go_simp; try with_reducible rfl)
 try simp only [Act.put, List.getElem_toArray, List.getElem_cons_succ, List.getElem_cons_zero, List.setIfInBounds_toArray, List.set_cons_zero, List.set_cons_succ]
 refine wpAnyH_take (i := 4) (oi := _) (v := _) rfl (by kernel_rfl) (by kernel_rfl) (by kernel_rfl) (fun _ _ _ h => h) (Or.inr ⟨by rfl, rfl⟩) (by assumption) ?_
 try simp only [Act.put, List.getElem_toArray, List.getElem_cons_succ, List.getElem_cons_zero, List.setIfInBounds_toArray, List.set_cons_zero, List.set_cons_succ]
 refine wpAnyH_take (i := 5) (oi := _) (v := _) rfl (by kernel_rfl) (by kernel_rfl) (by kernel_rfl) (fun _ _ _ h => h) (Or.inr ⟨by rfl, rfl⟩) (by assumption) ?_
 try simp only [Act.put, List.getElem_toArray, List.getElem_cons_succ, List.getElem_cons_zero, List.setIfInBounds_toArray, List.set_cons_zero, List.set_cons_succ]
 refine wpAnyH_take (i := 6) (oi := _) (v := _) rfl (by kernel_rfl) (by kernel_rfl) (by kernel_rfl) (fun _ _ _ h => h) (Or.inr ⟨by rfl, rfl⟩) (by assumption) ?_
 try simp only [Act.put, List.getElem_toArray, List.getElem_cons_succ, List.getElem_cons_zero, List.setIfInBounds_toArray, List.set_cons_zero, List.set_cons_succ]
 refine wpAnyH_take (i := 7) (oi := _) (v := _) rfl (by kernel_rfl) (by kernel_rfl) (by kernel_rfl) (fun _ _ _ h => h) (Or.inr ⟨by rfl, rfl⟩) (by assumption) ?_
 try simp only [Act.put, List.getElem_toArray, List.getElem_cons_succ, List.getElem_cons_zero, List.setIfInBounds_toArray, List.set_cons_zero, List.set_cons_succ]
 refine wpAnyH_take (i := 8) (oi := _) (v := ?_) rfl (by kernel_rfl) (by kernel_rfl) (by kernel_rfl) (fun _ _ _ h => h) (Or.inl ⟨by rfl, ?_⟩) (by assumption) ?_
 rotate_left
 ·(intro w hSw; (try dsimp only at hSw); go_simp; try with_reducible rfl)
 try simp only [Act.put, List.getElem_toArray, List.getElem_cons_succ, List.getElem_cons_zero, List.setIfInBounds_toArray, List.set_cons_zero, List.set_cons_succ]
 refine wpAnyH_take (i := 9) (oi := _) (v := ?_) rfl (by kernel_rfl) (by kernel_rfl) (by kernel_rfl) (fun _ _ _ h => h) (Or.inl ⟨by rfl, ?_⟩) (by assumption) ?_
 rotate_left
 ·(intro w hSw; (try dsimp only at hSw); go_simp; try with_reducible rfl)
 try simp only [Act.put, List.getElem_toArray, List.getElem_cons_succ, List.getElem_cons_zero, List.setIfInBounds_toArray, List.set_cons_zero, List.set_cons_succ]
 refine wpAnyH_take (i := 10) (oi := _) (v := _) rfl (by kernel_rfl) (by kernel_rfl) (by kernel_rfl) (fun _ _ _ h => h) (Or.inr ⟨by rfl, rfl⟩) (by assumption) ?_
 try simp only [Act.put, List.getElem_toArray, List.getElem_cons_succ, List.getElem_cons_zero, List.setIfInBounds_toArray, List.set_cons_zero, List.set_cons_succ]
 refine wpAnyH_take (i := 11) (oi := _) (v := _) rfl (by kernel_rfl) (by kernel_rfl) (by kernel_rfl) (fun _ _ _ h => h) (Or.inr ⟨by rfl, rfl⟩) (by assumption) ?_
 try simp only [Act.put, List.getElem_toArray, List.getElem_cons_succ, List.getElem_cons_zero, List.setIfInBounds_toArray, List.set_cons_zero, List.set_cons_succ]
 refine wpAnyH_take (i := 12) (oi := _) (v := _) rfl (by kernel_rfl) (by kernel_rfl) (by kernel_rfl) (fun _ _ _ h => h) (Or.inr ⟨by rfl, rfl⟩) (by assumption) ?_
 try simp only [Act.put, List.getElem_toArray, List.getElem_cons_succ, List.getElem_cons_zero, List.setIfInBounds_toArray, List.set_cons_zero, List.set_cons_succ]
 refine wpAnyH_take (i := 13) (oi := _) (v := _) rfl (by kernel_rfl) (by kernel_rfl) (by kernel_rfl) (fun _ _ _ h => h) (Or.inr ⟨by rfl, rfl⟩) (by assumption) ?_
 try simp only [Act.put, List.getElem_toArray, List.getElem_cons_succ, List.getElem_cons_zero, List.setIfInBounds_toArray, List.set_cons_zero, List.set_cons_succ]
 refine wpAnyH_take (i := 14) (oi := _) (v := _) rfl (by kernel_rfl) (by kernel_rfl) (by kernel_rfl) (fun _ _ _ h => h) (Or.inr ⟨by rfl, rfl⟩) (by assumption) ?_
 try simp only [Act.put, List.getElem_toArray, List.getElem_cons_succ, List.getElem_cons_zero, List.setIfInBounds_toArray, List.set_cons_zero, List.set_cons_succ]
 refine wpAnyH_take (i := 15) (oi := _) (v := _) rfl (by kernel_rfl) (by kernel_rfl) (by kernel_rfl) (fun _ _ _ h => h) (Or.inr ⟨by rfl, rfl⟩) (by assumption) ?_
 try simp only [Act.put, List.getElem_toArray, List.getElem_cons_succ, List.getElem_cons_zero, List.setIfInBounds_toArray, List.set_cons_zero, List.set_cons_succ]
 refine wpAnyH_take (i := 16) (oi := _) (v := _) rfl (by kernel_rfl) (by kernel_rfl) (by kernel_rfl) (fun _ _ _ h => h) (Or.inr ⟨by rfl, rfl⟩) (by assumption) ?_
 try simp only [Act.put, List.getElem_toArray, List.getElem_cons_succ, List.getElem_cons_zero, List.setIfInBounds_toArray, List.set_cons_zero, List.set_cons_succ]
 refine wpAnyH_take (i := 17) (oi := _) (v := ?_) rfl (by kernel_rfl) (by kernel_rfl) (by kernel_rfl) (fun _ _ _ h => h) (Or.inl ⟨by rfl, ?_⟩) (by assumption) ?_
 rotate_left
 ·(intro w hSw; (try dsimp only at hSw); go_simp; try with_reducible rfl)
 try simp only [Act.put, List.getElem_toArray, List.getElem_cons_succ, List.getElem_cons_zero, List.setIfInBounds_toArray, List.set_cons_zero, List.set_cons_succ]
 refine wpAnyH_done (by kernel_rfl) ?_ _
 go_wp2
 go_ret
 exact ⟨rfl, bb.drew⟩
set_option maxRecDepth 100000 in
set_option maxHeartbeats 4000000 in
theorem rchk_zero (n : Bool) (s d : ByteArray) (w : World) (hd : 0 < d.size) (hd0 : lm (byts d) 0 = 0)
  (HL : Hid (∀ (B : Nat) (w : World) (_ : Cel w B [.string s, .string d] 22), Calls Tryz.prog 115 #[.slice (some ⟨B, 0, none⟩) 2 2] w fun e w' => e = .returned (.bool false) ∧ Below w.heap.size w w'))
  (HC : Hid (∀ w1, Calls Tryz.prog 116 #[.agg #[.bool n, .string s]] w1 fun e w' => e = .returned (.int .i64 0) ∧ Below w1.heap.size w1 w')) :
  Calls Tryz.prog 132 #[.agg #[.bool n, .string s, .string d]] w fun e w' => e = .returned (.int .i64 1) ∧ Below w.heap.size w w' := by
 have g1 : ((d[0]).toNat : Int) = 0 := by rw [byts_at d 0 hd, hd0]; rfl
 have g3 : (d[0]).toNat = 0 := by omega
 have g2 : d[0] = 0 := UInt8.toNat.inj g3
 have g4 := toList_ne hd
 have g5 : d.toList.isEmpty = false := by simpa using g4
 have g6 : (0 : Int) < d.size := by omega
 clear hd0
 have g7 : (((d[0]).toNat : Int) == 0) = true := by simpa using g1
 go_enter Tryz.func132, Tryz.ntmps132
 go_wp2_with fail
 obtain ⟨w0, hw, k0, k1, bb⟩ := mk2 w [.bool n, .string s, .string d] [.string s, .string d] 26 22
 rw [← hw]
 clear hw
 go_fit (HL.out _ w0 k1)
 rintro e w1 ⟨rfl, b1⟩
 replace k0 := k0.below b1
 replace bb := Below.after bb b1
 clear b1 k1
 have c0 := cel3_0 k0
 have c1 := cel3_1 k0
 have c2 := cel3_2 k0
 go_wp2_with fail
 go_fit (HC.out _)
 rintro e w2 ⟨rfl, b1⟩
 replace k0 := k0.below b1
 replace bb := Below.after bb b1
 clear b1 c0 c1 c2
 go_wp2
 refine wp_region_held_drew (S := (fun w' => w'.cell? ⟨w.heap.size, 0, none⟩ = some (.bool n) ∧ w'.cell? ⟨w.heap.size, 1, none⟩ = some (.string s) ∧ w'.cell? ⟨w.heap.size, 2, none⟩ = some (.string d))) (by kernel_rfl) ?_ (fun hHeld => ?_)
 ·exact ⟨cel3_0 k0, cel3_1 k0, cel3_2 k0⟩
 refine wpAnyH_take (i := 0) (oi := _) (v := ?_) rfl (by kernel_rfl) (by kernel_rfl) (by kernel_rfl) (fun _ _ _ h => h) (Or.inl ⟨by rfl, ?_⟩) (by assumption) ?_
 rotate_left
 ·(intro w hSw; (try dsimp only at hSw); go_simp; try with_reducible rfl)
 try simp only [Act.put, List.getElem_toArray, List.getElem_cons_zero, List.setIfInBounds_toArray, List.set_cons_zero, List.set_cons_succ]
 refine wpAnyH_take (i := 1) (oi := _) (v := ?_) rfl (by kernel_rfl) (by kernel_rfl) (by kernel_rfl) (fun _ _ _ h => h) (Or.inl ⟨by rfl, ?_⟩) (by assumption) ?_
 rotate_left
 ·(intro w hSw; (try dsimp only at hSw); go_simp; try with_reducible rfl)
 try simp only [Act.put, List.getElem_toArray, List.getElem_cons_succ, List.getElem_cons_zero, List.setIfInBounds_toArray, List.set_cons_zero, List.set_cons_succ]
 refine wpAnyH_take (i := 2) (oi := _) (v := ?_) rfl (by kernel_rfl) (by kernel_rfl) (by kernel_rfl) (fun _ _ _ h => h) (Or.inl ⟨by rfl, ?_⟩) (by assumption) ?_
 rotate_left
 ·(intro w hSw; (try dsimp only at hSw); go_simp; try with_reducible rfl)
 try simp only [Act.put, List.getElem_toArray, List.getElem_cons_succ, List.getElem_cons_zero, List.setIfInBounds_toArray, List.set_cons_zero, List.set_cons_succ]
 refine wpAnyH_take (i := 3) (oi := _) (v := ?_) rfl (by kernel_rfl) (by kernel_rfl) (by kernel_rfl) (fun _ _ _ h => h) (Or.inl ⟨by rfl, ?_⟩) (by assumption) ?_
 rotate_left
 ·(intro w hSw; (try dsimp only at hSw); go_simp; try with_reducible rfl)
 try simp only [Act.put, List.getElem_toArray, List.getElem_cons_succ, List.getElem_cons_zero, List.setIfInBounds_toArray, List.set_cons_zero, List.set_cons_succ]
 refine wpAnyH_take (i := 4) (oi := _) (v := ?_) rfl (by kernel_rfl) (by kernel_rfl) (by kernel_rfl) (fun _ _ _ h => h) (Or.inl ⟨by rfl, ?_⟩) (by assumption) ?_
 rotate_left
 ·(intro w hSw; (try dsimp only at hSw); go_simp; try with_reducible rfl)
 try simp only [Act.put, List.getElem_toArray, List.getElem_cons_succ, List.getElem_cons_zero, List.setIfInBounds_toArray, List.set_cons_zero, List.set_cons_succ]
 refine wpAnyH_take (i := 5) (oi := _) (v := ?_) rfl (by kernel_rfl) (by kernel_rfl) (by kernel_rfl) (fun _ _ _ h => h) (Or.inl ⟨by rfl, ?_⟩) (by assumption) ?_
 rotate_left
 ·(intro w hSw; (try dsimp only at hSw); go_simp; try with_reducible rfl)
 try simp only [Act.put, List.getElem_toArray, List.getElem_cons_succ, List.getElem_cons_zero, List.setIfInBounds_toArray, List.set_cons_zero, List.set_cons_succ]
 refine wpAnyH_take (i := 6) (oi := _) (v := ?_) rfl (by kernel_rfl) (by kernel_rfl) (by kernel_rfl) (fun _ _ _ h => h) (Or.inl ⟨by rfl, ?_⟩) (by assumption) ?_
 rotate_left
 ·(intro w hSw; (try dsimp only at hSw); go_simp; try with_reducible rfl)
 try simp only [Act.put, List.getElem_toArray, List.getElem_cons_succ, List.getElem_cons_zero, List.setIfInBounds_toArray, List.set_cons_zero, List.set_cons_succ]
 refine wpAnyH_take (i := 7) (oi := _) (v := ?_) rfl (by kernel_rfl) (by kernel_rfl) (by kernel_rfl) (fun _ _ _ h => h) (Or.inl ⟨by rfl, ?_⟩) (by assumption) ?_
 rotate_left
 ·(intro w hSw; (try dsimp only at hSw); go_simp; try with_reducible rfl)
 try simp only [Act.put, List.getElem_toArray, List.getElem_cons_succ, List.getElem_cons_zero, List.setIfInBounds_toArray, List.set_cons_zero, List.set_cons_succ]
 refine wpAnyH_take (i := 8) (oi := _) (v := ?_) rfl (by kernel_rfl) (by kernel_rfl) (by kernel_rfl) (fun _ _ _ h => h) (Or.inl ⟨by rfl, ?_⟩) (by assumption) ?_
 rotate_left
 ·(intro w hSw; (try dsimp only at hSw); go_simp; try with_reducible rfl)
 try simp only [Act.put, List.getElem_toArray, List.getElem_cons_succ, List.getElem_cons_zero, List.setIfInBounds_toArray, List.set_cons_zero, List.set_cons_succ]
 refine wpAnyH_take (i := 9) (oi := _) (v := ?_) rfl (by kernel_rfl) (by kernel_rfl) (by kernel_rfl) (fun _ _ _ h => h) (Or.inl ⟨by rfl, ?_⟩) (by assumption) ?_
 rotate_left
 ·(intro w hSw; (try dsimp only at hSw); go_simp; try with_reducible rfl)
 try simp only [Act.put, List.getElem_toArray, List.getElem_cons_succ, List.getElem_cons_zero, List.setIfInBounds_toArray, List.set_cons_zero, List.set_cons_succ]
 refine wpAnyH_take (i := 10) (oi := _) (v := _) rfl (by kernel_rfl) (by kernel_rfl) (by kernel_rfl) (fun _ _ _ h => h) (Or.inr ⟨by rfl, rfl⟩) (by assumption) ?_
 try simp only [Act.put, List.getElem_toArray, List.getElem_cons_succ, List.getElem_cons_zero, List.setIfInBounds_toArray, List.set_cons_zero, List.set_cons_succ]
 refine wpAnyH_take (i := 11) (oi := _) (v := _) rfl (by kernel_rfl) (by kernel_rfl) (by kernel_rfl) (fun _ _ _ h => h) (Or.inr ⟨by rfl, rfl⟩) (by assumption) ?_
 try simp only [Act.put, List.getElem_toArray, List.getElem_cons_succ, List.getElem_cons_zero, List.setIfInBounds_toArray, List.set_cons_zero, List.set_cons_succ]
 refine wpAnyH_take (i := 12) (oi := _) (v := _) rfl (by kernel_rfl) (by kernel_rfl) (by kernel_rfl) (fun _ _ _ h => h) (Or.inr ⟨by rfl, rfl⟩) (by assumption) ?_
 try simp only [Act.put, List.getElem_toArray, List.getElem_cons_succ, List.getElem_cons_zero, List.setIfInBounds_toArray, List.set_cons_zero, List.set_cons_succ]
 refine wpAnyH_take (i := 13) (oi := _) (v := _) rfl (by kernel_rfl) (by kernel_rfl) (by kernel_rfl) (fun _ _ _ h => h) (Or.inr ⟨by rfl, rfl⟩) (by assumption) ?_
 try simp only [Act.put, List.getElem_toArray, List.getElem_cons_succ, List.getElem_cons_zero, List.setIfInBounds_toArray, List.set_cons_zero, List.set_cons_succ]
 refine wpAnyH_take (i := 14) (oi := _) (v := _) rfl (by kernel_rfl) (by kernel_rfl) (by kernel_rfl) (fun _ _ _ h => h) (Or.inr ⟨by rfl, rfl⟩) (by assumption) ?_
 try simp only [Act.put, List.getElem_toArray, List.getElem_cons_succ, List.getElem_cons_zero, List.setIfInBounds_toArray, List.set_cons_zero, List.set_cons_succ]
 refine wpAnyH_take (i := 15) (oi := _) (v := _) rfl (by kernel_rfl) (by kernel_rfl) (by kernel_rfl) (fun _ _ _ h => h) (Or.inr ⟨by rfl, rfl⟩) (by assumption) ?_
 try simp only [Act.put, List.getElem_toArray, List.getElem_cons_succ, List.getElem_cons_zero, List.setIfInBounds_toArray, List.set_cons_zero, List.set_cons_succ]
 refine wpAnyH_take (i := 16) (oi := _) (v := _) rfl (by kernel_rfl) (by kernel_rfl) (by kernel_rfl) (fun _ _ _ h => h) (Or.inr ⟨by rfl, rfl⟩) (by assumption) ?_
 try simp only [Act.put, List.getElem_toArray, List.getElem_cons_succ, List.getElem_cons_zero, List.setIfInBounds_toArray, List.set_cons_zero, List.set_cons_succ]
 refine wpAnyH_take (i := 17) (oi := _) (v := ?_) rfl (by kernel_rfl) (by kernel_rfl) (by kernel_rfl) (fun _ _ _ h => h) (Or.inl ⟨by rfl, ?_⟩) (by assumption) ?_
 rotate_left
 ·(intro w hSw; (try dsimp only at hSw); go_simp; try with_reducible rfl)
 try simp only [Act.put, List.getElem_toArray, List.getElem_cons_succ, List.getElem_cons_zero, List.setIfInBounds_toArray, List.set_cons_zero, List.set_cons_succ]
 refine wpAnyH_done (by kernel_rfl) ?_ _
 go_wp2
 go_ret
 exact ⟨rfl, bb.drew⟩
/-- Check, of any number. -/
theorem rchk_any (n : Bool) (s d : ByteArray) (w : World) (hT : Tab w) :
  Calls Tryz.prog 132 #[.agg #[.bool n, .string s, .string d]] w fun e w' => e = .returned (.int .i64 (chkq n s d : Nat)) ∧ Below w.heap.size w w' := by
 obtain ⟨t, ht, hL⟩ := tooLong_any s d
 by_cases hl : 8000 < s.size ∨ 8000 < d.size
 ·obtain rfl := ht.2 hl
  rw [show chkq n s d = 5 by unfold chkq; rw [if_pos hl]]
  exact rchk_long n s d w (shut hL)
 ·obtain rfl : t = false := by
   cases t with
   | false => rfl
   | true => exact absurd (ht.1 rfl) hl
  have hs : s.size ≤ 8000 := by omega
  have hdl : d.size ≤ 8000 := by omega
  by_cases hc : chk n s = 0
  ·have HC : Hid (∀ w1, Calls Tryz.prog 116 #[.agg #[.bool n, .string s]] w1 fun e w' => e = .returned (.int .i64 0) ∧ Below w1.heap.size w1 w') := by
    intro w1
    have := check_any n s w1
    rw [hc] at this
    exact this
   have o := (chk_ok (by omega)).1 hc
   by_cases hd : 0 < d.size
   ·by_cases h0 : lm (byts d) 0 = 0
    ·rw [show chkq n s d = 1 by unfold chkq; rw [if_neg hl, if_pos (Or.inr (Or.inr (Or.inl h0)))]]
     exact rchk_zero n s d w hd h0 (shut hL) HC
    ·have od : OkS d := fun _ => h0
     have HV : Hid (∀ w1, Below w.heap.size w w1 → Calls Tryz.prog 117 #[.agg #[.bool n, .string s], .agg #[.bool false, .string d]] w1 fun e w' => e = .returned (zI ((Nat.gcd (natOf s) (natOf d) : Nat) : Int)) ∧ Below w1.heap.size w1 w') :=
      fun w1 b => divisor_ok n false s d w1 o ⟨od, fun h => by cases h⟩ (by omega) (by omega) (hT.below b)
     have e : zI ((Nat.gcd (natOf s) (natOf d) : Nat) : Int) = .agg #[.bool false, .string (strOf (Nat.gcd (natOf s) (natOf d)))] := by
      show zV _ _ = _
      rw [Int.natAbs_natCast, show decide ((((Nat.gcd (natOf s) (natOf d) : Nat)) : Int) < 0) = false by simp]
      rfl
     rw [e] at HV
     by_cases hg : Nat.gcd (natOf s) (natOf d) = 1
     ·rw [chkq_ok ⟨o, od, natOf_pos od hd, hg⟩ hs hdl]
      exact rchk_ok n _ s d _ w hd h0 (shut hL) HC HV (eq1 (by rw [hg, strOf_one]))
     ·rw [show chkq n s d = 1 by unfold chkq; rw [if_neg hl, if_pos (Or.inr (Or.inr (Or.inr hg)))]]
      exact rchk_gcd n _ s d _ w hd h0 (shut hL) HC HV (ne1 fun h => hg (by
       have := natOf_strOf (Nat.gcd (natOf s) (natOf d))
       rw [h, natOf_one] at this
       exact this.symm))
   ·have g3 : d = ByteArray.empty := ByteArray.size_eq_zero_iff.1 (by omega)
    subst g3
    rw [show chkq n s ByteArray.empty = 1 by unfold chkq; rw [if_neg hl, if_pos (Or.inr (Or.inl (show ByteArray.empty.size = 0 from rfl)))]]
    exact rchk_empty n s w (shut hL) HC
  ·have h1 : chk n s = 1 := by
    unfold chk at hc ⊢
    rw [if_neg (by omega)] at hc ⊢
    split at hc
    ·rw [if_pos (by assumption)]
    ·exact absurd rfl hc
   have HC : Hid (∀ w1, Calls Tryz.prog 116 #[.agg #[.bool n, .string s]] w1 fun e w' => e = .returned (.int .i64 1) ∧ Below w1.heap.size w1 w') := by
    intro w1
    have := check_any n s w1
    rw [h1] at this
    exact this
   rw [show chkq n s d = 1 by unfold chkq; rw [if_neg hl, if_pos (Or.inl hc)]]
   exact rchk_num n s d w 1 (by omega) (shut hL) HC
end Go.Proofs.YtafikdacdfkkhaaGreatDoor
