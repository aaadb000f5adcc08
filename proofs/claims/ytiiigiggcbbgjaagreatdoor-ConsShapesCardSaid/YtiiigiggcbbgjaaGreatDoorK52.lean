/-
  Package whole: commonDivisor.
-/
import Derived.Test.YtiiigiggcbbgjaaGreatDoorK31
import Derived.Test.YtiiigiggcbbgjaaGreatDoorK32
import Derived.Test.YtiiigiggcbbgjaaGreatDoorK33
import Derived.Test.YtiiigiggcbbgjaaGreatDoorK53
namespace Go.Proofs.YtiiigiggcbbgjaaGreatDoor
open Go.RowKit Go.Shelf
theorem val_zeros (b : Nat) : ∀ n, M.val b (List.replicate n 0) = 0
 | 0 => rfl
 | n + 1 => by rw [List.replicate_succ, M.val_cons, val_zeros b n]; simp
theorem low_zeros (n : Nat) : M.Low B64 (List.replicate n 0) := fun x hx => by rw [List.eq_of_mem_replicate hx]; exact B64_pos
set_option maxRecDepth 100000 in
set_option maxHeartbeats 8000000 in
theorem cdiv_any (g0 g1 X Y m0 m1 : Nat) (w : World) (hm0 : (M.digs B64 X).length = m0) (hm1 : (M.digs B64 Y).length = m1) (k0 : Blk w g0 (M.digs B64 X)) (k1 : Blk w g1 (M.digs B64 Y)) (h0 : m0 ≤ 4000) (h1 : m1 ≤ 4000) (hT : Tab w) :
  Calls Tryz.prog 171 #[.slice (some ⟨g0, 0, none⟩) m0 m0, .slice (some ⟨g1, 0, none⟩) m1 m1] w fun e w' => ∃ v, e = .returned v ∧ Rd w' v (M.digs B64 (Nat.gcd X Y)) ∧ Grew2 g0 g1 w w' := by
 have HC : Hid (Calls Tryz.prog 148 #[.slice (some ⟨g0, 0, none⟩) m0 m0, .slice (some ⟨g1, 0, none⟩) m1 m1] w (Re w (.tuple #[.int .i64 (cmpN X Y), .int .i64 0]))) := by
  have := cmp_any (.slice (some ⟨g0, 0, none⟩) m0 m0) (.slice (some ⟨g1, 0, none⟩) m1 m1) (M.digs B64 X) (M.digs B64 Y) w (by rw [← hm0]; exact k0.rd0 _ (Nat.le_refl _)) (by rw [← hm1]; exact k1.rd0 _ (Nat.le_refl _)) (M.Low.digs B64_two X) (M.Low.digs B64_two Y) (by omega) (by omega)
  rwa [M.val_digs B64_two, M.val_digs B64_two] at this
 by_cases hXY : X < Y
 ·have c1 : cmpN X Y < 0 := by rw [cmpN_lt hXY]; omega
  generalize cmpN X Y = cc at *
  have HM0 := shut hm0
  have HM1 := shut hm1
  have hle : m0 ≤ m1 := by rw [← hm0, ← hm1]; exact digs_mono' (by omega)
  have RY : Hid (∀ w1, Below w.heap.size w w1 → ∀ w2, Below w1.heap.size w1 w2 → Rd w2 (.slice (some ⟨g0, 0, none⟩) m0 m0) (M.digs B64 X)) := by
   intro w1 b1 w2 b2
   rw [← hm0]
   exact ((k0.below b1).below b2).rd0 _ (Nat.le_refl _)
  have FIT : Hid ((M.digs B64 X).length ≤ m1) := by show _ ≤ _; omega
  clear hm0 hm1
  go_enter Tryz.func171, Tryz.ntmps171
  go_wp2_with fail
  refine (HC.out).mono ?_
  rintro e w1 ⟨rfl, b1⟩
  go_wp2_with (first
   | (at_make; refine wpList_mk2 rfl _ _ rfl _ _ 0 m1 rfl rfl (by omega) (by omega) (by omega) (by omega) ?_; intro w2 kn b2)
   | (at_builtin; refine wpList_appB rfl _ _ rfl w1.heap.size m1 (List.replicate m1 0) (M.digs B64 X) rfl kn (by simp) (.slice (some ⟨g0, 0, none⟩) m0 m0) rfl (RY.out w1 b1 w2 b2) FIT.out ?_; intro w3 kn3 o3))
  have IN : Hid (Rows2 g0 g1 (Nat.gcd X Y) w w3 g1 w1.heap.size Y X [] (List.drop (M.digs B64 X).length (List.replicate m1 0))) := by
   have l0 := k1.lt
   have e1 := b1.size
   have hb3 : Below w1.heap.size w1 w3 := ⟨o3.os.trans b2.os, o3.tape.trans b2.tape, o3.output.trans b2.output, by rw [o3.size]; exact b2.size, fun i hi => (o3.block i (by omega)).trans (b2.block i hi)⟩
   have hbb := Below.after b1 hb3
   refine ⟨by simpa using k1.below hbb, kn3, by omega, Or.inr (Or.inl rfl), Or.inr (Or.inr e1), ?_, by omega, Nat.gcd_comm _ _, by rw [HM1.out]; exact h1, hT.below hbb, Grew2.of hbb⟩
   have := FIT.out
   rw [HM1.out, List.length_append, List.length_drop, List.length_replicate]
   omega
  have V0 : Hid (Value.slice (some ⟨g1, 0, none⟩) m1 m1 = slX g1 Y []) := by
   show _ = _
   unfold slX
   rw [List.append_nil, HM1.out]
  have V1 : Hid (Value.slice (some ⟨w1.heap.size, 0, none⟩) (M.digs B64 X).length m1 = slX w1.heap.size X (List.drop (M.digs B64 X).length (List.replicate m1 0))) := by
   have := FIT.out
   have e : (M.digs B64 X ++ List.drop (M.digs B64 X).length (List.replicate m1 0)).length = m1 := by rw [List.length_append, List.length_drop, List.length_replicate]; omega
   show _ = _
   unfold slX
   rw [e]
  generalize hG : Nat.gcd X Y = G at *
  have HG := shut hG
  clear hG kn3 o3 kn b2 b1 k0 k1 hT HC RY FIT hle
  go_loopw [0, 1] (fun vx vy wr => ∃ ga gb A B qa qb, vx = slX ga A qa ∧ vy = slX gb B qb ∧ Rows2 g0 g1 G w wr ga gb A B qa qb) (fun _ vy wr => rowN vy wr)
  case atStart => exact ⟨_, _, _, _, _, _, V0.out, V1.out, IN.out⟩
  case round =>
   clear V0 V1 IN
   obtain ⟨ga, gb, A, B, qa, qb, rfl, rfl, RR⟩ := hrel
   have ME := shut (rowN_eq RR.kb)
   have R := shut RR
   by_cases hn : 1 < (M.digs B64 B).length
   ·have LS : Hid (Calls Tryz.prog 194 #[slX ga A qa, slX gb B qb] wr fun e w' => ∃ a b c d : Nat, e = .returned (stV a b c d) ∧ a < B64 ∧ b < B64 ∧ c < B64 ∧ d < B64 ∧
      (b = 0 ∨ ∃ X' Y', M.Eu a b c d A B X' Y' ∧ 0 < Y' ∧ Y' < X' ∧ 1 ≤ c ∧ 1 ≤ d) ∧ Below wr.heap.size wr w') := by
     have l1 := digs_mono' RR.le
     have l2 := RR.size
     have := lsteps_any (some ⟨ga, 0, none⟩) (some ⟨gb, 0, none⟩) (M.digs B64 A ++ qa).length (M.digs B64 B ++ qb).length ((M.digs B64 A).length - 1) (M.digs B64 A) (M.digs B64 B) wr RR.rdA RR.rdB (M.Low.digs B64_two A) (M.Low.digs B64_two B) (by omega) (by omega) (by omega) (by omega)
      (by have := M.trim_digs B64_two A ((M.digs B64 A).length - 1) (by omega); unfold lm; omega) (by rw [M.val_digs B64_two, M.val_digs B64_two]; exact RR.le)
     rw [M.val_digs B64_two, M.val_digs B64_two] at this
     exact this
    have hn1 : (1 : Int) < ((M.digs B64 B).length : Nat) := by omega
    have HN := shut hn
    unfold slX at *
    generalize hna : (M.digs B64 A).length = na at *
    generalize hnb : (M.digs B64 B).length = nb at *
    generalize hca : (M.digs B64 A ++ qa).length = ca at *
    generalize hcb : (M.digs B64 B ++ qb).length = cb at *
    have NA := shut hna
    have NB := shut hnb
    have CA := shut hca
    have CB := shut hcb
    clear hna hnb hca hcb RR hn
    go_wp2_with fail
    refine (LS.out).mono ?_
    rintro e w4 ⟨a, b, c, d, rfl, ha, hb, hc, hd, hs, b4⟩
    unfold stV
    have NO := shut (fun w => none_any a b c d w)
    unfold stV at NO
    obtain ⟨w5, hw5⟩ : ∃ w5, w5 = w4.alloc (.cells #[.int .u64 (a : Nat), .int .u64 (b : Nat), .int .u64 (c : Nat), .int .u64 (d : Nat)] 190) := ⟨_, rfl⟩
    have kS : Cel w5 w4.heap.size [.int .u64 (a : Nat), .int .u64 (b : Nat), .int .u64 (c : Nat), .int .u64 (d : Nat)] 190 := by rw [hw5]; exact Cel.new _ _ _
    have b5 : Below w4.heap.size w4 w5 := by rw [hw5]; go_grown
    have lga := (R.out.below b4).ka.lt
    have lgb := (R.out.below b4).kb.lt
    replace R := shut ((R.out.below b4).below b5)
    go_wp2_with fail
    rw [← hw5]
    clear hw5
    refine (NO.out _).mono ?_
    rintro e w6 ⟨rfl, b6⟩
    replace kS := kS.below b6
    replace R := shut (R.out.below b6)
    have s0 := celq0 kS
    have s1 := celq1 kS
    have s2 := celq2 kS
    have s3 := celq3 kS
    have HA := shut ha
    have HB := shut hb
    have HC := shut hc
    have HD := shut hd
    have HS := shut hs
    clear NO LS b4 b5 b6 ha hb hc hd hs
    have hB0 : 0 < B := by
     rcases Nat.eq_zero_or_pos B with e | e
     ·have h2 := HN.out
      have h3 := NB.out
      rw [e, M.digs_zero] at h3
      simp at h3
      omega
     ·exact e
    by_cases hb0 : b = 0
    ·have DM : Hid (Calls Tryz.prog 172 #[.slice (some ⟨ga, 0, none⟩) na ca, .slice (some ⟨gb, 0, none⟩) nb cb] w6 fun e w' => ∃ q r, e = .returned (.tuple #[q, r, .int .i64 0]) ∧ Rd w' r (M.digs B64 (A % B)) ∧ Below w6.heap.size w6 w') := by
      have rA := R.out.rdA
      have rB := R.out.rdB
      unfold slX at rA rB
      rw [NA.out, CA.out] at rA
      rw [NB.out, CB.out] at rB
      have l1 := digs_mono' R.out.le
      refine (divmod_any _ _ _ _ w6 rA rB (M.Low.digs B64_two A) (M.Low.digs B64_two B) R.out.size (Nat.le_trans l1 R.out.size)).mono ?_
      rintro e w' ⟨-, h, hb⟩
      rw [M.val_digs B64_two, M.val_digs B64_two] at h
      obtain ⟨q, r, h1, -, h3⟩ := h hB0
      exact ⟨q, r, h1, h3, hb⟩
     rw [decide_eq_true hb0]
     go_wp2_with fail
     refine (DM.out).mono ?_
     rintro e w7 ⟨q, r, rfl, rr, b7⟩
     replace R := shut (R.out.below b7)
     have KA := shut R.out.ka
     have l3 : (M.digs B64 (A % B)).length ≤ ca := by
      have l1 := digs_mono' (Nat.le_trans (Nat.le_of_lt (Nat.mod_lt A hB0)) R.out.le)
      have := CA.out
      rw [List.length_append] at this
      omega
     have L3 := shut l3
     have RR := shut rr
     obtain ⟨ar, cr, rfl, -, -⟩ := id rr
     clear rr l3 b7 DM
     go_wp2_with (first
      | (at_builtin; refine wpList_appB rfl _ _ rfl ga ca (M.digs B64 A ++ qa) (M.digs B64 (A % B)) rfl KA.out CA.out _ rfl RR.out L3.out ?_; intro w8 k8 o8))
     have e8 : (M.digs B64 (A % B) ++ (M.digs B64 A ++ qa).drop (M.digs B64 (A % B)).length).length = ca := by
      have := L3.out
      have := CA.out
      rw [List.length_append, List.length_drop]
      omega
     refine ⟨⟨gb, ga, B, A % B, qb, (M.digs B64 A ++ qa).drop (M.digs B64 (A % B)).length, by rw [NB.out, CB.out], by rw [e8], R.out.divided hB0 k8 o8⟩, ?_⟩
     have m8 := rowN_eq k8
     unfold slX at m8
     rw [e8] at m8
     rw [m8, ME.out]
     exact Nat.mod_lt A hB0
    ·rw [decide_eq_false hb0]
     have LO : Hid (Calls Tryz.prog 196 #[.slice (some ⟨gb, 0, none⟩) nb cb, .int .i64 (na : Nat)] w6 fun e w' => e = .returned (.slice (some ⟨gb, 0, none⟩) na cb) ∧ Blk w' gb (M.digs B64 B ++ List.replicate (na - nb) 0 ++ qb.drop (na - nb)) ∧ Only gb w6 w') := by
      have l1 := digs_mono' R.out.le
      have l2 := R.out.cap
      have l4 := R.out.size
      have e1 := NA.out
      have e2 := NB.out
      have := longer_any gb (M.digs B64 B) qb na cb w6 R.out.kb (by omega) (by omega) CB.out.symm (by omega)
      rw [NB.out] at this
      exact this
     go_wp2_with fail
     refine (LO.out).mono ?_
     rintro e w7 ⟨rfl, k7, o7⟩
     have kS7 : Cel w7 w4.heap.size [.int .u64 (a : Nat), .int .u64 (b : Nat), .int .u64 (c : Nat), .int .u64 (d : Nat)] 190 := by
      unfold Cel at kS ⊢
      rw [o7.block _ (by omega)]; exact kS
     have ka7 : Blk w7 ga (M.digs B64 A ++ qa) := o7.blk R.out.ka R.out.ne
     have t0 := celq0 kS7
     have t1 := celq1 kS7
     have t2 := celq2 kS7
     have t3 := celq3 kS7
     obtain ⟨X', Y', eu, y0, yx, c1', d1'⟩ : ∃ X' Y', M.Eu a b c d A B X' Y' ∧ 0 < Y' ∧ Y' < X' ∧ 1 ≤ c ∧ 1 ≤ d := by
      rcases HS.out with h | h
      ·exact absurd h hb0
      ·exact h
     have hXA : X' ≤ A := by
      have := eu.x
      have := Nat.mul_le_mul_right X' d1'
      omega
     have hYB : Y' < B := by
      have := eu.y
      have := Nat.mul_le_mul_right X' c1'
      omega
     have ln : (M.digs B64 B ++ List.replicate (na - nb) 0).length = na := by
      have l1 := digs_mono' R.out.le
      rw [NA.out, NB.out] at l1
      rw [List.length_append, List.length_replicate, NB.out]
      omega
     have vB : M.val B64 (M.digs B64 B ++ List.replicate (na - nb) 0) = B := by
      rw [M.val_append, M.val_digs B64_two, val_zeros, Nat.mul_zero, Nat.add_zero]
     have hA : A < B64 ^ na := by
      have := M.val_lt B64_pos (M.Low.digs B64_two A)
      rwa [M.val_digs B64_two, NA.out] at this
     have TK : Hid (Calls Tryz.prog 197 #[.agg #[.int .u64 (a : Nat), .int .u64 (b : Nat), .int .u64 (c : Nat), .int .u64 (d : Nat)], .slice (some ⟨ga, 0, none⟩) na ca, .slice (some ⟨gb, 0, none⟩) na cb] w7 fun e w' =>
       ∃ xs' ys' : List Nat, e = .returned (.tuple #[]) ∧ Blk w' ga (xs' ++ qa) ∧ Blk w' gb (ys' ++ qb.drop (na - nb)) ∧ xs'.length = na ∧ ys'.length = na ∧ M.Low B64 xs' ∧ M.Low B64 ys' ∧ M.val B64 xs' = X' ∧ M.val B64 ys' = Y' ∧ Grew2 ga gb w7 w') := by
      have hca : (M.digs B64 A).length ≤ cb := by
       have := R.out.cap
       rw [CB.out] at this
       exact this
      have := take_walk a b c d ga gb 123 (M.digs B64 A) (M.digs B64 B ++ List.replicate (na - nb) 0) qa (qb.drop (na - nb)) ca na cb w7 ka7 k7 R.out.ne (by rw [ln, NA.out]) HA.out HB.out HC.out HD.out (M.Low.digs B64_two A)
       ((M.Low.digs B64_two B).append (low_zeros _)) hca (by rw [NA.out]; have := R.out.size; rw [NA.out] at this; omega) X' Y'
       (by rw [M.val_digs B64_two, vB]; rcases eu.take with ⟨h, -⟩ | ⟨h, -⟩; exact Or.inl h; exact Or.inr h) (by rw [M.val_digs B64_two, vB]; rcases eu.take with ⟨-, h⟩ | ⟨-, h⟩; exact Or.inr h; exact Or.inl h)
       (by rw [NA.out]; omega) (by rw [NA.out]; omega)
      rw [NA.out] at this
      exact this
     have EU := shut eu
     have HXA := shut hXA
     have HYB := shut hYB
     have YX := shut yx
     clear s0 s1 s2 s3 eu hXA hYB yx c1' d1' ln vB hA LO
     go_wp2_with fail
     refine (TK.out).mono ?_
     rintro e w8 ⟨xs', ys', rfl, k8, k9, n8, n9, lx8, ly8, v8, v9, g8⟩
     have hna4 : na ≤ 4000 := by have := R.out.size; rw [NA.out] at this; exact this
     have lca : na ≤ ca := by have h1 := NA.out; have h2 := CA.out; rw [List.length_append] at h2; omega
     have lcb : na ≤ cb := by have h1 := R.out.cap; rw [NA.out, CB.out] at h1; exact h1
     have SX := shut (shorter_any w8 (some ⟨ga, 0, none⟩) ca xs' (Bk.rd (t := 123) k8 ca (by omega)) lx8 (by omega))
     have SY := shut (shorter_any w8 (some ⟨gb, 0, none⟩) cb ys' (Bk.rd (t := 123) k9 cb (by omega)) ly8 (by omega))
     rw [n8, v8] at SX
     rw [n9, v9] at SY
     have N8 := shut n8
     have N9 := shut n9
     clear n8 n9 v8 v9
     go_wp2_with fail
     refine (SX.out).mono ?_
     rintro e w9 ⟨i1, rfl, li1, t8, rfl⟩
     go_wp2_with fail
     refine (SY.out).mono ?_
     rintro e w10 ⟨i2, rfl, li2, t9, rfl⟩
     have T8 := shut t8
     have T9 := shut t9
     clear t8 t9
     go_wp2
     have d8 : M.digs B64 X' ++ (xs'.drop i1 ++ qa) = xs' ++ qa := by rw [← T8.out, ← List.append_assoc, List.take_append_drop]
     have d9 : M.digs B64 Y' ++ (ys'.drop i2 ++ qb.drop (na - nb)) = ys' ++ qb.drop (na - nb) := by rw [← T9.out, ← List.append_assoc, List.take_append_drop]
     have n1 : (M.digs B64 X').length = i1 := by rw [← T8.out, List.length_take, N8.out]; omega
     have n2 : (M.digs B64 Y').length = i2 := by rw [← T9.out, List.length_take, N9.out]; omega
     have c8 : (xs' ++ qa).length = ca := by
      have h1 := NA.out
      have h2 := CA.out
      rw [List.length_append] at h2 ⊢
      rw [N8.out]
      omega
     have c9 : (ys' ++ qb.drop (na - nb)).length = cb := by
      have h1 := NB.out
      have h2 := CB.out
      have l1 := digs_mono' R.out.le
      rw [NA.out, NB.out] at l1
      rw [List.length_append] at h2 ⊢
      rw [N9.out, List.length_drop]
      omega
     have g7 : Grew2 ga gb w6 w7 := Grew2.right o7
     refine ⟨⟨ga, gb, X', Y', xs'.drop i1 ++ qa, ys'.drop i2 ++ qb.drop (na - nb), by rw [n1, d8, c8], by rw [n2, d9, c9], ?_⟩, ?_⟩
     ·refine ⟨by rw [d8]; exact k8, by rw [d9]; exact k9, R.out.ne, R.out.fa, R.out.fb, by rw [n1, d9, c9]; omega, Nat.le_of_lt YX.out, by rw [EU.out.gcd]; exact R.out.gcd, by omega, ?_, ?_⟩
      ·exact (R.out.tab.grew2 R.out.ka R.out.kb g7).grew2 ka7 k7 g8
      ·exact (R.out.gr.put g7 R.out.fa R.out.fb).put g8 R.out.fa R.out.fb
     ·have m9 := rowN_eq (g := gb) (A := Y') (q := ys'.drop i2 ++ qb.drop (na - nb)) (by rw [d9]; exact k9)
      unfold slX at m9
      rw [n2, d9, c9] at m9
      rw [m9, ME.out]
      exact HYB.out
   ·have hn1 : ¬ (1 : Int) < ((M.digs B64 B).length : Nat) := by omega
    rcases Nat.eq_zero_or_pos B with hB0 | hB0
    ·have z : M.digs B64 B = [] := by rw [hB0, M.digs_zero]
     have rA := RR.rdA
     have gg := RR.gcd
     rw [hB0, Nat.gcd_zero_right] at gg
     have GR := shut RR.gr
     have RA := shut rA
     have GG := shut gg
     clear gg rA R ME RR hn hn1
     unfold slX at *
     rw [z]
     go_wp2_with fail
     go_ret
     exact ⟨_, rfl, by rw [HG.out, ← GG.out]; exact RA.out, GR.out⟩
    ·have lB : B < B64 := by
      have h1 := M.val_lt B64_pos (M.Low.digs B64_two B)
      rw [M.val_digs B64_two] at h1
      have h2 : B64 ^ (M.digs B64 B).length ≤ B64 ^ 1 := Nat.pow_le_pow_right B64_pos (by omega)
      rw [Nat.pow_one] at h2
      omega
     have z : M.digs B64 B = [B] := dig_one (by omega) lB
     have hGd : M.digs B64 (Nat.gcd B (A % B)) = [Nat.gcd B (A % B)] := dig_one (by have := Nat.gcd_pos_of_pos_left (A % B) hB0; omega) (Nat.lt_of_le_of_lt (Nat.le_of_dvd hB0 (Nat.gcd_dvd_left _ _)) lB)
     have gg : Nat.gcd B (A % B) = G := by rw [Nat.gcd_comm, ← Nat.gcd_rec, Nat.gcd_comm]; exact RR.gcd
     have DM : Hid (Calls Tryz.prog 172 #[slX ga A qa, slX gb B qb] wr fun e w' => ∃ q r, e = .returned (.tuple #[q, r, .int .i64 0]) ∧ Rd w' q (M.digs B64 (A / B)) ∧ Rd w' r (M.digs B64 (A % B)) ∧ Below wr.heap.size wr w') := by
      have l1 := digs_mono' RR.le
      refine (divmod_any _ _ _ _ wr RR.rdA RR.rdB (M.Low.digs B64_two A) (M.Low.digs B64_two B) RR.size (Nat.le_trans l1 RR.size)).mono ?_
      rintro e w' ⟨-, h, hb⟩
      rw [M.val_digs B64_two, M.val_digs B64_two] at h
      obtain ⟨q, r, h1, h2, h3⟩ := h hB0
      exact ⟨q, r, h1, h2, h3, hb⟩
     have LD := shut (fun v w => ldiv_both B (A % B) v w hB0 lB (Nat.mod_lt _ hB0))
     have kb := RR.kb
     rw [z] at kb
     have R2 := shut RR
     unfold slX at *
     rw [z] at DM ⊢
     generalize hna : (M.digs B64 A).length = na at *
     generalize hca : (M.digs B64 A ++ qa).length = ca at *
     generalize hcb : ([B] ++ qb).length = cb at *
     have hcb0 : 1 ≤ cb := by rw [← hcb]; simp
     have GG := shut gg
     have HGD := shut hGd
     have ic : ((0 : Nat) : Int) < cb := by omega
     clear hna hca hcb R ME RR hn hn1 gg hGd z
     simp only [List.length_cons, List.length_nil, Nat.zero_add] at *
     go_wp2_with fail
     refine (DM.out).mono ?_
     rintro e w7 ⟨q, r, rfl, rq, rr, b7⟩
     have y0 := (kb.below b7).cell (j := 0) (by simp)
     rw [show lm ([B] ++ qb) 0 = B from rfl] at y0
     have LD2 := shut (LD.out r w7 rr (R2.out.below b7).tab)
     have RR2 := shut (R2.out.below b7)
     obtain ⟨aq, cq, rfl, -, -⟩ := id rq
     obtain ⟨ar, cr, rfl, -, -⟩ := id rr
     clear rr rq b7 LD R2 kb DM
     go_wp2_with fail
     refine (LD2.out).mono ?_
     rintro e w8 ⟨rfl, rfl⟩
     clear LD2 y0
     go_wp2
     go_ret
     refine ⟨_, rfl, ?_, RR2.out.gr.of_below ((Below.refl _ _).alloc (Nat.le_refl _) _)⟩
     rw [HG.out, ← GG.out, HGD.out]
     exact rd1 _ rfl _
 ·have c1 : ¬ cmpN X Y < 0 := by
   rcases Nat.lt_or_ge Y X with h | h
   ·rw [cmpN_gt h]; omega
   ·rw [cmpN_eq (by omega)]; omega
  generalize cmpN X Y = cc at *
  have HM0 := shut hm0
  have HM1 := shut hm1
  have hle : m1 ≤ m0 := by rw [← hm0, ← hm1]; exact digs_mono' (by omega)
  have RY : Hid (∀ w1, Below w.heap.size w w1 → ∀ w2, Below w1.heap.size w1 w2 → Rd w2 (.slice (some ⟨g1, 0, none⟩) m1 m1) (M.digs B64 Y)) := by
   intro w1 b1 w2 b2
   rw [← hm1]
   exact ((k1.below b1).below b2).rd0 _ (Nat.le_refl _)
  have FIT : Hid ((M.digs B64 Y).length ≤ m0) := by show _ ≤ _; omega
  clear hm0 hm1
  go_enter Tryz.func171, Tryz.ntmps171
  go_wp2_with fail
  refine (HC.out).mono ?_
  rintro e w1 ⟨rfl, b1⟩
  go_wp2_with (first
   | (at_make; refine wpList_mk2 rfl _ _ rfl _ _ 0 m0 rfl rfl (by omega) (by omega) (by omega) (by omega) ?_; intro w2 kn b2)
   | (at_builtin; refine wpList_appB rfl _ _ rfl w1.heap.size m0 (List.replicate m0 0) (M.digs B64 Y) rfl kn (by simp) (.slice (some ⟨g1, 0, none⟩) m1 m1) rfl (RY.out w1 b1 w2 b2) FIT.out ?_; intro w3 kn3 o3))
  have IN : Hid (Rows2 g0 g1 (Nat.gcd X Y) w w3 g0 w1.heap.size X Y [] (List.drop (M.digs B64 Y).length (List.replicate m0 0))) := by
   have l0 := k0.lt
   have e1 := b1.size
   have hb3 : Below w1.heap.size w1 w3 := ⟨o3.os.trans b2.os, o3.tape.trans b2.tape, o3.output.trans b2.output, by rw [o3.size]; exact b2.size, fun i hi => (o3.block i (by omega)).trans (b2.block i hi)⟩
   have hbb := Below.after b1 hb3
   refine ⟨by simpa using k0.below hbb, kn3, by omega, Or.inl rfl, Or.inr (Or.inr e1), ?_, by omega, rfl, by rw [HM0.out]; exact h0, hT.below hbb, Grew2.of hbb⟩
   have := FIT.out
   rw [HM0.out, List.length_append, List.length_drop, List.length_replicate]
   omega
  have V0 : Hid (Value.slice (some ⟨g0, 0, none⟩) m0 m0 = slX g0 X []) := by
   show _ = _
   unfold slX
   rw [List.append_nil, HM0.out]
  have V1 : Hid (Value.slice (some ⟨w1.heap.size, 0, none⟩) (M.digs B64 Y).length m0 = slX w1.heap.size Y (List.drop (M.digs B64 Y).length (List.replicate m0 0))) := by
   have := FIT.out
   have e : (M.digs B64 Y ++ List.drop (M.digs B64 Y).length (List.replicate m0 0)).length = m0 := by rw [List.length_append, List.length_drop, List.length_replicate]; omega
   show _ = _
   unfold slX
   rw [e]
  generalize hG : Nat.gcd X Y = G at *
  have HG := shut hG
  clear hG kn3 o3 kn b2 b1 k0 k1 hT HC RY FIT hle
  go_loopw [0, 1] (fun vx vy wr => ∃ ga gb A B qa qb, vx = slX ga A qa ∧ vy = slX gb B qb ∧ Rows2 g0 g1 G w wr ga gb A B qa qb) (fun _ vy wr => rowN vy wr)
  case atStart => exact ⟨_, _, _, _, _, _, V0.out, V1.out, IN.out⟩
  case round =>
   clear V0 V1 IN
   obtain ⟨ga, gb, A, B, qa, qb, rfl, rfl, RR⟩ := hrel
   have ME := shut (rowN_eq RR.kb)
   have R := shut RR
   by_cases hn : 1 < (M.digs B64 B).length
   ·have LS : Hid (Calls Tryz.prog 194 #[slX ga A qa, slX gb B qb] wr fun e w' => ∃ a b c d : Nat, e = .returned (stV a b c d) ∧ a < B64 ∧ b < B64 ∧ c < B64 ∧ d < B64 ∧
      (b = 0 ∨ ∃ X' Y', M.Eu a b c d A B X' Y' ∧ 0 < Y' ∧ Y' < X' ∧ 1 ≤ c ∧ 1 ≤ d) ∧ Below wr.heap.size wr w') := by
     have l1 := digs_mono' RR.le
     have l2 := RR.size
     have := lsteps_any (some ⟨ga, 0, none⟩) (some ⟨gb, 0, none⟩) (M.digs B64 A ++ qa).length (M.digs B64 B ++ qb).length ((M.digs B64 A).length - 1) (M.digs B64 A) (M.digs B64 B) wr RR.rdA RR.rdB (M.Low.digs B64_two A) (M.Low.digs B64_two B) (by omega) (by omega) (by omega) (by omega)
      (by have := M.trim_digs B64_two A ((M.digs B64 A).length - 1) (by omega); unfold lm; omega) (by rw [M.val_digs B64_two, M.val_digs B64_two]; exact RR.le)
     rw [M.val_digs B64_two, M.val_digs B64_two] at this
     exact this
    have hn1 : (1 : Int) < ((M.digs B64 B).length : Nat) := by omega
    have HN := shut hn
    unfold slX at *
    generalize hna : (M.digs B64 A).length = na at *
    generalize hnb : (M.digs B64 B).length = nb at *
    generalize hca : (M.digs B64 A ++ qa).length = ca at *
    generalize hcb : (M.digs B64 B ++ qb).length = cb at *
    have NA := shut hna
    have NB := shut hnb
    have CA := shut hca
    have CB := shut hcb
    clear hna hnb hca hcb RR hn
    go_wp2_with fail
    refine (LS.out).mono ?_
    rintro e w4 ⟨a, b, c, d, rfl, ha, hb, hc, hd, hs, b4⟩
    unfold stV
    have NO := shut (fun w => none_any a b c d w)
    unfold stV at NO
    obtain ⟨w5, hw5⟩ : ∃ w5, w5 = w4.alloc (.cells #[.int .u64 (a : Nat), .int .u64 (b : Nat), .int .u64 (c : Nat), .int .u64 (d : Nat)] 190) := ⟨_, rfl⟩
    have kS : Cel w5 w4.heap.size [.int .u64 (a : Nat), .int .u64 (b : Nat), .int .u64 (c : Nat), .int .u64 (d : Nat)] 190 := by rw [hw5]; exact Cel.new _ _ _
    have b5 : Below w4.heap.size w4 w5 := by rw [hw5]; go_grown
    have lga := (R.out.below b4).ka.lt
    have lgb := (R.out.below b4).kb.lt
    replace R := shut ((R.out.below b4).below b5)
    go_wp2_with fail
    rw [← hw5]
    clear hw5
    refine (NO.out _).mono ?_
    rintro e w6 ⟨rfl, b6⟩
    replace kS := kS.below b6
    replace R := shut (R.out.below b6)
    have s0 := celq0 kS
    have s1 := celq1 kS
    have s2 := celq2 kS
    have s3 := celq3 kS
    have HA := shut ha
    have HB := shut hb
    have HC := shut hc
    have HD := shut hd
    have HS := shut hs
    clear NO LS b4 b5 b6 ha hb hc hd hs
    have hB0 : 0 < B := by
     rcases Nat.eq_zero_or_pos B with e | e
     ·have h2 := HN.out
      have h3 := NB.out
      rw [e, M.digs_zero] at h3
      simp at h3
      omega
     ·exact e
    by_cases hb0 : b = 0
    ·have DM : Hid (Calls Tryz.prog 172 #[.slice (some ⟨ga, 0, none⟩) na ca, .slice (some ⟨gb, 0, none⟩) nb cb] w6 fun e w' => ∃ q r, e = .returned (.tuple #[q, r, .int .i64 0]) ∧ Rd w' r (M.digs B64 (A % B)) ∧ Below w6.heap.size w6 w') := by
      have rA := R.out.rdA
      have rB := R.out.rdB
      unfold slX at rA rB
      rw [NA.out, CA.out] at rA
      rw [NB.out, CB.out] at rB
      have l1 := digs_mono' R.out.le
      refine (divmod_any _ _ _ _ w6 rA rB (M.Low.digs B64_two A) (M.Low.digs B64_two B) R.out.size (Nat.le_trans l1 R.out.size)).mono ?_
      rintro e w' ⟨-, h, hb⟩
      rw [M.val_digs B64_two, M.val_digs B64_two] at h
      obtain ⟨q, r, h1, -, h3⟩ := h hB0
      exact ⟨q, r, h1, h3, hb⟩
     rw [decide_eq_true hb0]
     go_wp2_with fail
     refine (DM.out).mono ?_
     rintro e w7 ⟨q, r, rfl, rr, b7⟩
     replace R := shut (R.out.below b7)
     have KA := shut R.out.ka
     have l3 : (M.digs B64 (A % B)).length ≤ ca := by
      have l1 := digs_mono' (Nat.le_trans (Nat.le_of_lt (Nat.mod_lt A hB0)) R.out.le)
      have := CA.out
      rw [List.length_append] at this
      omega
     have L3 := shut l3
     have RR := shut rr
     obtain ⟨ar, cr, rfl, -, -⟩ := id rr
     clear rr l3 b7 DM
     go_wp2_with (first
      | (at_builtin; refine wpList_appB rfl _ _ rfl ga ca (M.digs B64 A ++ qa) (M.digs B64 (A % B)) rfl KA.out CA.out _ rfl RR.out L3.out ?_; intro w8 k8 o8))
     have e8 : (M.digs B64 (A % B) ++ (M.digs B64 A ++ qa).drop (M.digs B64 (A % B)).length).length = ca := by
      have := L3.out
      have := CA.out
      rw [List.length_append, List.length_drop]
      omega
     refine ⟨⟨gb, ga, B, A % B, qb, (M.digs B64 A ++ qa).drop (M.digs B64 (A % B)).length, by rw [NB.out, CB.out], by rw [e8], R.out.divided hB0 k8 o8⟩, ?_⟩
     have m8 := rowN_eq k8
     unfold slX at m8
     rw [e8] at m8
     rw [m8, ME.out]
     exact Nat.mod_lt A hB0
    ·rw [decide_eq_false hb0]
     have LO : Hid (Calls Tryz.prog 196 #[.slice (some ⟨gb, 0, none⟩) nb cb, .int .i64 (na : Nat)] w6 fun e w' => e = .returned (.slice (some ⟨gb, 0, none⟩) na cb) ∧ Blk w' gb (M.digs B64 B ++ List.replicate (na - nb) 0 ++ qb.drop (na - nb)) ∧ Only gb w6 w') := by
      have l1 := digs_mono' R.out.le
      have l2 := R.out.cap
      have l4 := R.out.size
      have e1 := NA.out
      have e2 := NB.out
      have := longer_any gb (M.digs B64 B) qb na cb w6 R.out.kb (by omega) (by omega) CB.out.symm (by omega)
      rw [NB.out] at this
      exact this
     go_wp2_with fail
     refine (LO.out).mono ?_
     rintro e w7 ⟨rfl, k7, o7⟩
     have kS7 : Cel w7 w4.heap.size [.int .u64 (a : Nat), .int .u64 (b : Nat), .int .u64 (c : Nat), .int .u64 (d : Nat)] 190 := by
      unfold Cel at kS ⊢
      rw [o7.block _ (by omega)]; exact kS
     have ka7 : Blk w7 ga (M.digs B64 A ++ qa) := o7.blk R.out.ka R.out.ne
     have t0 := celq0 kS7
     have t1 := celq1 kS7
     have t2 := celq2 kS7
     have t3 := celq3 kS7
     obtain ⟨X', Y', eu, y0, yx, c1', d1'⟩ : ∃ X' Y', M.Eu a b c d A B X' Y' ∧ 0 < Y' ∧ Y' < X' ∧ 1 ≤ c ∧ 1 ≤ d := by
      rcases HS.out with h | h
      ·exact absurd h hb0
      ·exact h
     have hXA : X' ≤ A := by
      have := eu.x
      have := Nat.mul_le_mul_right X' d1'
      omega
     have hYB : Y' < B := by
      have := eu.y
      have := Nat.mul_le_mul_right X' c1'
      omega
     have ln : (M.digs B64 B ++ List.replicate (na - nb) 0).length = na := by
      have l1 := digs_mono' R.out.le
      rw [NA.out, NB.out] at l1
      rw [List.length_append, List.length_replicate, NB.out]
      omega
     have vB : M.val B64 (M.digs B64 B ++ List.replicate (na - nb) 0) = B := by
      rw [M.val_append, M.val_digs B64_two, val_zeros, Nat.mul_zero, Nat.add_zero]
     have hA : A < B64 ^ na := by
      have := M.val_lt B64_pos (M.Low.digs B64_two A)
      rwa [M.val_digs B64_two, NA.out] at this
     have TK : Hid (Calls Tryz.prog 197 #[.agg #[.int .u64 (a : Nat), .int .u64 (b : Nat), .int .u64 (c : Nat), .int .u64 (d : Nat)], .slice (some ⟨ga, 0, none⟩) na ca, .slice (some ⟨gb, 0, none⟩) na cb] w7 fun e w' =>
       ∃ xs' ys' : List Nat, e = .returned (.tuple #[]) ∧ Blk w' ga (xs' ++ qa) ∧ Blk w' gb (ys' ++ qb.drop (na - nb)) ∧ xs'.length = na ∧ ys'.length = na ∧ M.Low B64 xs' ∧ M.Low B64 ys' ∧ M.val B64 xs' = X' ∧ M.val B64 ys' = Y' ∧ Grew2 ga gb w7 w') := by
      have hca : (M.digs B64 A).length ≤ cb := by
       have := R.out.cap
       rw [CB.out] at this
       exact this
      have := take_walk a b c d ga gb 123 (M.digs B64 A) (M.digs B64 B ++ List.replicate (na - nb) 0) qa (qb.drop (na - nb)) ca na cb w7 ka7 k7 R.out.ne (by rw [ln, NA.out]) HA.out HB.out HC.out HD.out (M.Low.digs B64_two A)
       ((M.Low.digs B64_two B).append (low_zeros _)) hca (by rw [NA.out]; have := R.out.size; rw [NA.out] at this; omega) X' Y'
       (by rw [M.val_digs B64_two, vB]; rcases eu.take with ⟨h, -⟩ | ⟨h, -⟩; exact Or.inl h; exact Or.inr h) (by rw [M.val_digs B64_two, vB]; rcases eu.take with ⟨-, h⟩ | ⟨-, h⟩; exact Or.inr h; exact Or.inl h)
       (by rw [NA.out]; omega) (by rw [NA.out]; omega)
      rw [NA.out] at this
      exact this
     have EU := shut eu
     have HXA := shut hXA
     have HYB := shut hYB
     have YX := shut yx
     clear s0 s1 s2 s3 eu hXA hYB yx c1' d1' ln vB hA LO
     go_wp2_with fail
     refine (TK.out).mono ?_
     rintro e w8 ⟨xs', ys', rfl, k8, k9, n8, n9, lx8, ly8, v8, v9, g8⟩
     have hna4 : na ≤ 4000 := by have := R.out.size; rw [NA.out] at this; exact this
     have lca : na ≤ ca := by have h1 := NA.out; have h2 := CA.out; rw [List.length_append] at h2; omega
     have lcb : na ≤ cb := by have h1 := R.out.cap; rw [NA.out, CB.out] at h1; exact h1
     have SX := shut (shorter_any w8 (some ⟨ga, 0, none⟩) ca xs' (Bk.rd (t := 123) k8 ca (by omega)) lx8 (by omega))
     have SY := shut (shorter_any w8 (some ⟨gb, 0, none⟩) cb ys' (Bk.rd (t := 123) k9 cb (by omega)) ly8 (by omega))
     rw [n8, v8] at SX
     rw [n9, v9] at SY
     have N8 := shut n8
     have N9 := shut n9
     clear n8 n9 v8 v9
     go_wp2_with fail
     refine (SX.out).mono ?_
     rintro e w9 ⟨i1, rfl, li1, t8, rfl⟩
     go_wp2_with fail
     refine (SY.out).mono ?_
     rintro e w10 ⟨i2, rfl, li2, t9, rfl⟩
     have T8 := shut t8
     have T9 := shut t9
     clear t8 t9
     go_wp2
     have d8 : M.digs B64 X' ++ (xs'.drop i1 ++ qa) = xs' ++ qa := by rw [← T8.out, ← List.append_assoc, List.take_append_drop]
     have d9 : M.digs B64 Y' ++ (ys'.drop i2 ++ qb.drop (na - nb)) = ys' ++ qb.drop (na - nb) := by rw [← T9.out, ← List.append_assoc, List.take_append_drop]
     have n1 : (M.digs B64 X').length = i1 := by rw [← T8.out, List.length_take, N8.out]; omega
     have n2 : (M.digs B64 Y').length = i2 := by rw [← T9.out, List.length_take, N9.out]; omega
     have c8 : (xs' ++ qa).length = ca := by
      have h1 := NA.out
      have h2 := CA.out
      rw [List.length_append] at h2 ⊢
      rw [N8.out]
      omega
     have c9 : (ys' ++ qb.drop (na - nb)).length = cb := by
      have h1 := NB.out
      have h2 := CB.out
      have l1 := digs_mono' R.out.le
      rw [NA.out, NB.out] at l1
      rw [List.length_append] at h2 ⊢
      rw [N9.out, List.length_drop]
      omega
     have g7 : Grew2 ga gb w6 w7 := Grew2.right o7
     refine ⟨⟨ga, gb, X', Y', xs'.drop i1 ++ qa, ys'.drop i2 ++ qb.drop (na - nb), by rw [n1, d8, c8], by rw [n2, d9, c9], ?_⟩, ?_⟩
     ·refine ⟨by rw [d8]; exact k8, by rw [d9]; exact k9, R.out.ne, R.out.fa, R.out.fb, by rw [n1, d9, c9]; omega, Nat.le_of_lt YX.out, by rw [EU.out.gcd]; exact R.out.gcd, by omega, ?_, ?_⟩
      ·exact (R.out.tab.grew2 R.out.ka R.out.kb g7).grew2 ka7 k7 g8
      ·exact (R.out.gr.put g7 R.out.fa R.out.fb).put g8 R.out.fa R.out.fb
     ·have m9 := rowN_eq (g := gb) (A := Y') (q := ys'.drop i2 ++ qb.drop (na - nb)) (by rw [d9]; exact k9)
      unfold slX at m9
      rw [n2, d9, c9] at m9
      rw [m9, ME.out]
      exact HYB.out
   ·have hn1 : ¬ (1 : Int) < ((M.digs B64 B).length : Nat) := by omega
    rcases Nat.eq_zero_or_pos B with hB0 | hB0
    ·have z : M.digs B64 B = [] := by rw [hB0, M.digs_zero]
     have rA := RR.rdA
     have gg := RR.gcd
     rw [hB0, Nat.gcd_zero_right] at gg
     have GR := shut RR.gr
     have RA := shut rA
     have GG := shut gg
     clear gg rA R ME RR hn hn1
     unfold slX at *
     rw [z]
     go_wp2_with fail
     go_ret
     exact ⟨_, rfl, by rw [HG.out, ← GG.out]; exact RA.out, GR.out⟩
    ·have lB : B < B64 := by
      have h1 := M.val_lt B64_pos (M.Low.digs B64_two B)
      rw [M.val_digs B64_two] at h1
      have h2 : B64 ^ (M.digs B64 B).length ≤ B64 ^ 1 := Nat.pow_le_pow_right B64_pos (by omega)
      rw [Nat.pow_one] at h2
      omega
     have z : M.digs B64 B = [B] := dig_one (by omega) lB
     have hGd : M.digs B64 (Nat.gcd B (A % B)) = [Nat.gcd B (A % B)] := dig_one (by have := Nat.gcd_pos_of_pos_left (A % B) hB0; omega) (Nat.lt_of_le_of_lt (Nat.le_of_dvd hB0 (Nat.gcd_dvd_left _ _)) lB)
     have gg : Nat.gcd B (A % B) = G := by rw [Nat.gcd_comm, ← Nat.gcd_rec, Nat.gcd_comm]; exact RR.gcd
     have DM : Hid (Calls Tryz.prog 172 #[slX ga A qa, slX gb B qb] wr fun e w' => ∃ q r, e = .returned (.tuple #[q, r, .int .i64 0]) ∧ Rd w' q (M.digs B64 (A / B)) ∧ Rd w' r (M.digs B64 (A % B)) ∧ Below wr.heap.size wr w') := by
      have l1 := digs_mono' RR.le
      refine (divmod_any _ _ _ _ wr RR.rdA RR.rdB (M.Low.digs B64_two A) (M.Low.digs B64_two B) RR.size (Nat.le_trans l1 RR.size)).mono ?_
      rintro e w' ⟨-, h, hb⟩
      rw [M.val_digs B64_two, M.val_digs B64_two] at h
      obtain ⟨q, r, h1, h2, h3⟩ := h hB0
      exact ⟨q, r, h1, h2, h3, hb⟩
     have LD := shut (fun v w => ldiv_both B (A % B) v w hB0 lB (Nat.mod_lt _ hB0))
     have kb := RR.kb
     rw [z] at kb
     have R2 := shut RR
     unfold slX at *
     rw [z] at DM ⊢
     generalize hna : (M.digs B64 A).length = na at *
     generalize hca : (M.digs B64 A ++ qa).length = ca at *
     generalize hcb : ([B] ++ qb).length = cb at *
     have hcb0 : 1 ≤ cb := by rw [← hcb]; simp
     have GG := shut gg
     have HGD := shut hGd
     have ic : ((0 : Nat) : Int) < cb := by omega
     clear hna hca hcb R ME RR hn hn1 gg hGd z
     simp only [List.length_cons, List.length_nil, Nat.zero_add] at *
     go_wp2_with fail
     refine (DM.out).mono ?_
     rintro e w7 ⟨q, r, rfl, rq, rr, b7⟩
     have y0 := (kb.below b7).cell (j := 0) (by simp)
     rw [show lm ([B] ++ qb) 0 = B from rfl] at y0
     have LD2 := shut (LD.out r w7 rr (R2.out.below b7).tab)
     have RR2 := shut (R2.out.below b7)
     obtain ⟨aq, cq, rfl, -, -⟩ := id rq
     obtain ⟨ar, cr, rfl, -, -⟩ := id rr
     clear rr rq b7 LD R2 kb DM
     go_wp2_with fail
     refine (LD2.out).mono ?_
     rintro e w8 ⟨rfl, rfl⟩
     clear LD2 y0
     go_wp2
     go_ret
     refine ⟨_, rfl, ?_, RR2.out.gr.of_below ((Below.refl _ _).alloc (Nat.le_refl _) _)⟩
     rw [HG.out, ← GG.out, HGD.out]
     exact rd1 _ rfl _
end Go.Proofs.YtiiigiggcbbgjaaGreatDoor
