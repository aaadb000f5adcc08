/-
  Package whole: how commonDivisor's rows lie.
  Package whole: commonDivisor.
  Package whole: Gcd.
  Package rat: divisor, cut.
  Package rat: tooLong, of two texts.
  Package rat: Check.
  Package rat: check, of two numbers.
  Package rat: sum, walked.
  Package rat: product, walked.
  Package rat: sum and product, of numbers that may be.
  Package rat: difference, quotient.
-/
import Derived.Test.YtlihcbeacjimkaaGreatDoorG25
import Derived.Test.YtlihcbeacjimkaaGreatDoorG27
import Derived.Test.YtlihcbeacjimkaaGreatDoorG29
import Derived.Test.YtlihcbeacjimkaaGreatDoorG24
import Derived.Test.YtlihcbeacjimkaaGreatDoorG19
import Derived.Test.YtlihcbeacjimkaaGreatDoorG20
import Derived.Test.YtlihcbeacjimkaaGreatDoorG21
namespace Go.Proofs.YtlihcbeacjimkaaGreatDoor
open Go.RowKit Go.Shelf

theorem Grew2.put {g0 g1 ga gb : Nat} {w wr w' : World} (h : Grew2 g0 g1 w wr) (k : Grew2 ga gb wr w') (fa : ga = g0 ∨ ga = g1 ∨ w.heap.size ≤ ga) (fb : gb = g0 ∨ gb = g1 ∨ w.heap.size ≤ gb) : Grew2 g0 g1 w w' :=
  ⟨k.os.trans h.os, k.tape.trans h.tape, k.output.trans h.output, Nat.le_trans h.size k.size, fun i hi h0 h1 => (k.block i (Nat.lt_of_lt_of_le hi h.size) (by omega) (by omega)).trans (h.block i hi h0 h1)⟩
theorem Blk.u64 {w : World} {g : Nat} {ys : List Nat} (h : Blk w g ys) {j : Nat} {v : Value} (hc : w.cell? ⟨g, j, none⟩ = some v) : ∃ n : Int, v = .int .u64 n := by
  by_cases hj : j < ys.length
  · rw [h.cell hj] at hc
    exact ⟨_, (Option.some.inj hc).symm⟩
  · unfold Blk at h
    have hn : ys[j]? = none := List.getElem?_eq_none (by omega)
    simp [World.cell?, h, cellsOf, hn] at hc
theorem Tab.grew2 {ga gb : Nat} {w w' : World} {ya yb : List Nat} (h : Tab w) (ka : Blk w ga ya) (kb : Blk w gb yb) (k : Grew2 ga gb w w') : Tab w' := fun j hj => by
  have hc := h j hj
  have hlt := World.block_lt_of_cell? w _ hc
  have na : lays729_ren.g 1 ≠ ga := fun e => by
    rw [e] at hc
    obtain ⟨n, hn⟩ := ka.u64 hc
    cases hn
  have nb : lays729_ren.g 1 ≠ gb := fun e => by
    rw [e] at hc
    obtain ⟨n, hn⟩ := kb.u64 hc
    cases hn
  rw [World.cell?_of_block (w := w) (k.block _ hlt na nb)]
  exact hc
theorem Grew2.of_only {g0 g1 g : Nat} {w wr w' : World} (h : Grew2 g0 g1 w wr) (k : Only g wr w') (f : g = g0 ∨ g = g1 ∨ w.heap.size ≤ g) : Grew2 g0 g1 w w' :=
  h.put (Grew2.left (g' := g) k) f f
theorem Grew2.of_below {g0 g1 : Nat} {w wr w' : World} (h : Grew2 g0 g1 w wr) (k : Below wr.heap.size wr w') : Grew2 g0 g1 w w' := h.trans (Grew2.of k)

/-- The rows x and y in the loop: their numbers A and B, and what else lies in their blocks. -/
structure Rows2 (g0 g1 G : Nat) (w wr : World) (ga gb A B : Nat) (qa qb : List Nat) : Prop where
  ka : Blk wr ga (M.digs B64 A ++ qa)
  kb : Blk wr gb (M.digs B64 B ++ qb)
  ne : ga ≠ gb
  fa : ga = g0 ∨ ga = g1 ∨ w.heap.size ≤ ga
  fb : gb = g0 ∨ gb = g1 ∨ w.heap.size ≤ gb
  cap : (M.digs B64 A).length ≤ (M.digs B64 B ++ qb).length
  le : B ≤ A
  gcd : Nat.gcd A B = G
  size : (M.digs B64 A).length ≤ 4000
  tab : Tab wr
  gr : Grew2 g0 g1 w wr
def slX (g A : Nat) (q : List Nat) : Value := .slice (some ⟨g, 0, none⟩) (M.digs B64 A).length (M.digs B64 A ++ q).length

theorem Rows2.rdA {g0 g1 G : Nat} {w wr : World} {ga gb A B : Nat} {qa qb : List Nat} (h : Rows2 g0 g1 G w wr ga gb A B qa qb) : Rd wr (slX ga A qa) (M.digs B64 A) := Bk.rd (t := 70) h.ka _ (by simp)
theorem Rows2.rdB {g0 g1 G : Nat} {w wr : World} {ga gb A B : Nat} {qa qb : List Nat} (h : Rows2 g0 g1 G w wr ga gb A B qa qb) : Rd wr (slX gb B qb) (M.digs B64 B) := Bk.rd (t := 70) h.kb _ (by simp)
theorem Rows2.below {g0 g1 G : Nat} {w wr w' : World} {ga gb A B : Nat} {qa qb : List Nat} (h : Rows2 g0 g1 G w wr ga gb A B qa qb) (k : Below wr.heap.size wr w') : Rows2 g0 g1 G w w' ga gb A B qa qb :=
  ⟨h.ka.below k, h.kb.below k, h.ne, h.fa, h.fb, h.cap, h.le, h.gcd, h.size, h.tab.below k, h.gr.of_below k⟩
theorem digs_mono' {A B : Nat} (h : B ≤ A) : (M.digs B64 B).length ≤ (M.digs B64 A).length := digs_mono B64_two h
/-- The number that a row reads as. -/
def rowN (v : Value) (w : World) : Nat := match v with
  | .slice (some a) n _ => M.val B64 ((List.range n).map fun j => match w.cell? ⟨a.block, j, none⟩ with | some (.int _ z) => z.toNat | _ => 0)
  | _ => 0
theorem rowN_eq {w : World} {g A : Nat} {q : List Nat} (h : Blk w g (M.digs B64 A ++ q)) : rowN (slX g A q) w = A := by
  have e : ((List.range (M.digs B64 A).length).map fun j => match w.cell? ⟨g, j, none⟩ with | some (.int _ z) => z.toNat | _ => 0) = M.digs B64 A := by
    apply List.ext_getElem
    · simp
    · intro i h1 h2
      have hc := h.cell (j := i) (by rw [List.length_append]; omega)
      simp only [List.getElem_map, List.getElem_range, hc]
      simp [lm, List.getElem?_append_left h2, h2]
  show M.val B64 _ = A
  rw [e, M.val_digs B64_two]
/-- A division, its rest put into the longer one's room. -/
theorem Rows2.divided {g0 g1 G : Nat} {w wr w' : World} {ga gb A B : Nat} {qa qb : List Nat} (h : Rows2 g0 g1 G w wr ga gb A B qa qb) (hB : 0 < B)
    (k : Blk w' ga (M.digs B64 (A % B) ++ (M.digs B64 A ++ qa).drop (M.digs B64 (A % B)).length)) (o : Only ga wr w') :
    Rows2 g0 g1 G w w' gb ga B (A % B) qb ((M.digs B64 A ++ qa).drop (M.digs B64 (A % B)).length) := by
  have hlt : A % B < B := Nat.mod_lt _ hB
  refine ⟨?_, k, h.ne.symm, h.fb, h.fa, ?_, by omega, ?_, Nat.le_trans (digs_mono' h.le) h.size, h.tab.grew2 h.ka h.ka (Grew2.left o), h.gr.of_only o h.fa⟩
  · have := h.kb
    unfold Blk at this ⊢
    rw [o.block gb h.ne.symm]; exact this
  · have l1 := digs_mono' h.le
    have l2 := digs_mono' (Nat.le_of_lt hlt)
    rw [List.length_append, List.length_drop, List.length_append]
    omega
  · rw [Nat.gcd_comm, ← Nat.gcd_rec, Nat.gcd_comm]
    exact h.gcd
end Go.Proofs.YtlihcbeacjimkaaGreatDoor
namespace Go.Proofs.YtlihcbeacjimkaaGreatDoor
open Go.RowKit Go.Shelf

theorem val_zeros (b : Nat) : ∀ n, M.val b (List.replicate n 0) = 0
  | 0 => rfl
  | n + 1 => by rw [List.replicate_succ, M.val_cons, val_zeros b n]; simp
theorem low_zeros (n : Nat) : M.Low B64 (List.replicate n 0) := fun x hx => by rw [List.eq_of_mem_replicate hx]; exact B64_pos

set_option maxRecDepth 100000 in
set_option maxHeartbeats 8000000 in
theorem cdiv_any (g0 g1 X Y m0 m1 : Nat) (w : World) (hm0 : (M.digs B64 X).length = m0) (hm1 : (M.digs B64 Y).length = m1) (k0 : Blk w g0 (M.digs B64 X)) (k1 : Blk w g1 (M.digs B64 Y)) (h0 : m0 ≤ 4000) (h1 : m1 ≤ 4000) (hT : Tab w) :
    Calls Tryz.prog 113 #[.slice (some ⟨g0, 0, none⟩) m0 m0, .slice (some ⟨g1, 0, none⟩) m1 m1] w fun e w' => ∃ v, e = .returned v ∧ Rd w' v (M.digs B64 (Nat.gcd X Y)) ∧ Grew2 g0 g1 w w' := by
  have HC : Hid (Calls Tryz.prog 93 #[.slice (some ⟨g0, 0, none⟩) m0 m0, .slice (some ⟨g1, 0, none⟩) m1 m1] w fun e w' => e = .returned (.tuple #[.int .i64 (cmpN X Y), .int .i64 0]) ∧ Below w.heap.size w w') := by
    have := cmp_any (.slice (some ⟨g0, 0, none⟩) m0 m0) (.slice (some ⟨g1, 0, none⟩) m1 m1) (M.digs B64 X) (M.digs B64 Y) w (by rw [← hm0]; exact k0.rd0 _ (Nat.le_refl _)) (by rw [← hm1]; exact k1.rd0 _ (Nat.le_refl _)) (M.Low.digs B64_two X) (M.Low.digs B64_two Y) (by omega) (by omega)
    rwa [M.val_digs B64_two, M.val_digs B64_two] at this
  by_cases hXY : X < Y
  · have c1 : cmpN X Y < 0 := by rw [cmpN_lt hXY]; omega
    generalize cmpN X Y = cc at *
    have HM0 := shut hm0
    have HM1 := shut hm1
    have hle : m0 ≤ m1 := by rw [← hm0, ← hm1]; exact digs_mono' (by omega)
    have RY : Hid (∀ w1, Below w.heap.size w w1 → ∀ w2, Below w1.heap.size w1 w2 → Rd w2 (.slice (some ⟨g0, 0, none⟩) m0 m0) (M.digs B64 X)) := by
      intro w1 b1 w2 b2
      rw [← hm0]
      exact ((k0.below b1).below b2).rd0 _ (Nat.le_refl _)
    have FIT : Hid ((M.digs B64 X).length ≤ m1) := by show _ ≤ _; omega
    clear hm0 hm1
    go_enter Tryz.func113, Tryz.ntmps113
    go_wp2_with fail
    refine (HC.out).mono ?_
    rintro e w1 ⟨rfl, b1⟩
    go_wp2_with (first
      | (at_make; refine wpList_mk2 rfl _ _ rfl _ _ 0 m1 rfl rfl (by omega) (by omega) (by omega) (by omega) ?_; intro w2 kn b2)
      | (at_builtin; refine wpList_appB rfl _ _ rfl w1.heap.size m1 (List.replicate m1 0) (M.digs B64 X) rfl kn (by simp) (.slice (some ⟨g0, 0, none⟩) m0 m0) rfl (RY.out w1 b1 w2 b2) FIT.out ?_; intro w3 kn3 o3))
    have IN : Hid (Rows2 g0 g1 (Nat.gcd X Y) w w3 g1 w1.heap.size Y X [] (List.drop (M.digs B64 X).length (List.replicate m1 0))) := by
      have l0 := k1.lt
      have e1 := b1.size
      have hb3 : Below w1.heap.size w1 w3 := ⟨o3.os.trans b2.os, o3.tape.trans b2.tape, o3.output.trans b2.output, by rw [o3.size]; exact b2.size, fun i hi => (o3.block i (by omega)).trans (b2.block i hi)⟩
      have hbb := Below.after b1 hb3
      refine ⟨by simpa using k1.below hbb, kn3, by omega, Or.inr (Or.inl rfl), Or.inr (Or.inr e1), ?_, by omega, Nat.gcd_comm _ _, by rw [HM1.out]; exact h1, hT.below hbb, Grew2.of hbb⟩
      have := FIT.out
      rw [HM1.out, List.length_append, List.length_drop, List.length_replicate]
      omega
    have V0 : Hid (Value.slice (some ⟨g1, 0, none⟩) m1 m1 = slX g1 Y []) := by
      show _ = _
      unfold slX
      rw [List.append_nil, HM1.out]
    have V1 : Hid (Value.slice (some ⟨w1.heap.size, 0, none⟩) (M.digs B64 X).length m1 = slX w1.heap.size X (List.drop (M.digs B64 X).length (List.replicate m1 0))) := by
      have := FIT.out
      have e : (M.digs B64 X ++ List.drop (M.digs B64 X).length (List.replicate m1 0)).length = m1 := by rw [List.length_append, List.length_drop, List.length_replicate]; omega
      show _ = _
      unfold slX
      rw [e]
    generalize hG : Nat.gcd X Y = G at *
    have HG := shut hG
    clear hG kn3 o3 kn b2 b1 k0 k1 hT HC RY FIT hle
    go_loopw [0, 1] (fun vx vy wr => ∃ ga gb A B qa qb, vx = slX ga A qa ∧ vy = slX gb B qb ∧ Rows2 g0 g1 G w wr ga gb A B qa qb) (fun _ vy wr => rowN vy wr)
    case atStart => exact ⟨_, _, _, _, _, _, V0.out, V1.out, IN.out⟩
    case round =>
      clear V0 V1 IN
      obtain ⟨ga, gb, A, B, qa, qb, rfl, rfl, RR⟩ := hrel
      have ME := shut (rowN_eq RR.kb)
      have R := shut RR
      by_cases hn : 1 < (M.digs B64 B).length
      · have LS : Hid (Calls Tryz.prog 131 #[slX ga A qa, slX gb B qb] wr fun e w' => ∃ a b c d : Nat, e = .returned (stV a b c d) ∧ a < B64 ∧ b < B64 ∧ c < B64 ∧ d < B64 ∧
            (b = 0 ∨ ∃ X' Y', M.Eu a b c d A B X' Y' ∧ 0 < Y' ∧ Y' < X' ∧ 1 ≤ c ∧ 1 ≤ d) ∧ Below wr.heap.size wr w') := by
          have l1 := digs_mono' RR.le
          have l2 := RR.size
          have := lsteps_any (some ⟨ga, 0, none⟩) (some ⟨gb, 0, none⟩) (M.digs B64 A ++ qa).length (M.digs B64 B ++ qb).length ((M.digs B64 A).length - 1) (M.digs B64 A) (M.digs B64 B) wr RR.rdA RR.rdB (M.Low.digs B64_two A) (M.Low.digs B64_two B) (by omega) (by omega) (by omega) (by omega)
            (by have := M.trim_digs B64_two A ((M.digs B64 A).length - 1) (by omega); unfold lm; omega) (by rw [M.val_digs B64_two, M.val_digs B64_two]; exact RR.le)
          rw [M.val_digs B64_two, M.val_digs B64_two] at this
          exact this
        have hn1 : (1 : Int) < ((M.digs B64 B).length : Nat) := by omega
        have HN := shut hn
        unfold slX at *
        generalize hna : (M.digs B64 A).length = na at *
        generalize hnb : (M.digs B64 B).length = nb at *
        generalize hca : (M.digs B64 A ++ qa).length = ca at *
        generalize hcb : (M.digs B64 B ++ qb).length = cb at *
        have NA := shut hna
        have NB := shut hnb
        have CA := shut hca
        have CB := shut hcb
        clear hna hnb hca hcb RR hn
        go_wp2_with fail
        refine (LS.out).mono ?_
        rintro e w4 ⟨a, b, c, d, rfl, ha, hb, hc, hd, hs, b4⟩
        unfold stV
        have NO := shut (fun w => none_any a b c d w)
        unfold stV at NO
        obtain ⟨w5, hw5⟩ : ∃ w5, w5 = w4.alloc (.cells #[.int .u64 (a : Nat), .int .u64 (b : Nat), .int .u64 (c : Nat), .int .u64 (d : Nat)] 149) := ⟨_, rfl⟩
        have kS : Cel w5 w4.heap.size [.int .u64 (a : Nat), .int .u64 (b : Nat), .int .u64 (c : Nat), .int .u64 (d : Nat)] 149 := by rw [hw5]; exact Cel.new _ _ _
        have b5 : Below w4.heap.size w4 w5 := by rw [hw5]; go_grown
        have lga := (R.out.below b4).ka.lt
        have lgb := (R.out.below b4).kb.lt
        replace R := shut ((R.out.below b4).below b5)
        go_wp2_with fail
        rw [← hw5]
        clear hw5
        refine (NO.out _).mono ?_
        rintro e w6 ⟨rfl, b6⟩
        replace kS := kS.below b6
        replace R := shut (R.out.below b6)
        have s0 := celq0 kS
        have s1 := celq1 kS
        have s2 := celq2 kS
        have s3 := celq3 kS
        have HA := shut ha
        have HB := shut hb
        have HC := shut hc
        have HD := shut hd
        have HS := shut hs
        clear NO LS b4 b5 b6 ha hb hc hd hs
        have hB0 : 0 < B := by
          rcases Nat.eq_zero_or_pos B with e | e
          · have h2 := HN.out
            have h3 := NB.out
            rw [e, M.digs_zero] at h3
            simp at h3
            omega
          · exact e
        by_cases hb0 : b = 0
        · have DM : Hid (Calls Tryz.prog 98 #[.slice (some ⟨ga, 0, none⟩) na ca, .slice (some ⟨gb, 0, none⟩) nb cb] w6 fun e w' => ∃ q r, e = .returned (.tuple #[q, r, .int .i64 0]) ∧ Rd w' r (M.digs B64 (A % B)) ∧ Below w6.heap.size w6 w') := by
            have rA := R.out.rdA
            have rB := R.out.rdB
            unfold slX at rA rB
            rw [NA.out, CA.out] at rA
            rw [NB.out, CB.out] at rB
            have l1 := digs_mono' R.out.le
            refine (divmod_any _ _ _ _ w6 rA rB (M.Low.digs B64_two A) (M.Low.digs B64_two B) R.out.size (Nat.le_trans l1 R.out.size)).mono ?_
            rintro e w' ⟨-, h, hb⟩
            rw [M.val_digs B64_two, M.val_digs B64_two] at h
            obtain ⟨q, r, h1, -, h3⟩ := h hB0
            exact ⟨q, r, h1, h3, hb⟩
          rw [decide_eq_true hb0]
          go_wp2_with fail
          refine (DM.out).mono ?_
          rintro e w7 ⟨q, r, rfl, rr, b7⟩
          replace R := shut (R.out.below b7)
          have KA := shut R.out.ka
          have l3 : (M.digs B64 (A % B)).length ≤ ca := by
            have l1 := digs_mono' (Nat.le_trans (Nat.le_of_lt (Nat.mod_lt A hB0)) R.out.le)
            have := CA.out
            rw [List.length_append] at this
            omega
          have L3 := shut l3
          have RR := shut rr
          obtain ⟨ar, cr, rfl, -, -⟩ := id rr
          clear rr l3 b7 DM
          go_wp2_with (first
            | (at_builtin; refine wpList_appB rfl _ _ rfl ga ca (M.digs B64 A ++ qa) (M.digs B64 (A % B)) rfl KA.out CA.out _ rfl RR.out L3.out ?_; intro w8 k8 o8))
          have e8 : (M.digs B64 (A % B) ++ (M.digs B64 A ++ qa).drop (M.digs B64 (A % B)).length).length = ca := by
            have := L3.out
            have := CA.out
            rw [List.length_append, List.length_drop]
            omega
          refine ⟨⟨gb, ga, B, A % B, qb, (M.digs B64 A ++ qa).drop (M.digs B64 (A % B)).length, by rw [NB.out, CB.out], by rw [e8], R.out.divided hB0 k8 o8⟩, ?_⟩
          have m8 := rowN_eq k8
          unfold slX at m8
          rw [e8] at m8
          rw [m8, ME.out]
          exact Nat.mod_lt A hB0
        · rw [decide_eq_false hb0]
          have LO : Hid (Calls Tryz.prog 133 #[.slice (some ⟨gb, 0, none⟩) nb cb, .int .i64 (na : Nat)] w6 fun e w' => e = .returned (.slice (some ⟨gb, 0, none⟩) na cb) ∧ Blk w' gb (M.digs B64 B ++ List.replicate (na - nb) 0 ++ qb.drop (na - nb)) ∧ Only gb w6 w') := by
            have l1 := digs_mono' R.out.le
            have l2 := R.out.cap
            have l4 := R.out.size
            have e1 := NA.out
            have e2 := NB.out
            have := longer_any gb (M.digs B64 B) qb na cb w6 R.out.kb (by omega) (by omega) CB.out.symm (by omega)
            rw [NB.out] at this
            exact this
          go_wp2_with fail
          refine (LO.out).mono ?_
          rintro e w7 ⟨rfl, k7, o7⟩
          have kS7 : Cel w7 w4.heap.size [.int .u64 (a : Nat), .int .u64 (b : Nat), .int .u64 (c : Nat), .int .u64 (d : Nat)] 149 := by
            unfold Cel at kS ⊢
            rw [o7.block _ (by omega)]; exact kS
          have ka7 : Blk w7 ga (M.digs B64 A ++ qa) := o7.blk R.out.ka R.out.ne
          have t0 := celq0 kS7
          have t1 := celq1 kS7
          have t2 := celq2 kS7
          have t3 := celq3 kS7
          obtain ⟨X', Y', eu, y0, yx, c1', d1'⟩ : ∃ X' Y', M.Eu a b c d A B X' Y' ∧ 0 < Y' ∧ Y' < X' ∧ 1 ≤ c ∧ 1 ≤ d := by
            rcases HS.out with h | h
            · exact absurd h hb0
            · exact h
          have hXA : X' ≤ A := by
            have := eu.x
            have := Nat.mul_le_mul_right X' d1'
            omega
          have hYB : Y' < B := by
            have := eu.y
            have := Nat.mul_le_mul_right X' c1'
            omega
          have ln : (M.digs B64 B ++ List.replicate (na - nb) 0).length = na := by
            have l1 := digs_mono' R.out.le
            rw [NA.out, NB.out] at l1
            rw [List.length_append, List.length_replicate, NB.out]
            omega
          have vB : M.val B64 (M.digs B64 B ++ List.replicate (na - nb) 0) = B := by
            rw [M.val_append, M.val_digs B64_two, val_zeros, Nat.mul_zero, Nat.add_zero]
          have hA : A < B64 ^ na := by
            have := M.val_lt B64_pos (M.Low.digs B64_two A)
            rwa [M.val_digs B64_two, NA.out] at this
          have TK : Hid (Calls Tryz.prog 134 #[.agg #[.int .u64 (a : Nat), .int .u64 (b : Nat), .int .u64 (c : Nat), .int .u64 (d : Nat)], .slice (some ⟨ga, 0, none⟩) na ca, .slice (some ⟨gb, 0, none⟩) na cb] w7 fun e w' =>
              ∃ xs' ys' : List Nat, e = .returned (.tuple #[]) ∧ Blk w' ga (xs' ++ qa) ∧ Blk w' gb (ys' ++ qb.drop (na - nb)) ∧ xs'.length = na ∧ ys'.length = na ∧ M.Low B64 xs' ∧ M.Low B64 ys' ∧ M.val B64 xs' = X' ∧ M.val B64 ys' = Y' ∧ Grew2 ga gb w7 w') := by
            have hca : (M.digs B64 A).length ≤ cb := by
              have := R.out.cap
              rw [CB.out] at this
              exact this
            have := take_walk a b c d ga gb 70 (M.digs B64 A) (M.digs B64 B ++ List.replicate (na - nb) 0) qa (qb.drop (na - nb)) ca na cb w7 ka7 k7 R.out.ne (by rw [ln, NA.out]) HA.out HB.out HC.out HD.out (M.Low.digs B64_two A)
              ((M.Low.digs B64_two B).append (low_zeros _)) hca (by rw [NA.out]; have := R.out.size; rw [NA.out] at this; omega) X' Y'
              (by rw [M.val_digs B64_two, vB]; rcases eu.take with ⟨h, -⟩ | ⟨h, -⟩; exact Or.inl h; exact Or.inr h) (by rw [M.val_digs B64_two, vB]; rcases eu.take with ⟨-, h⟩ | ⟨-, h⟩; exact Or.inr h; exact Or.inl h)
              (by rw [NA.out]; omega) (by rw [NA.out]; omega)
            rw [NA.out] at this
            exact this
          have EU := shut eu
          have HXA := shut hXA
          have HYB := shut hYB
          have YX := shut yx
          clear s0 s1 s2 s3 eu hXA hYB yx c1' d1' ln vB hA LO
          go_wp2_with fail
          refine (TK.out).mono ?_
          rintro e w8 ⟨xs', ys', rfl, k8, k9, n8, n9, lx8, ly8, v8, v9, g8⟩
          have hna4 : na ≤ 4000 := by have := R.out.size; rw [NA.out] at this; exact this
          have lca : na ≤ ca := by have h1 := NA.out; have h2 := CA.out; rw [List.length_append] at h2; omega
          have lcb : na ≤ cb := by have h1 := R.out.cap; rw [NA.out, CB.out] at h1; exact h1
          have SX := shut (shorter_any w8 (some ⟨ga, 0, none⟩) ca xs' (Bk.rd (t := 70) k8 ca (by omega)) lx8 (by omega))
          have SY := shut (shorter_any w8 (some ⟨gb, 0, none⟩) cb ys' (Bk.rd (t := 70) k9 cb (by omega)) ly8 (by omega))
          rw [n8, v8] at SX
          rw [n9, v9] at SY
          have N8 := shut n8
          have N9 := shut n9
          clear n8 n9 v8 v9
          go_wp2_with fail
          refine (SX.out).mono ?_
          rintro e w9 ⟨i1, rfl, li1, t8, rfl⟩
          go_wp2_with fail
          refine (SY.out).mono ?_
          rintro e w10 ⟨i2, rfl, li2, t9, rfl⟩
          have T8 := shut t8
          have T9 := shut t9
          clear t8 t9
          go_wp2
          have d8 : M.digs B64 X' ++ (xs'.drop i1 ++ qa) = xs' ++ qa := by rw [← T8.out, ← List.append_assoc, List.take_append_drop]
          have d9 : M.digs B64 Y' ++ (ys'.drop i2 ++ qb.drop (na - nb)) = ys' ++ qb.drop (na - nb) := by rw [← T9.out, ← List.append_assoc, List.take_append_drop]
          have n1 : (M.digs B64 X').length = i1 := by rw [← T8.out, List.length_take, N8.out]; omega
          have n2 : (M.digs B64 Y').length = i2 := by rw [← T9.out, List.length_take, N9.out]; omega
          have c8 : (xs' ++ qa).length = ca := by
            have h1 := NA.out
            have h2 := CA.out
            rw [List.length_append] at h2 ⊢
            rw [N8.out]
            omega
          have c9 : (ys' ++ qb.drop (na - nb)).length = cb := by
            have h1 := NB.out
            have h2 := CB.out
            have l1 := digs_mono' R.out.le
            rw [NA.out, NB.out] at l1
            rw [List.length_append] at h2 ⊢
            rw [N9.out, List.length_drop]
            omega
          have g7 : Grew2 ga gb w6 w7 := Grew2.right o7
          refine ⟨⟨ga, gb, X', Y', xs'.drop i1 ++ qa, ys'.drop i2 ++ qb.drop (na - nb), by rw [n1, d8, c8], by rw [n2, d9, c9], ?_⟩, ?_⟩
          · refine ⟨by rw [d8]; exact k8, by rw [d9]; exact k9, R.out.ne, R.out.fa, R.out.fb, by rw [n1, d9, c9]; omega, Nat.le_of_lt YX.out, by rw [EU.out.gcd]; exact R.out.gcd, by omega, ?_, ?_⟩
            · exact (R.out.tab.grew2 R.out.ka R.out.kb g7).grew2 ka7 k7 g8
            · exact (R.out.gr.put g7 R.out.fa R.out.fb).put g8 R.out.fa R.out.fb
          · have m9 := rowN_eq (g := gb) (A := Y') (q := ys'.drop i2 ++ qb.drop (na - nb)) (by rw [d9]; exact k9)
            unfold slX at m9
            rw [n2, d9, c9] at m9
            rw [m9, ME.out]
            exact HYB.out
      · have hn1 : ¬ (1 : Int) < ((M.digs B64 B).length : Nat) := by omega
        rcases Nat.eq_zero_or_pos B with hB0 | hB0
        · have z : M.digs B64 B = [] := by rw [hB0, M.digs_zero]
          have rA := RR.rdA
          have gg := RR.gcd
          rw [hB0, Nat.gcd_zero_right] at gg
          have GR := shut RR.gr
          have RA := shut rA
          have GG := shut gg
          clear gg rA R ME RR hn hn1
          unfold slX at *
          rw [z]
          go_wp2_with fail
          go_ret
          exact ⟨_, rfl, by rw [HG.out, ← GG.out]; exact RA.out, GR.out⟩
        · have lB : B < B64 := by
            have h1 := M.val_lt B64_pos (M.Low.digs B64_two B)
            rw [M.val_digs B64_two] at h1
            have h2 : B64 ^ (M.digs B64 B).length ≤ B64 ^ 1 := Nat.pow_le_pow_right B64_pos (by omega)
            rw [Nat.pow_one] at h2
            omega
          have z : M.digs B64 B = [B] := dig_one (by omega) lB
          have hGd : M.digs B64 (Nat.gcd B (A % B)) = [Nat.gcd B (A % B)] := dig_one (by have := Nat.gcd_pos_of_pos_left (A % B) hB0; omega) (Nat.lt_of_le_of_lt (Nat.le_of_dvd hB0 (Nat.gcd_dvd_left _ _)) lB)
          have gg : Nat.gcd B (A % B) = G := by rw [Nat.gcd_comm, ← Nat.gcd_rec, Nat.gcd_comm]; exact RR.gcd
          have DM : Hid (Calls Tryz.prog 98 #[slX ga A qa, slX gb B qb] wr fun e w' => ∃ q r, e = .returned (.tuple #[q, r, .int .i64 0]) ∧ Rd w' q (M.digs B64 (A / B)) ∧ Rd w' r (M.digs B64 (A % B)) ∧ Below wr.heap.size wr w') := by
            have l1 := digs_mono' RR.le
            refine (divmod_any _ _ _ _ wr RR.rdA RR.rdB (M.Low.digs B64_two A) (M.Low.digs B64_two B) RR.size (Nat.le_trans l1 RR.size)).mono ?_
            rintro e w' ⟨-, h, hb⟩
            rw [M.val_digs B64_two, M.val_digs B64_two] at h
            obtain ⟨q, r, h1, h2, h3⟩ := h hB0
            exact ⟨q, r, h1, h2, h3, hb⟩
          have LD := shut (fun v w => ldiv_both B (A % B) v w hB0 lB (Nat.mod_lt _ hB0))
          have kb := RR.kb
          rw [z] at kb
          have R2 := shut RR
          unfold slX at *
          rw [z] at DM ⊢
          generalize hna : (M.digs B64 A).length = na at *
          generalize hca : (M.digs B64 A ++ qa).length = ca at *
          generalize hcb : ([B] ++ qb).length = cb at *
          have hcb0 : 1 ≤ cb := by rw [← hcb]; simp
          have GG := shut gg
          have HGD := shut hGd
          have ic : ((0 : Nat) : Int) < cb := by omega
          clear hna hca hcb R ME RR hn hn1 gg hGd z
          simp only [List.length_cons, List.length_nil, Nat.zero_add] at *
          go_wp2_with fail
          refine (DM.out).mono ?_
          rintro e w7 ⟨q, r, rfl, rq, rr, b7⟩
          have y0 := (kb.below b7).cell (j := 0) (by simp)
          rw [show lm ([B] ++ qb) 0 = B from rfl] at y0
          have LD2 := shut (LD.out r w7 rr (R2.out.below b7).tab)
          have RR2 := shut (R2.out.below b7)
          obtain ⟨aq, cq, rfl, -, -⟩ := id rq
          obtain ⟨ar, cr, rfl, -, -⟩ := id rr
          clear rr rq b7 LD R2 kb DM
          go_wp2_with fail
          refine (LD2.out).mono ?_
          rintro e w8 ⟨rfl, rfl⟩
          clear LD2 y0
          go_wp2
          go_ret
          refine ⟨_, rfl, ?_, RR2.out.gr.of_below ((Below.refl _ _).alloc (Nat.le_refl _) _)⟩
          rw [HG.out, ← GG.out, HGD.out]
          exact rd1 _ rfl _
  · have c1 : ¬ cmpN X Y < 0 := by
      rcases Nat.lt_or_ge Y X with h | h
      · rw [cmpN_gt h]; omega
      · rw [cmpN_eq (by omega)]; omega
    generalize cmpN X Y = cc at *
    have HM0 := shut hm0
    have HM1 := shut hm1
    have hle : m1 ≤ m0 := by rw [← hm0, ← hm1]; exact digs_mono' (by omega)
    have RY : Hid (∀ w1, Below w.heap.size w w1 → ∀ w2, Below w1.heap.size w1 w2 → Rd w2 (.slice (some ⟨g1, 0, none⟩) m1 m1) (M.digs B64 Y)) := by
      intro w1 b1 w2 b2
      rw [← hm1]
      exact ((k1.below b1).below b2).rd0 _ (Nat.le_refl _)
    have FIT : Hid ((M.digs B64 Y).length ≤ m0) := by show _ ≤ _; omega
    clear hm0 hm1
    go_enter Tryz.func113, Tryz.ntmps113
    go_wp2_with fail
    refine (HC.out).mono ?_
    rintro e w1 ⟨rfl, b1⟩
    go_wp2_with (first
      | (at_make; refine wpList_mk2 rfl _ _ rfl _ _ 0 m0 rfl rfl (by omega) (by omega) (by omega) (by omega) ?_; intro w2 kn b2)
      | (at_builtin; refine wpList_appB rfl _ _ rfl w1.heap.size m0 (List.replicate m0 0) (M.digs B64 Y) rfl kn (by simp) (.slice (some ⟨g1, 0, none⟩) m1 m1) rfl (RY.out w1 b1 w2 b2) FIT.out ?_; intro w3 kn3 o3))
    have IN : Hid (Rows2 g0 g1 (Nat.gcd X Y) w w3 g0 w1.heap.size X Y [] (List.drop (M.digs B64 Y).length (List.replicate m0 0))) := by
      have l0 := k0.lt
      have e1 := b1.size
      have hb3 : Below w1.heap.size w1 w3 := ⟨o3.os.trans b2.os, o3.tape.trans b2.tape, o3.output.trans b2.output, by rw [o3.size]; exact b2.size, fun i hi => (o3.block i (by omega)).trans (b2.block i hi)⟩
      have hbb := Below.after b1 hb3
      refine ⟨by simpa using k0.below hbb, kn3, by omega, Or.inl rfl, Or.inr (Or.inr e1), ?_, by omega, rfl, by rw [HM0.out]; exact h0, hT.below hbb, Grew2.of hbb⟩
      have := FIT.out
      rw [HM0.out, List.length_append, List.length_drop, List.length_replicate]
      omega
    have V0 : Hid (Value.slice (some ⟨g0, 0, none⟩) m0 m0 = slX g0 X []) := by
      show _ = _
      unfold slX
      rw [List.append_nil, HM0.out]
    have V1 : Hid (Value.slice (some ⟨w1.heap.size, 0, none⟩) (M.digs B64 Y).length m0 = slX w1.heap.size Y (List.drop (M.digs B64 Y).length (List.replicate m0 0))) := by
      have := FIT.out
      have e : (M.digs B64 Y ++ List.drop (M.digs B64 Y).length (List.replicate m0 0)).length = m0 := by rw [List.length_append, List.length_drop, List.length_replicate]; omega
      show _ = _
      unfold slX
      rw [e]
    generalize hG : Nat.gcd X Y = G at *
    have HG := shut hG
    clear hG kn3 o3 kn b2 b1 k0 k1 hT HC RY FIT hle
    go_loopw [0, 1] (fun vx vy wr => ∃ ga gb A B qa qb, vx = slX ga A qa ∧ vy = slX gb B qb ∧ Rows2 g0 g1 G w wr ga gb A B qa qb) (fun _ vy wr => rowN vy wr)
    case atStart => exact ⟨_, _, _, _, _, _, V0.out, V1.out, IN.out⟩
    case round =>
      clear V0 V1 IN
      obtain ⟨ga, gb, A, B, qa, qb, rfl, rfl, RR⟩ := hrel
      have ME := shut (rowN_eq RR.kb)
      have R := shut RR
      by_cases hn : 1 < (M.digs B64 B).length
      · have LS : Hid (Calls Tryz.prog 131 #[slX ga A qa, slX gb B qb] wr fun e w' => ∃ a b c d : Nat, e = .returned (stV a b c d) ∧ a < B64 ∧ b < B64 ∧ c < B64 ∧ d < B64 ∧
            (b = 0 ∨ ∃ X' Y', M.Eu a b c d A B X' Y' ∧ 0 < Y' ∧ Y' < X' ∧ 1 ≤ c ∧ 1 ≤ d) ∧ Below wr.heap.size wr w') := by
          have l1 := digs_mono' RR.le
          have l2 := RR.size
          have := lsteps_any (some ⟨ga, 0, none⟩) (some ⟨gb, 0, none⟩) (M.digs B64 A ++ qa).length (M.digs B64 B ++ qb).length ((M.digs B64 A).length - 1) (M.digs B64 A) (M.digs B64 B) wr RR.rdA RR.rdB (M.Low.digs B64_two A) (M.Low.digs B64_two B) (by omega) (by omega) (by omega) (by omega)
            (by have := M.trim_digs B64_two A ((M.digs B64 A).length - 1) (by omega); unfold lm; omega) (by rw [M.val_digs B64_two, M.val_digs B64_two]; exact RR.le)
          rw [M.val_digs B64_two, M.val_digs B64_two] at this
          exact this
        have hn1 : (1 : Int) < ((M.digs B64 B).length : Nat) := by omega
        have HN := shut hn
        unfold slX at *
        generalize hna : (M.digs B64 A).length = na at *
        generalize hnb : (M.digs B64 B).length = nb at *
        generalize hca : (M.digs B64 A ++ qa).length = ca at *
        generalize hcb : (M.digs B64 B ++ qb).length = cb at *
        have NA := shut hna
        have NB := shut hnb
        have CA := shut hca
        have CB := shut hcb
        clear hna hnb hca hcb RR hn
        go_wp2_with fail
        refine (LS.out).mono ?_
        rintro e w4 ⟨a, b, c, d, rfl, ha, hb, hc, hd, hs, b4⟩
        unfold stV
        have NO := shut (fun w => none_any a b c d w)
        unfold stV at NO
        obtain ⟨w5, hw5⟩ : ∃ w5, w5 = w4.alloc (.cells #[.int .u64 (a : Nat), .int .u64 (b : Nat), .int .u64 (c : Nat), .int .u64 (d : Nat)] 149) := ⟨_, rfl⟩
        have kS : Cel w5 w4.heap.size [.int .u64 (a : Nat), .int .u64 (b : Nat), .int .u64 (c : Nat), .int .u64 (d : Nat)] 149 := by rw [hw5]; exact Cel.new _ _ _
        have b5 : Below w4.heap.size w4 w5 := by rw [hw5]; go_grown
        have lga := (R.out.below b4).ka.lt
        have lgb := (R.out.below b4).kb.lt
        replace R := shut ((R.out.below b4).below b5)
        go_wp2_with fail
        rw [← hw5]
        clear hw5
        refine (NO.out _).mono ?_
        rintro e w6 ⟨rfl, b6⟩
        replace kS := kS.below b6
        replace R := shut (R.out.below b6)
        have s0 := celq0 kS
        have s1 := celq1 kS
        have s2 := celq2 kS
        have s3 := celq3 kS
        have HA := shut ha
        have HB := shut hb
        have HC := shut hc
        have HD := shut hd
        have HS := shut hs
        clear NO LS b4 b5 b6 ha hb hc hd hs
        have hB0 : 0 < B := by
          rcases Nat.eq_zero_or_pos B with e | e
          · have h2 := HN.out
            have h3 := NB.out
            rw [e, M.digs_zero] at h3
            simp at h3
            omega
          · exact e
        by_cases hb0 : b = 0
        · have DM : Hid (Calls Tryz.prog 98 #[.slice (some ⟨ga, 0, none⟩) na ca, .slice (some ⟨gb, 0, none⟩) nb cb] w6 fun e w' => ∃ q r, e = .returned (.tuple #[q, r, .int .i64 0]) ∧ Rd w' r (M.digs B64 (A % B)) ∧ Below w6.heap.size w6 w') := by
            have rA := R.out.rdA
            have rB := R.out.rdB
            unfold slX at rA rB
            rw [NA.out, CA.out] at rA
            rw [NB.out, CB.out] at rB
            have l1 := digs_mono' R.out.le
            refine (divmod_any _ _ _ _ w6 rA rB (M.Low.digs B64_two A) (M.Low.digs B64_two B) R.out.size (Nat.le_trans l1 R.out.size)).mono ?_
            rintro e w' ⟨-, h, hb⟩
            rw [M.val_digs B64_two, M.val_digs B64_two] at h
            obtain ⟨q, r, h1, -, h3⟩ := h hB0
            exact ⟨q, r, h1, h3, hb⟩
          rw [decide_eq_true hb0]
          go_wp2_with fail
          refine (DM.out).mono ?_
          rintro e w7 ⟨q, r, rfl, rr, b7⟩
          replace R := shut (R.out.below b7)
          have KA := shut R.out.ka
          have l3 : (M.digs B64 (A % B)).length ≤ ca := by
            have l1 := digs_mono' (Nat.le_trans (Nat.le_of_lt (Nat.mod_lt A hB0)) R.out.le)
            have := CA.out
            rw [List.length_append] at this
            omega
          have L3 := shut l3
          have RR := shut rr
          obtain ⟨ar, cr, rfl, -, -⟩ := id rr
          clear rr l3 b7 DM
          go_wp2_with (first
            | (at_builtin; refine wpList_appB rfl _ _ rfl ga ca (M.digs B64 A ++ qa) (M.digs B64 (A % B)) rfl KA.out CA.out _ rfl RR.out L3.out ?_; intro w8 k8 o8))
          have e8 : (M.digs B64 (A % B) ++ (M.digs B64 A ++ qa).drop (M.digs B64 (A % B)).length).length = ca := by
            have := L3.out
            have := CA.out
            rw [List.length_append, List.length_drop]
            omega
          refine ⟨⟨gb, ga, B, A % B, qb, (M.digs B64 A ++ qa).drop (M.digs B64 (A % B)).length, by rw [NB.out, CB.out], by rw [e8], R.out.divided hB0 k8 o8⟩, ?_⟩
          have m8 := rowN_eq k8
          unfold slX at m8
          rw [e8] at m8
          rw [m8, ME.out]
          exact Nat.mod_lt A hB0
        · rw [decide_eq_false hb0]
          have LO : Hid (Calls Tryz.prog 133 #[.slice (some ⟨gb, 0, none⟩) nb cb, .int .i64 (na : Nat)] w6 fun e w' => e = .returned (.slice (some ⟨gb, 0, none⟩) na cb) ∧ Blk w' gb (M.digs B64 B ++ List.replicate (na - nb) 0 ++ qb.drop (na - nb)) ∧ Only gb w6 w') := by
            have l1 := digs_mono' R.out.le
            have l2 := R.out.cap
            have l4 := R.out.size
            have e1 := NA.out
            have e2 := NB.out
            have := longer_any gb (M.digs B64 B) qb na cb w6 R.out.kb (by omega) (by omega) CB.out.symm (by omega)
            rw [NB.out] at this
            exact this
          go_wp2_with fail
          refine (LO.out).mono ?_
          rintro e w7 ⟨rfl, k7, o7⟩
          have kS7 : Cel w7 w4.heap.size [.int .u64 (a : Nat), .int .u64 (b : Nat), .int .u64 (c : Nat), .int .u64 (d : Nat)] 149 := by
            unfold Cel at kS ⊢
            rw [o7.block _ (by omega)]; exact kS
          have ka7 : Blk w7 ga (M.digs B64 A ++ qa) := o7.blk R.out.ka R.out.ne
          have t0 := celq0 kS7
          have t1 := celq1 kS7
          have t2 := celq2 kS7
          have t3 := celq3 kS7
          obtain ⟨X', Y', eu, y0, yx, c1', d1'⟩ : ∃ X' Y', M.Eu a b c d A B X' Y' ∧ 0 < Y' ∧ Y' < X' ∧ 1 ≤ c ∧ 1 ≤ d := by
            rcases HS.out with h | h
            · exact absurd h hb0
            · exact h
          have hXA : X' ≤ A := by
            have := eu.x
            have := Nat.mul_le_mul_right X' d1'
            omega
          have hYB : Y' < B := by
            have := eu.y
            have := Nat.mul_le_mul_right X' c1'
            omega
          have ln : (M.digs B64 B ++ List.replicate (na - nb) 0).length = na := by
            have l1 := digs_mono' R.out.le
            rw [NA.out, NB.out] at l1
            rw [List.length_append, List.length_replicate, NB.out]
            omega
          have vB : M.val B64 (M.digs B64 B ++ List.replicate (na - nb) 0) = B := by
            rw [M.val_append, M.val_digs B64_two, val_zeros, Nat.mul_zero, Nat.add_zero]
          have hA : A < B64 ^ na := by
            have := M.val_lt B64_pos (M.Low.digs B64_two A)
            rwa [M.val_digs B64_two, NA.out] at this
          have TK : Hid (Calls Tryz.prog 134 #[.agg #[.int .u64 (a : Nat), .int .u64 (b : Nat), .int .u64 (c : Nat), .int .u64 (d : Nat)], .slice (some ⟨ga, 0, none⟩) na ca, .slice (some ⟨gb, 0, none⟩) na cb] w7 fun e w' =>
              ∃ xs' ys' : List Nat, e = .returned (.tuple #[]) ∧ Blk w' ga (xs' ++ qa) ∧ Blk w' gb (ys' ++ qb.drop (na - nb)) ∧ xs'.length = na ∧ ys'.length = na ∧ M.Low B64 xs' ∧ M.Low B64 ys' ∧ M.val B64 xs' = X' ∧ M.val B64 ys' = Y' ∧ Grew2 ga gb w7 w') := by
            have hca : (M.digs B64 A).length ≤ cb := by
              have := R.out.cap
              rw [CB.out] at this
              exact this
            have := take_walk a b c d ga gb 70 (M.digs B64 A) (M.digs B64 B ++ List.replicate (na - nb) 0) qa (qb.drop (na - nb)) ca na cb w7 ka7 k7 R.out.ne (by rw [ln, NA.out]) HA.out HB.out HC.out HD.out (M.Low.digs B64_two A)
              ((M.Low.digs B64_two B).append (low_zeros _)) hca (by rw [NA.out]; have := R.out.size; rw [NA.out] at this; omega) X' Y'
              (by rw [M.val_digs B64_two, vB]; rcases eu.take with ⟨h, -⟩ | ⟨h, -⟩; exact Or.inl h; exact Or.inr h) (by rw [M.val_digs B64_two, vB]; rcases eu.take with ⟨-, h⟩ | ⟨-, h⟩; exact Or.inr h; exact Or.inl h)
              (by rw [NA.out]; omega) (by rw [NA.out]; omega)
            rw [NA.out] at this
            exact this
          have EU := shut eu
          have HXA := shut hXA
          have HYB := shut hYB
          have YX := shut yx
          clear s0 s1 s2 s3 eu hXA hYB yx c1' d1' ln vB hA LO
          go_wp2_with fail
          refine (TK.out).mono ?_
          rintro e w8 ⟨xs', ys', rfl, k8, k9, n8, n9, lx8, ly8, v8, v9, g8⟩
          have hna4 : na ≤ 4000 := by have := R.out.size; rw [NA.out] at this; exact this
          have lca : na ≤ ca := by have h1 := NA.out; have h2 := CA.out; rw [List.length_append] at h2; omega
          have lcb : na ≤ cb := by have h1 := R.out.cap; rw [NA.out, CB.out] at h1; exact h1
          have SX := shut (shorter_any w8 (some ⟨ga, 0, none⟩) ca xs' (Bk.rd (t := 70) k8 ca (by omega)) lx8 (by omega))
          have SY := shut (shorter_any w8 (some ⟨gb, 0, none⟩) cb ys' (Bk.rd (t := 70) k9 cb (by omega)) ly8 (by omega))
          rw [n8, v8] at SX
          rw [n9, v9] at SY
          have N8 := shut n8
          have N9 := shut n9
          clear n8 n9 v8 v9
          go_wp2_with fail
          refine (SX.out).mono ?_
          rintro e w9 ⟨i1, rfl, li1, t8, rfl⟩
          go_wp2_with fail
          refine (SY.out).mono ?_
          rintro e w10 ⟨i2, rfl, li2, t9, rfl⟩
          have T8 := shut t8
          have T9 := shut t9
          clear t8 t9
          go_wp2
          have d8 : M.digs B64 X' ++ (xs'.drop i1 ++ qa) = xs' ++ qa := by rw [← T8.out, ← List.append_assoc, List.take_append_drop]
          have d9 : M.digs B64 Y' ++ (ys'.drop i2 ++ qb.drop (na - nb)) = ys' ++ qb.drop (na - nb) := by rw [← T9.out, ← List.append_assoc, List.take_append_drop]
          have n1 : (M.digs B64 X').length = i1 := by rw [← T8.out, List.length_take, N8.out]; omega
          have n2 : (M.digs B64 Y').length = i2 := by rw [← T9.out, List.length_take, N9.out]; omega
          have c8 : (xs' ++ qa).length = ca := by
            have h1 := NA.out
            have h2 := CA.out
            rw [List.length_append] at h2 ⊢
            rw [N8.out]
            omega
          have c9 : (ys' ++ qb.drop (na - nb)).length = cb := by
            have h1 := NB.out
            have h2 := CB.out
            have l1 := digs_mono' R.out.le
            rw [NA.out, NB.out] at l1
            rw [List.length_append] at h2 ⊢
            rw [N9.out, List.length_drop]
            omega
          have g7 : Grew2 ga gb w6 w7 := Grew2.right o7
          refine ⟨⟨ga, gb, X', Y', xs'.drop i1 ++ qa, ys'.drop i2 ++ qb.drop (na - nb), by rw [n1, d8, c8], by rw [n2, d9, c9], ?_⟩, ?_⟩
          · refine ⟨by rw [d8]; exact k8, by rw [d9]; exact k9, R.out.ne, R.out.fa, R.out.fb, by rw [n1, d9, c9]; omega, Nat.le_of_lt YX.out, by rw [EU.out.gcd]; exact R.out.gcd, by omega, ?_, ?_⟩
            · exact (R.out.tab.grew2 R.out.ka R.out.kb g7).grew2 ka7 k7 g8
            · exact (R.out.gr.put g7 R.out.fa R.out.fb).put g8 R.out.fa R.out.fb
          · have m9 := rowN_eq (g := gb) (A := Y') (q := ys'.drop i2 ++ qb.drop (na - nb)) (by rw [d9]; exact k9)
            unfold slX at m9
            rw [n2, d9, c9] at m9
            rw [m9, ME.out]
            exact HYB.out
      · have hn1 : ¬ (1 : Int) < ((M.digs B64 B).length : Nat) := by omega
        rcases Nat.eq_zero_or_pos B with hB0 | hB0
        · have z : M.digs B64 B = [] := by rw [hB0, M.digs_zero]
          have rA := RR.rdA
          have gg := RR.gcd
          rw [hB0, Nat.gcd_zero_right] at gg
          have GR := shut RR.gr
          have RA := shut rA
          have GG := shut gg
          clear gg rA R ME RR hn hn1
          unfold slX at *
          rw [z]
          go_wp2_with fail
          go_ret
          exact ⟨_, rfl, by rw [HG.out, ← GG.out]; exact RA.out, GR.out⟩
        · have lB : B < B64 := by
            have h1 := M.val_lt B64_pos (M.Low.digs B64_two B)
            rw [M.val_digs B64_two] at h1
            have h2 : B64 ^ (M.digs B64 B).length ≤ B64 ^ 1 := Nat.pow_le_pow_right B64_pos (by omega)
            rw [Nat.pow_one] at h2
            omega
          have z : M.digs B64 B = [B] := dig_one (by omega) lB
          have hGd : M.digs B64 (Nat.gcd B (A % B)) = [Nat.gcd B (A % B)] := dig_one (by have := Nat.gcd_pos_of_pos_left (A % B) hB0; omega) (Nat.lt_of_le_of_lt (Nat.le_of_dvd hB0 (Nat.gcd_dvd_left _ _)) lB)
          have gg : Nat.gcd B (A % B) = G := by rw [Nat.gcd_comm, ← Nat.gcd_rec, Nat.gcd_comm]; exact RR.gcd
          have DM : Hid (Calls Tryz.prog 98 #[slX ga A qa, slX gb B qb] wr fun e w' => ∃ q r, e = .returned (.tuple #[q, r, .int .i64 0]) ∧ Rd w' q (M.digs B64 (A / B)) ∧ Rd w' r (M.digs B64 (A % B)) ∧ Below wr.heap.size wr w') := by
            have l1 := digs_mono' RR.le
            refine (divmod_any _ _ _ _ wr RR.rdA RR.rdB (M.Low.digs B64_two A) (M.Low.digs B64_two B) RR.size (Nat.le_trans l1 RR.size)).mono ?_
            rintro e w' ⟨-, h, hb⟩
            rw [M.val_digs B64_two, M.val_digs B64_two] at h
            obtain ⟨q, r, h1, h2, h3⟩ := h hB0
            exact ⟨q, r, h1, h2, h3, hb⟩
          have LD := shut (fun v w => ldiv_both B (A % B) v w hB0 lB (Nat.mod_lt _ hB0))
          have kb := RR.kb
          rw [z] at kb
          have R2 := shut RR
          unfold slX at *
          rw [z] at DM ⊢
          generalize hna : (M.digs B64 A).length = na at *
          generalize hca : (M.digs B64 A ++ qa).length = ca at *
          generalize hcb : ([B] ++ qb).length = cb at *
          have hcb0 : 1 ≤ cb := by rw [← hcb]; simp
          have GG := shut gg
          have HGD := shut hGd
          have ic : ((0 : Nat) : Int) < cb := by omega
          clear hna hca hcb R ME RR hn hn1 gg hGd z
          simp only [List.length_cons, List.length_nil, Nat.zero_add] at *
          go_wp2_with fail
          refine (DM.out).mono ?_
          rintro e w7 ⟨q, r, rfl, rq, rr, b7⟩
          have y0 := (kb.below b7).cell (j := 0) (by simp)
          rw [show lm ([B] ++ qb) 0 = B from rfl] at y0
          have LD2 := shut (LD.out r w7 rr (R2.out.below b7).tab)
          have RR2 := shut (R2.out.below b7)
          obtain ⟨aq, cq, rfl, -, -⟩ := id rq
          obtain ⟨ar, cr, rfl, -, -⟩ := id rr
          clear rr rq b7 LD R2 kb DM
          go_wp2_with fail
          refine (LD2.out).mono ?_
          rintro e w8 ⟨rfl, rfl⟩
          clear LD2 y0
          go_wp2
          go_ret
          refine ⟨_, rfl, ?_, RR2.out.gr.of_below ((Below.refl _ _).alloc (Nat.le_refl _) _)⟩
          rw [HG.out, ← GG.out, HGD.out]
          exact rd1 _ rfl _
end Go.Proofs.YtlihcbeacjimkaaGreatDoor
namespace Go.Proofs.YtlihcbeacjimkaaGreatDoor
open Go.RowKit Go.Shelf

theorem Below.of_grew2 {w w1 w2 w3 : World} {g0 g1 : Nat} (bb : Below w.heap.size w w1) (h2 : Grew2 g0 g1 w1.drew w2) (h3 : Below w2.heap.size w2 w3) (l0 : w.heap.size ≤ g0) (l1 : w.heap.size ≤ g1) : Below w.heap.size w w3 :=
  Below.after (Grew2.below (show Below w.heap.size w w1.drew from bb.drew) h2 bb.size l0 l1) h3
theorem nat_ltK {s : ByteArray} {K : Nat} (h : s.size ≤ 8 * K) : natOf s < B64 ^ K := by
  refine Nat.lt_of_lt_of_le (natOf_lt s) ?_
  rw [B64_pow]
  exact Nat.pow_le_pow_right (by omega) h
theorem digs_leK {s : ByteArray} {K : Nat} (h : s.size ≤ 8 * K) : (M.digs B64 (natOf s)).length ≤ K := M.digs_len_of_lt B64_two (nat_ltK h)
theorem gcd_le_max (a b : Nat) : Nat.gcd a b ≤ max a b := by
  rcases Nat.eq_zero_or_pos a with h | h
  · rw [h, Nat.gcd_zero_left]; omega
  · have := Nat.le_of_dvd h (Nat.gcd_dvd_left a b); omega

theorem gcd_ltK {s0 s1 : ByteArray} {K : Nat} (h0 : s0.size ≤ 8 * K) (h1 : s1.size ≤ 8 * K) : Nat.gcd (natOf s0) (natOf s1) < B64 ^ K := by
  have a := nat_ltK h0
  have b := nat_ltK h1
  have c := gcd_le_max (natOf s0) (natOf s1)
  generalize B64 ^ K = P at *
  omega

theorem tellG {s0 s1 : ByteArray} {K : Nat} (hK : K ≤ 4000) (h0 : s0.size ≤ 8 * K) (h1 : s1.size ≤ 8 * K) (v : Value) (wx : World) (hr : Rd wx v (M.digs B64 (Nat.gcd (natOf s0) (natOf s1)))) :
    Calls Tryz.prog 90 #[.agg #[.bool false, v]] wx fun e w' => e = .returned (zI (sgn false (Nat.gcd (natOf s0) (natOf s1)))) ∧ Below wx.heap.size wx w' := tell_dig false hK (gcd_ltK h0 h1) v wx hr

set_option maxRecDepth 100000 in
set_option maxHeartbeats 4000000 in
theorem zgcd_ok (n0 n1 : Bool) (s0 s1 : ByteArray) (w : World) (o0 : OkZ n0 s0) (o1 : OkZ n1 s1) (z0 : s0.size ≤ 32000) (z1 : s1.size ≤ 32000) (hT : Tab w) :
    Calls Tryz.prog 85 #[.agg #[.bool n0, .string s0], .agg #[.bool n1, .string s1]] w fun e w' => e = .returned (.tuple #[zI (Nat.gcd (natOf s0) (natOf s1) : Nat), .int .i64 0]) ∧ Below w.heap.size w w' := by
  have HT := shut (tellG (s0 := s0) (s1 := s1) (K := 4000) (by omega) (by omega) (by omega))
  have hz : sgn false (Nat.gcd (natOf s0) (natOf s1)) = ((Nat.gcd (natOf s0) (natOf s1) : Nat) : Int) := rfl
  rw [hz] at HT
  generalize hR : zI ((Nat.gcd (natOf s0) (natOf s1) : Nat) : Int) = R at *
  obtain ⟨za, zb, rfl⟩ : ∃ a b, R = .agg #[.bool a, .string b] := ⟨_, _, hR.symm⟩
  clear hR hz
  go_enter Tryz.func85, Tryz.ntmps85
  go_wp2_with fail
  obtain ⟨w0, hw0, k0, k1, k2, k3, hb0⟩ := boxes4 w (.bool n0) (.string s0) (.bool n1) (.string s1)
  rw [← hw0]
  clear hw0
  refine (read2_own _ n0 n1 s0 s1 w0 k3 o0 o1 z0 z1).mono ?_
  rintro e w1 ⟨g, g0, g1, m0, m1, rfl, kg, e0, e1, r0, r1, hg, hg0, hg1, hb⟩
  have c0 := kg.cell 0
  have c1 := kg.cell 1
  have c2 := kg.cell 2
  have c3 := kg.cell 3
  simp only [List.getElem?_cons_zero, List.getElem?_cons_succ] at c0 c1 c2 c3
  have lt2 := k2.lt
  have m2 := k2.below hb
  have bb := Below.after hb0 hb
  have d0 := digs_leK (s := s0) (K := 4000) (by omega)
  have d1 := digs_leK (s := s1) (K := 4000) (by omega)
  have H55 := shut (cdiv_any g0 g1 (natOf s0) (natOf s1) m0 m1 w1.drew e0 e1 (show Blk w1 _ _ from r0) (show Blk w1 _ _ from r1) (by omega) (by omega) (show Tab w1 from (hT.below hb0).below hb))
  have bs := hb0.size
  clear k0 k1 k2 k3 kg hT e0 e1 r0 r1 d0 d1
  go_wp2
  go_region_with (first | (go_at_call 113; refine (H55.out).mono ?_; rintro e w2 ⟨v, rfl, rv, hb2⟩; obtain ⟨av, cv, rfl, -, -⟩ := id rv) | (go_at_call 90; refine (HT.out _ w2 rv).mono ?_; rintro e w3 ⟨rfl, hb3⟩; have q2 := ((show Cel w1.drew _ _ _ from m2).grew2 hb2 (by omega) (by omega)).below hb3; have e0 := cel2_0 q2; have e1 := cel2_1 q2; have f0 := q2.frozen 0; have f1 := q2.frozen 1))
  all_goals try go_wp2
  all_goals refine post_z1 (p := 4) (u := 5) (by kernel_rfl) rfl rfl rfl ((q2.set 0 _).set 1 _) ⟨rfl, ((Below.of_grew2 bb hb2 hb3 (by omega) (by omega)).setCell (by simp; omega) _).setCell (by simp; omega) _⟩

end Go.Proofs.YtlihcbeacjimkaaGreatDoor
namespace Go.Proofs.YtlihcbeacjimkaaGreatDoor
open Go.RowKit

set_option maxRecDepth 100000 in
set_option maxHeartbeats 1000000 in
theorem divisor_plain (n0 n1 : Bool) (s0 s1 : ByteArray) (w : World) (o0 : OkZ n0 s0) (o1 : OkZ n1 s1) (z0 : s0.size ≤ 32000) (z1 : s1.size ≤ 32000) (hT : Tab w) (hne0 : s0 ≠ ⟨#[1]⟩) (hne : s1 ≠ ⟨#[1]⟩) :
    Calls Tryz.prog 55 #[.agg #[.bool n0, .string s0], .agg #[.bool n1, .string s1]] w fun e w' => e = .returned (zI ((Nat.gcd (natOf s0) (natOf s1) : Nat) : Int)) ∧ Below w.heap.size w w' := by
  have HA := shut (fun w hT => zgcd_ok n0 n1 s0 s1 w o0 o1 z0 z1 hT)
  generalize hR : zI ((Nat.gcd (natOf s0) (natOf s1) : Nat) : Int) = R at *
  obtain ⟨za, zb, rfl⟩ : ∃ a b, R = .agg #[.bool a, .string b] := ⟨_, _, hR.symm⟩
  clear hR
  have hne0 := ne1 hne0
  have hne := ne1 hne
  go_enter Tryz.func55, Tryz.ntmps55
  go_wp2_with fail
  go_fit (HA.out _ (hT.below (ba (ba (ba (Below.refl _ _) _) _) _)))
  rintro e w1 ⟨rfl, b1⟩
  obtain ⟨ka, kb, kr, b1⟩ := al3 b1
  have bb := b1
  clear b1
  have cr_0 := cel2_0' (kr.alloc (.cells #[.bool za, .string zb] 24))
  have fr_1 := Cel.frozen (kr.alloc (.cells #[.bool za, .string zb] 24)) 0
  have cr_2 := cel2_1' (kr.alloc (.cells #[.bool za, .string zb] 24))
  have fr_3 := Cel.frozen (kr.alloc (.cells #[.bool za, .string zb] 24)) 1
  go_wp2
  have kr' := (kr.alloc (.cells #[.bool za, .string zb] 24))
  exact post_z (p := 4) (by kernel_rfl) rfl rfl ((kr'.set 0 _).set 1 _) ⟨rfl, (Below.setCell (ba bb _) (by simp; omega) _).setCell (by simp; omega) _⟩
set_option maxRecDepth 100000 in
set_option maxHeartbeats 1000000 in
theorem divisor_l (n0 n1 : Bool) (s1 : ByteArray) (w : World) :
    Calls Tryz.prog 55 #[.agg #[.bool n0, .string ⟨#[1]⟩], .agg #[.bool n1, .string s1]] w fun e w' => e = .returned (.agg #[.bool false, .string ⟨#[1]⟩]) ∧ Below w.heap.size w w' := by
  go_enter Tryz.func55, Tryz.ntmps55
  go_wp2
  obtain ⟨w0, hw, k0, k1, k2, b⟩ := mk3 w [.bool n0, .string ⟨#[1]⟩] [.bool n1, .string s1] [.bool false, .string ⟨#[1]⟩] 24 24 24
  rw [← hw]
  exact post_z (p := 4) (by kernel_rfl) rfl rfl k2 ⟨rfl, b⟩
set_option maxRecDepth 100000 in
set_option maxHeartbeats 1000000 in
theorem divisor_r (n0 n1 : Bool) (s0 : ByteArray) (w : World) (hne : s0 ≠ ⟨#[1]⟩) :
    Calls Tryz.prog 55 #[.agg #[.bool n0, .string s0], .agg #[.bool n1, .string ⟨#[1]⟩]] w fun e w' => e = .returned (.agg #[.bool false, .string ⟨#[1]⟩]) ∧ Below w.heap.size w w' := by
  have hne := ne1 hne
  go_enter Tryz.func55, Tryz.ntmps55
  go_wp2
  obtain ⟨w0, hw, k0, k1, k2, b⟩ := mk3 w [.bool n0, .string s0] [.bool n1, .string ⟨#[1]⟩] [.bool false, .string ⟨#[1]⟩] 24 24 24
  rw [← hw]
  exact post_z (p := 4) (by kernel_rfl) rfl rfl k2 ⟨rfl, b⟩
theorem divisor_ok (n0 n1 : Bool) (s0 s1 : ByteArray) (w : World) (o0 : OkZ n0 s0) (o1 : OkZ n1 s1) (z0 : s0.size ≤ 32000) (z1 : s1.size ≤ 32000) (hT : Tab w) :
    Calls Tryz.prog 55 #[.agg #[.bool n0, .string s0], .agg #[.bool n1, .string s1]] w fun e w' => e = .returned (zI ((Nat.gcd (natOf s0) (natOf s1) : Nat) : Int)) ∧ Below w.heap.size w w' := by
  by_cases h0 : s0 = ⟨#[1]⟩
  · subst h0
    rw [natOf_one, Nat.gcd_one_left, show (((1 : Nat) : Int)) = 1 from rfl, zI_one]
    exact divisor_l n0 n1 s1 w
  · by_cases h1 : s1 = ⟨#[1]⟩
    · subst h1
      rw [natOf_one, Nat.gcd_one_right, show (((1 : Nat) : Int)) = 1 from rfl, zI_one]
      exact divisor_r n0 n1 s0 w h0
    · exact divisor_plain n0 n1 s0 s1 w o0 o1 z0 z1 hT h0 h1
set_option maxRecDepth 100000 in
set_option maxHeartbeats 1000000 in
theorem cut_plain (n0 : Bool) (s0 s1 : ByteArray) (w : World) (o0 : OkZ n0 s0) (o1 : OkS s1) (z0 : s0.size ≤ 16000) (z1 : s1.size ≤ 16000) (hp : 0 < natOf s1) (hne : s1 ≠ ⟨#[1]⟩) :
    Calls Tryz.prog 56 #[.agg #[.bool n0, .string s0], .agg #[.bool false, .string s1]] w fun e w' => e = .returned (zI (zOf n0 s0 / (natOf s1 : Int))) ∧ Below w.heap.size w w' := by
  have HA := shut (fun w => zdiv_ok n0 false s0 s1 w o0 ⟨o1, fun h => by cases h⟩ z0 z1 hp)
  rw [show zOf false s1 = (natOf s1 : Int) from rfl] at HA
  generalize hR : zI (zOf n0 s0 / (natOf s1 : Int)) = R at *
  obtain ⟨za, zb, rfl⟩ : ∃ a b, R = .agg #[.bool a, .string b] := ⟨_, _, hR.symm⟩
  clear hR
  generalize hR : zI (zOf n0 s0 % (natOf s1 : Int)) = R at *
  obtain ⟨zc, zd, rfl⟩ : ∃ a b, R = .agg #[.bool a, .string b] := ⟨_, _, hR.symm⟩
  clear hR
  have hne := ne1 hne
  go_enter Tryz.func56, Tryz.ntmps56
  go_wp2_with fail
  go_fit (HA.out _)
  rintro e w1 ⟨rfl, b1⟩
  obtain ⟨ka, kb, kr, b1⟩ := al3 b1
  have bb := b1
  clear b1
  have cr_0 := cel2_0' (kr.alloc (.cells #[.bool za, .string zb] 24))
  have fr_1 := Cel.frozen (kr.alloc (.cells #[.bool za, .string zb] 24)) 0
  have cr_2 := cel2_1' (kr.alloc (.cells #[.bool za, .string zb] 24))
  have fr_3 := Cel.frozen (kr.alloc (.cells #[.bool za, .string zb] 24)) 1
  have cr_4 := cel2_0' ((kr.alloc (.cells #[.bool za, .string zb] 24)).alloc (.cells #[.bool zc, .string zd] 24))
  have fr_5 := Cel.frozen ((kr.alloc (.cells #[.bool za, .string zb] 24)).alloc (.cells #[.bool zc, .string zd] 24)) 0
  have cr_6 := cel2_1' ((kr.alloc (.cells #[.bool za, .string zb] 24)).alloc (.cells #[.bool zc, .string zd] 24))
  have fr_7 := Cel.frozen ((kr.alloc (.cells #[.bool za, .string zb] 24)).alloc (.cells #[.bool zc, .string zd] 24)) 1
  go_wp2
  have kr' := ((kr.alloc (.cells #[.bool za, .string zb] 24)).alloc (.cells #[.bool zc, .string zd] 24))
  exact post_z (p := 4) (by kernel_rfl) rfl rfl ((kr'.set 0 _).set 1 _) ⟨rfl, (Below.setCell (ba (ba bb _) _) (by simp; omega) _).setCell (by simp; omega) _⟩
set_option maxRecDepth 100000 in
set_option maxHeartbeats 1000000 in
theorem cut_one (n0 : Bool) (s0 : ByteArray) (w : World) :
    Calls Tryz.prog 56 #[.agg #[.bool n0, .string s0], .agg #[.bool false, .string ⟨#[1]⟩]] w fun e w' => e = .returned (.agg #[.bool n0, .string s0]) ∧ Below w.heap.size w w' := by
  go_enter Tryz.func56, Tryz.ntmps56
  go_wp2
  obtain ⟨w0, hw, k0, k1, k2, b⟩ := mk3 w [.bool n0, .string s0] [.bool false, .string ⟨#[1]⟩] [.bool n0, .string s0] 24 24 24
  rw [← hw]
  exact post_z (p := 4) (by kernel_rfl) rfl rfl k2 ⟨rfl, b⟩
theorem cut_ok (n0 : Bool) (s0 s1 : ByteArray) (w : World) (o0 : OkZ n0 s0) (o1 : OkS s1) (z0 : s0.size ≤ 16000) (z1 : s1.size ≤ 16000) (hp : 0 < natOf s1) :
    Calls Tryz.prog 56 #[.agg #[.bool n0, .string s0], .agg #[.bool false, .string s1]] w fun e w' => e = .returned (zI (zOf n0 s0 / (natOf s1 : Int))) ∧ Below w.heap.size w w' := by
  by_cases h : s1 = ⟨#[1]⟩
  · subst h
    rw [natOf_one, show (((1 : Nat) : Int)) = 1 from rfl, Int.ediv_one, ← zV_ok o0]
    exact cut_one n0 s0 w
  · exact cut_plain n0 s0 s1 w o0 o1 z0 z1 hp h
end Go.Proofs.YtlihcbeacjimkaaGreatDoor
namespace Go.Proofs.YtlihcbeacjimkaaGreatDoor
open Go.RowKit

set_option maxRecDepth 100000 in
set_option maxHeartbeats 1000000 in
theorem tooLong_no (B : Nat) (s d : ByteArray) (w : World) (hB : Cel w B [.string s, .string d] 22) (hs : s.size ≤ 8000) (hd : d.size ≤ 8000) :
    Calls Tryz.prog 53 #[.slice (some ⟨B, 0, none⟩) 2 2] w fun e w' => e = .returned (.bool false) ∧ Below w.heap.size w w' := by
  have i0 : ¬ (8000 : Int) < s.size := by omega
  have i1 : ¬ (8000 : Int) < d.size := by omega
  have c0 := cel2_0' hB
  have c1 := cel2_1' hB
  go_enter Tryz.func53, Tryz.ntmps53
  go_wp2
  go_loopw [7] (fun i wr => wr = w ∧ (i = .int .i64 0 ∨ i = .int .i64 1 ∨ i = .int .i64 2)) (fun i _ => 2 - (intOf i).toNat)
  case atStart => exact ⟨rfl, Or.inl rfl⟩
  case round =>
    obtain ⟨rfl, rfl | rfl | rfl⟩ := hrel
    · go_wp2
      exact ⟨⟨trivial, Or.inr (Or.inl (by go_num))⟩, by simp [intOf]⟩
    · go_wp2
      exact ⟨⟨trivial, Or.inr (Or.inr (by go_num))⟩, by simp [intOf]⟩
    · go_wp2
      go_ret
      exact ⟨rfl, Below.refl _ _⟩
set_option maxRecDepth 100000 in
set_option maxHeartbeats 1000000 in
theorem tooLong_1 (B : Nat) (s d : ByteArray) (w : World) (hB : Cel w B [.string s, .string d] 22) (hs : 8000 < s.size) :
    Calls Tryz.prog 53 #[.slice (some ⟨B, 0, none⟩) 2 2] w fun e w' => e = .returned (.bool true) ∧ Below w.heap.size w w' := by
  have i0 : (8000 : Int) < s.size := by omega
  have c0 := cel2_0' hB
  have c1 := cel2_1' hB
  go_enter Tryz.func53, Tryz.ntmps53
  go_wp2
  go_loopw [7] (fun i wr => wr = w ∧ i = .int .i64 0) (fun i _ => 2 - (intOf i).toNat)
  case atStart => exact ⟨rfl, rfl⟩
  case round =>
    obtain ⟨rfl, rfl⟩ := hrel
    go_wp2
    go_ret
    exact ⟨rfl, Below.refl _ _⟩
set_option maxRecDepth 100000 in
set_option maxHeartbeats 1000000 in
theorem tooLong_2 (B : Nat) (s d : ByteArray) (w : World) (hB : Cel w B [.string s, .string d] 22) (hs : s.size ≤ 8000) (hd : 8000 < d.size) :
    Calls Tryz.prog 53 #[.slice (some ⟨B, 0, none⟩) 2 2] w fun e w' => e = .returned (.bool true) ∧ Below w.heap.size w w' := by
  have i0 : ¬ (8000 : Int) < s.size := by omega
  have i1 : (8000 : Int) < d.size := by omega
  have c0 := cel2_0' hB
  have c1 := cel2_1' hB
  go_enter Tryz.func53, Tryz.ntmps53
  go_wp2
  go_loopw [7] (fun i wr => wr = w ∧ (i = .int .i64 0 ∨ i = .int .i64 1)) (fun i _ => 2 - (intOf i).toNat)
  case atStart => exact ⟨rfl, Or.inl rfl⟩
  case round =>
    obtain ⟨rfl, rfl | rfl⟩ := hrel
    · go_wp2
      exact ⟨⟨trivial, Or.inr (by go_num)⟩, by simp [intOf]⟩
    · go_wp2
      go_ret
      exact ⟨rfl, Below.refl _ _⟩
/-- Whether one of two texts is too long. -/
theorem tooLong_any (s d : ByteArray) : ∃ t : Bool, (t = true ↔ 8000 < s.size ∨ 8000 < d.size) ∧ ∀ (B : Nat) (w : World) (_ : Cel w B [.string s, .string d] 22),
    Calls Tryz.prog 53 #[.slice (some ⟨B, 0, none⟩) 2 2] w fun e w' => e = .returned (.bool t) ∧ Below w.heap.size w w' := by
  by_cases hs : 8000 < s.size
  · exact ⟨true, ⟨fun _ => Or.inl hs, fun _ => rfl⟩, fun B w hB => tooLong_1 B s d w hB hs⟩
  · by_cases hd : 8000 < d.size
    · exact ⟨true, ⟨fun _ => Or.inr hd, fun _ => rfl⟩, fun B w hB => tooLong_2 B s d w hB (by omega) hd⟩
    · exact ⟨false, ⟨fun h => (by cases h), fun h => (by omega)⟩, fun B w hB => tooLong_no B s d w hB (by omega) (by omega)⟩
end Go.Proofs.YtlihcbeacjimkaaGreatDoor
namespace Go.Proofs.YtlihcbeacjimkaaGreatDoor
open Go.RowKit

theorem fld1 (n : Bool) (s : ByteArray) (w : World) : (Instr.field 24 (.agg #[.bool n, .string s]) 1).run Tryz.prog w = .ok (.string s) w := by kernel_rfl

set_option maxRecDepth 100000 in
set_option maxHeartbeats 4000000 in
theorem rchk_long (n : Bool) (s d : ByteArray) (w : World)
    (HL : Hid (∀ (B : Nat) (w : World) (_ : Cel w B [.string s, .string d] 22), Calls Tryz.prog 53 #[.slice (some ⟨B, 0, none⟩) 2 2] w fun e w' => e = .returned (.bool true) ∧ Below w.heap.size w w')) :
    Calls Tryz.prog 21 #[.agg #[.bool n, .string s, .string d]] w fun e w' => e = .returned (.int .i64 5) ∧ Below w.heap.size w w' := by
  go_enter Tryz.func21, Tryz.ntmps21
  go_wp2_with fail
  obtain ⟨w0, hw, k0, k1, bb⟩ := mk2 w [.bool n, .string s, .string d] [.string s, .string d] 26 22
  rw [← hw]
  clear hw
  go_fit (HL.out _ w0 k1)
  rintro e w1 ⟨rfl, b1⟩
  replace k0 := k0.below b1
  replace bb := Below.after bb b1
  clear b1 k1
  go_wp2
  go_ret
  exact ⟨rfl, bb⟩
set_option maxRecDepth 100000 in
set_option maxHeartbeats 4000000 in
theorem rchk_num (n : Bool) (s d : ByteArray) (w : World) (c : Int) (hc : ¬ c = 0)
    (HL : Hid (∀ (B : Nat) (w : World) (_ : Cel w B [.string s, .string d] 22), Calls Tryz.prog 53 #[.slice (some ⟨B, 0, none⟩) 2 2] w fun e w' => e = .returned (.bool false) ∧ Below w.heap.size w w'))
    (HC : Hid (∀ w1, Calls Tryz.prog 54 #[.agg #[.bool n, .string s]] w1 fun e w' => e = .returned (.int .i64 c) ∧ Below w1.heap.size w1 w')) :
    Calls Tryz.prog 21 #[.agg #[.bool n, .string s, .string d]] w fun e w' => e = .returned (.int .i64 c) ∧ Below w.heap.size w w' := by
  go_enter Tryz.func21, Tryz.ntmps21
  go_wp2_with fail
  obtain ⟨w0, hw, k0, k1, bb⟩ := mk2 w [.bool n, .string s, .string d] [.string s, .string d] 26 22
  rw [← hw]
  clear hw
  go_fit (HL.out _ w0 k1)
  rintro e w1 ⟨rfl, b1⟩
  replace k0 := k0.below b1
  replace bb := Below.after bb b1
  clear b1 k1
  have c0 := cel3_0 k0
  have c1 := cel3_1 k0
  have c2 := cel3_2 k0
  go_wp2_with fail
  go_fit (HC.out _)
  rintro e w2 ⟨rfl, b1⟩
  replace k0 := k0.below b1
  replace bb := Below.after bb b1
  clear b1 c0 c1 c2
  go_wp2
  go_ret
  exact ⟨rfl, bb⟩
set_option maxRecDepth 100000 in
set_option maxHeartbeats 4000000 in
theorem rchk_ok (n zn : Bool) (s d zs : ByteArray) (w : World) (hd : 0 < d.size) (hd0 : ¬ lm (byts d) 0 = 0)
    (HL : Hid (∀ (B : Nat) (w : World) (_ : Cel w B [.string s, .string d] 22), Calls Tryz.prog 53 #[.slice (some ⟨B, 0, none⟩) 2 2] w fun e w' => e = .returned (.bool false) ∧ Below w.heap.size w w'))
    (HC : Hid (∀ w1, Calls Tryz.prog 54 #[.agg #[.bool n, .string s]] w1 fun e w' => e = .returned (.int .i64 0) ∧ Below w1.heap.size w1 w'))
    (HV : Hid (∀ w1, Below w.heap.size w w1 → Calls Tryz.prog 55 #[.agg #[.bool n, .string s], .agg #[.bool false, .string d]] w1 fun e w' => e = .returned (.agg #[.bool zn, .string zs]) ∧ Below w1.heap.size w1 w'))
    (hz : (zs.toList == [1]) = true) :
    Calls Tryz.prog 21 #[.agg #[.bool n, .string s, .string d]] w fun e w' => e = .returned (.int .i64 0) ∧ Below w.heap.size w w' := by
  have g1 : ¬ ((d[0]).toNat : Int) = 0 := by rw [byts_at d 0 hd]; omega
  have g2 : ¬ d[0] = 0 := fun h => g1 (by rw [h]; rfl)
  have g4 := toList_ne hd
  have g5 : d.toList.isEmpty = false := by simpa using g4
  have g6 : (0 : Int) < d.size := by omega
  clear hd0
  have g7 : (((d[0]).toNat : Int) == 0) = false := by simpa using g1
  have gf := fld1 zn zs
  go_enter Tryz.func21, Tryz.ntmps21
  go_wp2_with fail
  obtain ⟨w0, hw, k0, k1, bb⟩ := mk2 w [.bool n, .string s, .string d] [.string s, .string d] 26 22
  rw [← hw]
  clear hw
  go_fit (HL.out _ w0 k1)
  rintro e w1 ⟨rfl, b1⟩
  replace k0 := k0.below b1
  replace bb := Below.after bb b1
  clear b1 k1
  have c0 := cel3_0 k0
  have c1 := cel3_1 k0
  have c2 := cel3_2 k0
  go_wp2_with fail
  go_fit (HC.out _)
  rintro e w2 ⟨rfl, b1⟩
  replace k0 := k0.below b1
  replace bb := Below.after bb b1
  clear b1 c0 c1 c2
  go_wp2
  refine wp_region_held_drew (S := (fun w' => w'.cell? ⟨w.heap.size, 0, none⟩ = some (.bool n) ∧ w'.cell? ⟨w.heap.size, 1, none⟩ = some (.string s) ∧ w'.cell? ⟨w.heap.size, 2, none⟩ = some (.string d))) (by kernel_rfl) ?_ (fun hHeld => ?_)
  · exact ⟨cel3_0 k0, cel3_1 k0, cel3_2 k0⟩
  refine wpAnyH_take (i := 0) (oi := _) (v := ?_) rfl (by kernel_rfl) (by kernel_rfl) (by kernel_rfl) (fun _ _ _ h => h) (Or.inl ⟨by rfl, ?_⟩) (by assumption) ?_
  rotate_left
  · (intro w hSw; (try dsimp only at hSw); go_simp; try with_reducible rfl)
  try simp only [Act.put, List.getElem_toArray, List.getElem_cons_zero, List.setIfInBounds_toArray, List.set_cons_zero, List.set_cons_succ]
  refine wpAnyH_take (i := 1) (oi := _) (v := ?_) rfl (by kernel_rfl) (by kernel_rfl) (by kernel_rfl) (fun _ _ _ h => h) (Or.inl ⟨by rfl, ?_⟩) (by assumption) ?_
  rotate_left
  · (intro w hSw; (try dsimp only at hSw); go_simp; try with_reducible rfl)
  try simp only [Act.put, List.getElem_toArray, List.getElem_cons_succ, List.getElem_cons_zero, List.setIfInBounds_toArray, List.set_cons_zero, List.set_cons_succ]
  refine wpAnyH_take (i := 2) (oi := _) (v := ?_) rfl (by kernel_rfl) (by kernel_rfl) (by kernel_rfl) (fun _ _ _ h => h) (Or.inl ⟨by rfl, ?_⟩) (by assumption) ?_
  rotate_left
  · (intro w hSw; (try dsimp only at hSw); go_simp; try with_reducible rfl)
  try simp only [Act.put, List.getElem_toArray, List.getElem_cons_succ, List.getElem_cons_zero, List.setIfInBounds_toArray, List.set_cons_zero, List.set_cons_succ]
  refine wpAnyH_take (i := 3) (oi := _) (v := ?_) rfl (by kernel_rfl) (by kernel_rfl) (by kernel_rfl) (fun _ _ _ h => h) (Or.inl ⟨by rfl, ?_⟩) (by assumption) ?_
  rotate_left
  · (intro w hSw; (try dsimp only at hSw); go_simp; try with_reducible rfl)
  try simp only [Act.put, List.getElem_toArray, List.getElem_cons_succ, List.getElem_cons_zero, List.setIfInBounds_toArray, List.set_cons_zero, List.set_cons_succ]
  refine wpAnyH_take (i := 4) (oi := _) (v := ?_) rfl (by kernel_rfl) (by kernel_rfl) (by kernel_rfl) (fun _ _ _ h => h) (Or.inl ⟨by rfl, ?_⟩) (by assumption) ?_
  rotate_left
  · (intro w hSw; (try dsimp only at hSw); go_simp; try with_reducible rfl)
  try simp only [Act.put, List.getElem_toArray, List.getElem_cons_succ, List.getElem_cons_zero, List.setIfInBounds_toArray, List.set_cons_zero, List.set_cons_succ]
  refine wpAnyH_take (i := 5) (oi := _) (v := ?_) rfl (by kernel_rfl) (by kernel_rfl) (by kernel_rfl) (fun _ _ _ h => h) (Or.inl ⟨by rfl, ?_⟩) (by assumption) ?_
  rotate_left
  · (intro w hSw; (try dsimp only at hSw); go_simp; try with_reducible rfl)
  try simp only [Act.put, List.getElem_toArray, List.getElem_cons_succ, List.getElem_cons_zero, List.setIfInBounds_toArray, List.set_cons_zero, List.set_cons_succ]
  refine wpAnyH_take (i := 6) (oi := _) (v := ?_) rfl (by kernel_rfl) (by kernel_rfl) (by kernel_rfl) (fun _ _ _ h => h) (Or.inl ⟨by rfl, ?_⟩) (by assumption) ?_
  rotate_left
  · (intro w hSw; (try dsimp only at hSw); go_simp; try with_reducible rfl)
  try simp only [Act.put, List.getElem_toArray, List.getElem_cons_succ, List.getElem_cons_zero, List.setIfInBounds_toArray, List.set_cons_zero, List.set_cons_succ]
  refine wpAnyH_take (i := 7) (oi := _) (v := ?_) rfl (by kernel_rfl) (by kernel_rfl) (by kernel_rfl) (fun _ _ _ h => h) (Or.inl ⟨by rfl, ?_⟩) (by assumption) ?_
  rotate_left
  · (intro w hSw; (try dsimp only at hSw); go_simp; try with_reducible rfl)
  try simp only [Act.put, List.getElem_toArray, List.getElem_cons_succ, List.getElem_cons_zero, List.setIfInBounds_toArray, List.set_cons_zero, List.set_cons_succ]
  refine wpAnyH_take (i := 8) (oi := _) (v := ?_) rfl (by kernel_rfl) (by kernel_rfl) (by kernel_rfl) (fun _ _ _ h => h) (Or.inl ⟨by rfl, ?_⟩) (by assumption) ?_
  rotate_left
  · (intro w hSw; (try dsimp only at hSw); go_simp; try with_reducible rfl)
  try simp only [Act.put, List.getElem_toArray, List.getElem_cons_succ, List.getElem_cons_zero, List.setIfInBounds_toArray, List.set_cons_zero, List.set_cons_succ]
  refine wpAnyH_take (i := 9) (oi := _) (v := ?_) rfl (by kernel_rfl) (by kernel_rfl) (by kernel_rfl) (fun _ _ _ h => h) (Or.inl ⟨by rfl, ?_⟩) (by assumption) ?_
  rotate_left
  · (intro w hSw; (try dsimp only at hSw); go_simp; try with_reducible rfl)
  try simp only [Act.put, List.getElem_toArray, List.getElem_cons_succ, List.getElem_cons_zero, List.setIfInBounds_toArray, List.set_cons_zero, List.set_cons_succ]
  refine wpAnyH_take (i := 10) (oi := _) (v := ?_) rfl (by kernel_rfl) (by kernel_rfl) (by kernel_rfl) (fun _ _ _ h => h) (Or.inl ⟨by rfl, ?_⟩) (by assumption) ?_
  rotate_left
  · (intro w hSw; (try dsimp only at hSw); go_simp; try with_reducible rfl)
  try simp only [Act.put, List.getElem_toArray, List.getElem_cons_succ, List.getElem_cons_zero, List.setIfInBounds_toArray, List.set_cons_zero, List.set_cons_succ]
  refine wpAnyH_take (i := 11) (oi := _) (v := ?_) rfl (by kernel_rfl) (by kernel_rfl) (by kernel_rfl) (fun _ _ _ h => h) (Or.inl ⟨by rfl, ?_⟩) (by assumption) ?_
  rotate_left
  · (intro w hSw; (try dsimp only at hSw); go_simp; try with_reducible rfl)
  try simp only [Act.put, List.getElem_toArray, List.getElem_cons_succ, List.getElem_cons_zero, List.setIfInBounds_toArray, List.set_cons_zero, List.set_cons_succ]
  refine wpAnyH_take (i := 12) (oi := _) (v := ?_) rfl (by kernel_rfl) (by kernel_rfl) (by kernel_rfl) (fun _ _ _ h => h) (Or.inl ⟨by rfl, ?_⟩) (by assumption) ?_
  rotate_left
  · (intro w hSw; (try dsimp only at hSw); go_simp; try with_reducible rfl)
  try simp only [Act.put, List.getElem_toArray, List.getElem_cons_succ, List.getElem_cons_zero, List.setIfInBounds_toArray, List.set_cons_zero, List.set_cons_succ]
  refine wpAnyH_ready (rs := [13]) (by kernel_rfl) (by simp) ?_
  refine AllReadyH.cons (o := _) rfl (fun K hK => ?_) AllReadyH.nil
  go_simp
  go_fit (den_any _ _ _ _)
  rintro e wn ⟨rfl, bn⟩
  replace k0 := k0.below ⟨bn.os, bn.tape, bn.output, bn.size, bn.block⟩
  replace bb := Below.after bb ⟨bn.os, bn.tape, bn.output, bn.size, bn.block⟩
  clear bn
  try go_wp2_with fail
  refine hK.out _ _ ?_ (fun hHeld => ?_)
  · exact ⟨cel3_0 k0, cel3_1 k0, cel3_2 k0⟩
  clear hK K
  try simp only [Act.put, List.getElem_toArray, List.getElem_cons_succ, List.getElem_cons_zero, List.setIfInBounds_toArray, List.set_cons_zero, List.set_cons_succ]
  refine wpAnyH_ready (rs := [14]) (by kernel_rfl) (by simp) ?_
  refine AllReadyH.cons (o := _) rfl (fun K hK => ?_) AllReadyH.nil
  go_simp
  go_fit (HV.out _ ?_)
  · first | exact bb | exact bb.drew
  rintro e wn ⟨rfl, bn⟩
  replace k0 := k0.below ⟨bn.os, bn.tape, bn.output, bn.size, bn.block⟩
  replace bb := Below.after bb ⟨bn.os, bn.tape, bn.output, bn.size, bn.block⟩
  clear bn
  try go_wp2_with fail
  refine hK.out _ _ ?_ (fun hHeld => ?_)
  · exact ⟨cel3_0 k0, cel3_1 k0, cel3_2 k0⟩
  clear hK K
  try simp only [Act.put, List.getElem_toArray, List.getElem_cons_succ, List.getElem_cons_zero, List.setIfInBounds_toArray, List.set_cons_zero, List.set_cons_succ]
  refine wpAnyH_take (i := 15) (oi := _) (v := ?_) rfl (by kernel_rfl) (by kernel_rfl) (by kernel_rfl) (fun _ _ _ h => h) (Or.inl ⟨by rfl, ?_⟩) (by assumption) ?_
  rotate_left
  · (intro w hSw; (try dsimp only at hSw); go_simp; try with_reducible rfl)
  try simp only [Act.put, List.getElem_toArray, List.getElem_cons_succ, List.getElem_cons_zero, List.setIfInBounds_toArray, List.set_cons_zero, List.set_cons_succ]
  refine wpAnyH_take (i := 16) (oi := _) (v := ?_) rfl (by kernel_rfl) (by kernel_rfl) (by kernel_rfl) (fun _ _ _ h => h) (Or.inl ⟨by rfl, ?_⟩) (by assumption) ?_
  rotate_left
  · (intro w hSw; (try dsimp only at hSw); go_simp; try with_reducible rfl)
  try simp only [Act.put, List.getElem_toArray, List.getElem_cons_succ, List.getElem_cons_zero, List.setIfInBounds_toArray, List.set_cons_zero, List.set_cons_succ]
  refine wpAnyH_take (i := 17) (oi := _) (v := ?_) rfl (by kernel_rfl) (by kernel_rfl) (by kernel_rfl) (fun _ _ _ h => h) (Or.inl ⟨by rfl, ?_⟩) (by assumption) ?_
  rotate_left
  · (intro w hSw; (try dsimp only at hSw); go_simp; try with_reducible rfl)
  try simp only [Act.put, List.getElem_toArray, List.getElem_cons_succ, List.getElem_cons_zero, List.setIfInBounds_toArray, List.set_cons_zero, List.set_cons_succ]
  refine wpAnyH_done (by kernel_rfl) ?_ _
  go_wp2
  go_ret
  exact ⟨rfl, bb⟩
set_option maxRecDepth 100000 in
set_option maxHeartbeats 4000000 in
theorem rchk_gcd (n zn : Bool) (s d zs : ByteArray) (w : World) (hd : 0 < d.size) (hd0 : ¬ lm (byts d) 0 = 0)
    (HL : Hid (∀ (B : Nat) (w : World) (_ : Cel w B [.string s, .string d] 22), Calls Tryz.prog 53 #[.slice (some ⟨B, 0, none⟩) 2 2] w fun e w' => e = .returned (.bool false) ∧ Below w.heap.size w w'))
    (HC : Hid (∀ w1, Calls Tryz.prog 54 #[.agg #[.bool n, .string s]] w1 fun e w' => e = .returned (.int .i64 0) ∧ Below w1.heap.size w1 w'))
    (HV : Hid (∀ w1, Below w.heap.size w w1 → Calls Tryz.prog 55 #[.agg #[.bool n, .string s], .agg #[.bool false, .string d]] w1 fun e w' => e = .returned (.agg #[.bool zn, .string zs]) ∧ Below w1.heap.size w1 w'))
    (hz : (zs.toList == [1]) = false) :
    Calls Tryz.prog 21 #[.agg #[.bool n, .string s, .string d]] w fun e w' => e = .returned (.int .i64 1) ∧ Below w.heap.size w w' := by
  have g1 : ¬ ((d[0]).toNat : Int) = 0 := by rw [byts_at d 0 hd]; omega
  have g2 : ¬ d[0] = 0 := fun h => g1 (by rw [h]; rfl)
  have g4 := toList_ne hd
  have g5 : d.toList.isEmpty = false := by simpa using g4
  have g6 : (0 : Int) < d.size := by omega
  clear hd0
  have g7 : (((d[0]).toNat : Int) == 0) = false := by simpa using g1
  have gf := fld1 zn zs
  go_enter Tryz.func21, Tryz.ntmps21
  go_wp2_with fail
  obtain ⟨w0, hw, k0, k1, bb⟩ := mk2 w [.bool n, .string s, .string d] [.string s, .string d] 26 22
  rw [← hw]
  clear hw
  go_fit (HL.out _ w0 k1)
  rintro e w1 ⟨rfl, b1⟩
  replace k0 := k0.below b1
  replace bb := Below.after bb b1
  clear b1 k1
  have c0 := cel3_0 k0
  have c1 := cel3_1 k0
  have c2 := cel3_2 k0
  go_wp2_with fail
  go_fit (HC.out _)
  rintro e w2 ⟨rfl, b1⟩
  replace k0 := k0.below b1
  replace bb := Below.after bb b1
  clear b1 c0 c1 c2
  go_wp2
  refine wp_region_held_drew (S := (fun w' => w'.cell? ⟨w.heap.size, 0, none⟩ = some (.bool n) ∧ w'.cell? ⟨w.heap.size, 1, none⟩ = some (.string s) ∧ w'.cell? ⟨w.heap.size, 2, none⟩ = some (.string d))) (by kernel_rfl) ?_ (fun hHeld => ?_)
  · exact ⟨cel3_0 k0, cel3_1 k0, cel3_2 k0⟩
  refine wpAnyH_take (i := 0) (oi := _) (v := ?_) rfl (by kernel_rfl) (by kernel_rfl) (by kernel_rfl) (fun _ _ _ h => h) (Or.inl ⟨by rfl, ?_⟩) (by assumption) ?_
  rotate_left
  · (intro w hSw; (try dsimp only at hSw); go_simp; try with_reducible rfl)
  try simp only [Act.put, List.getElem_toArray, List.getElem_cons_zero, List.setIfInBounds_toArray, List.set_cons_zero, List.set_cons_succ]
  refine wpAnyH_take (i := 1) (oi := _) (v := ?_) rfl (by kernel_rfl) (by kernel_rfl) (by kernel_rfl) (fun _ _ _ h => h) (Or.inl ⟨by rfl, ?_⟩) (by assumption) ?_
  rotate_left
  · (intro w hSw; (try dsimp only at hSw); go_simp; try with_reducible rfl)
  try simp only [Act.put, List.getElem_toArray, List.getElem_cons_succ, List.getElem_cons_zero, List.setIfInBounds_toArray, List.set_cons_zero, List.set_cons_succ]
  refine wpAnyH_take (i := 2) (oi := _) (v := ?_) rfl (by kernel_rfl) (by kernel_rfl) (by kernel_rfl) (fun _ _ _ h => h) (Or.inl ⟨by rfl, ?_⟩) (by assumption) ?_
  rotate_left
  · (intro w hSw; (try dsimp only at hSw); go_simp; try with_reducible rfl)
  try simp only [Act.put, List.getElem_toArray, List.getElem_cons_succ, List.getElem_cons_zero, List.setIfInBounds_toArray, List.set_cons_zero, List.set_cons_succ]
  refine wpAnyH_take (i := 3) (oi := _) (v := ?_) rfl (by kernel_rfl) (by kernel_rfl) (by kernel_rfl) (fun _ _ _ h => h) (Or.inl ⟨by rfl, ?_⟩) (by assumption) ?_
  rotate_left
  · (intro w hSw; (try dsimp only at hSw); go_simp; try with_reducible rfl)
  try simp only [Act.put, List.getElem_toArray, List.getElem_cons_succ, List.getElem_cons_zero, List.setIfInBounds_toArray, List.set_cons_zero, List.set_cons_succ]
  refine wpAnyH_take (i := 4) (oi := _) (v := ?_) rfl (by kernel_rfl) (by kernel_rfl) (by kernel_rfl) (fun _ _ _ h => h) (Or.inl ⟨by rfl, ?_⟩) (by assumption) ?_
  rotate_left
  · (intro w hSw; (try dsimp only at hSw); go_simp; try with_reducible rfl)
  try simp only [Act.put, List.getElem_toArray, List.getElem_cons_succ, List.getElem_cons_zero, List.setIfInBounds_toArray, List.set_cons_zero, List.set_cons_succ]
  refine wpAnyH_take (i := 5) (oi := _) (v := ?_) rfl (by kernel_rfl) (by kernel_rfl) (by kernel_rfl) (fun _ _ _ h => h) (Or.inl ⟨by rfl, ?_⟩) (by assumption) ?_
  rotate_left
  · (intro w hSw; (try dsimp only at hSw); go_simp; try with_reducible rfl)
  try simp only [Act.put, List.getElem_toArray, List.getElem_cons_succ, List.getElem_cons_zero, List.setIfInBounds_toArray, List.set_cons_zero, List.set_cons_succ]
  refine wpAnyH_take (i := 6) (oi := _) (v := ?_) rfl (by kernel_rfl) (by kernel_rfl) (by kernel_rfl) (fun _ _ _ h => h) (Or.inl ⟨by rfl, ?_⟩) (by assumption) ?_
  rotate_left
  · (intro w hSw; (try dsimp only at hSw); go_simp; try with_reducible rfl)
  try simp only [Act.put, List.getElem_toArray, List.getElem_cons_succ, List.getElem_cons_zero, List.setIfInBounds_toArray, List.set_cons_zero, List.set_cons_succ]
  refine wpAnyH_take (i := 7) (oi := _) (v := ?_) rfl (by kernel_rfl) (by kernel_rfl) (by kernel_rfl) (fun _ _ _ h => h) (Or.inl ⟨by rfl, ?_⟩) (by assumption) ?_
  rotate_left
  · (intro w hSw; (try dsimp only at hSw); go_simp; try with_reducible rfl)
  try simp only [Act.put, List.getElem_toArray, List.getElem_cons_succ, List.getElem_cons_zero, List.setIfInBounds_toArray, List.set_cons_zero, List.set_cons_succ]
  refine wpAnyH_take (i := 8) (oi := _) (v := ?_) rfl (by kernel_rfl) (by kernel_rfl) (by kernel_rfl) (fun _ _ _ h => h) (Or.inl ⟨by rfl, ?_⟩) (by assumption) ?_
  rotate_left
  · (intro w hSw; (try dsimp only at hSw); go_simp; try with_reducible rfl)
  try simp only [Act.put, List.getElem_toArray, List.getElem_cons_succ, List.getElem_cons_zero, List.setIfInBounds_toArray, List.set_cons_zero, List.set_cons_succ]
  refine wpAnyH_take (i := 9) (oi := _) (v := ?_) rfl (by kernel_rfl) (by kernel_rfl) (by kernel_rfl) (fun _ _ _ h => h) (Or.inl ⟨by rfl, ?_⟩) (by assumption) ?_
  rotate_left
  · (intro w hSw; (try dsimp only at hSw); go_simp; try with_reducible rfl)
  try simp only [Act.put, List.getElem_toArray, List.getElem_cons_succ, List.getElem_cons_zero, List.setIfInBounds_toArray, List.set_cons_zero, List.set_cons_succ]
  refine wpAnyH_take (i := 10) (oi := _) (v := ?_) rfl (by kernel_rfl) (by kernel_rfl) (by kernel_rfl) (fun _ _ _ h => h) (Or.inl ⟨by rfl, ?_⟩) (by assumption) ?_
  rotate_left
  · (intro w hSw; (try dsimp only at hSw); go_simp; try with_reducible rfl)
  try simp only [Act.put, List.getElem_toArray, List.getElem_cons_succ, List.getElem_cons_zero, List.setIfInBounds_toArray, List.set_cons_zero, List.set_cons_succ]
  refine wpAnyH_take (i := 11) (oi := _) (v := ?_) rfl (by kernel_rfl) (by kernel_rfl) (by kernel_rfl) (fun _ _ _ h => h) (Or.inl ⟨by rfl, ?_⟩) (by assumption) ?_
  rotate_left
  · (intro w hSw; (try dsimp only at hSw); go_simp; try with_reducible rfl)
  try simp only [Act.put, List.getElem_toArray, List.getElem_cons_succ, List.getElem_cons_zero, List.setIfInBounds_toArray, List.set_cons_zero, List.set_cons_succ]
  refine wpAnyH_take (i := 12) (oi := _) (v := ?_) rfl (by kernel_rfl) (by kernel_rfl) (by kernel_rfl) (fun _ _ _ h => h) (Or.inl ⟨by rfl, ?_⟩) (by assumption) ?_
  rotate_left
  · (intro w hSw; (try dsimp only at hSw); go_simp; try with_reducible rfl)
  try simp only [Act.put, List.getElem_toArray, List.getElem_cons_succ, List.getElem_cons_zero, List.setIfInBounds_toArray, List.set_cons_zero, List.set_cons_succ]
  refine wpAnyH_ready (rs := [13]) (by kernel_rfl) (by simp) ?_
  refine AllReadyH.cons (o := _) rfl (fun K hK => ?_) AllReadyH.nil
  go_simp
  go_fit (den_any _ _ _ _)
  rintro e wn ⟨rfl, bn⟩
  replace k0 := k0.below ⟨bn.os, bn.tape, bn.output, bn.size, bn.block⟩
  replace bb := Below.after bb ⟨bn.os, bn.tape, bn.output, bn.size, bn.block⟩
  clear bn
  try go_wp2_with fail
  refine hK.out _ _ ?_ (fun hHeld => ?_)
  · exact ⟨cel3_0 k0, cel3_1 k0, cel3_2 k0⟩
  clear hK K
  try simp only [Act.put, List.getElem_toArray, List.getElem_cons_succ, List.getElem_cons_zero, List.setIfInBounds_toArray, List.set_cons_zero, List.set_cons_succ]
  refine wpAnyH_ready (rs := [14]) (by kernel_rfl) (by simp) ?_
  refine AllReadyH.cons (o := _) rfl (fun K hK => ?_) AllReadyH.nil
  go_simp
  go_fit (HV.out _ ?_)
  · first | exact bb | exact bb.drew
  rintro e wn ⟨rfl, bn⟩
  replace k0 := k0.below ⟨bn.os, bn.tape, bn.output, bn.size, bn.block⟩
  replace bb := Below.after bb ⟨bn.os, bn.tape, bn.output, bn.size, bn.block⟩
  clear bn
  try go_wp2_with fail
  refine hK.out _ _ ?_ (fun hHeld => ?_)
  · exact ⟨cel3_0 k0, cel3_1 k0, cel3_2 k0⟩
  clear hK K
  try simp only [Act.put, List.getElem_toArray, List.getElem_cons_succ, List.getElem_cons_zero, List.setIfInBounds_toArray, List.set_cons_zero, List.set_cons_succ]
  refine wpAnyH_take (i := 15) (oi := _) (v := ?_) rfl (by kernel_rfl) (by kernel_rfl) (by kernel_rfl) (fun _ _ _ h => h) (Or.inl ⟨by rfl, ?_⟩) (by assumption) ?_
  rotate_left
  · (intro w hSw; (try dsimp only at hSw); go_simp; try with_reducible rfl)
  try simp only [Act.put, List.getElem_toArray, List.getElem_cons_succ, List.getElem_cons_zero, List.setIfInBounds_toArray, List.set_cons_zero, List.set_cons_succ]
  refine wpAnyH_take (i := 16) (oi := _) (v := ?_) rfl (by kernel_rfl) (by kernel_rfl) (by kernel_rfl) (fun _ _ _ h => h) (Or.inl ⟨by rfl, ?_⟩) (by assumption) ?_
  rotate_left
  · (intro w hSw; (try dsimp only at hSw); go_simp; try with_reducible rfl)
  try simp only [Act.put, List.getElem_toArray, List.getElem_cons_succ, List.getElem_cons_zero, List.setIfInBounds_toArray, List.set_cons_zero, List.set_cons_succ]
  refine wpAnyH_take (i := 17) (oi := _) (v := ?_) rfl (by kernel_rfl) (by kernel_rfl) (by kernel_rfl) (fun _ _ _ h => h) (Or.inl ⟨by rfl, ?_⟩) (by assumption) ?_
  rotate_left
  · (intro w hSw; (try dsimp only at hSw); go_simp; try with_reducible rfl)
  try simp only [Act.put, List.getElem_toArray, List.getElem_cons_succ, List.getElem_cons_zero, List.setIfInBounds_toArray, List.set_cons_zero, List.set_cons_succ]
  refine wpAnyH_done (by kernel_rfl) ?_ _
  go_wp2
  go_ret
  exact ⟨rfl, bb⟩
set_option maxRecDepth 100000 in
set_option maxHeartbeats 4000000 in
theorem rchk_empty (n : Bool) (s : ByteArray) (w : World)
    (HL : Hid (∀ (B : Nat) (w : World) (_ : Cel w B [.string s, .string ByteArray.empty] 22), Calls Tryz.prog 53 #[.slice (some ⟨B, 0, none⟩) 2 2] w fun e w' => e = .returned (.bool false) ∧ Below w.heap.size w w'))
    (HC : Hid (∀ w1, Calls Tryz.prog 54 #[.agg #[.bool n, .string s]] w1 fun e w' => e = .returned (.int .i64 0) ∧ Below w1.heap.size w1 w')) :
    Calls Tryz.prog 21 #[.agg #[.bool n, .string s, .string ByteArray.empty]] w fun e w' => e = .returned (.int .i64 1) ∧ Below w.heap.size w w' := by
  go_enter Tryz.func21, Tryz.ntmps21
  go_wp2_with fail
  obtain ⟨w0, hw, k0, k1, bb⟩ := mk2 w [.bool n, .string s, .string ByteArray.empty] [.string s, .string ByteArray.empty] 26 22
  rw [← hw]
  clear hw
  go_fit (HL.out _ w0 k1)
  rintro e w1 ⟨rfl, b1⟩
  replace k0 := k0.below b1
  replace bb := Below.after bb b1
  clear b1 k1
  have c0 := cel3_0 k0
  have c1 := cel3_1 k0
  have c2 := cel3_2 k0
  go_wp2_with fail
  go_fit (HC.out _)
  rintro e w2 ⟨rfl, b1⟩
  replace k0 := k0.below b1
  replace bb := Below.after bb b1
  clear b1 c0 c1 c2
  go_wp2
  refine wp_region_held_drew (S := (fun w' => w'.cell? ⟨w.heap.size, 0, none⟩ = some (.bool n) ∧ w'.cell? ⟨w.heap.size, 1, none⟩ = some (.string s) ∧ w'.cell? ⟨w.heap.size, 2, none⟩ = some (.string ByteArray.empty))) (by kernel_rfl) ?_ (fun hHeld => ?_)
  · exact ⟨cel3_0 k0, cel3_1 k0, cel3_2 k0⟩
  refine wpAnyH_take (i := 0) (oi := _) (v := ?_) rfl (by kernel_rfl) (by kernel_rfl) (by kernel_rfl) (fun _ _ _ h => h) (Or.inl ⟨by rfl, ?_⟩) (by assumption) ?_
  rotate_left
  · (intro w hSw; (try dsimp only at hSw); go_simp; try with_reducible rfl)
  try simp only [Act.put, List.getElem_toArray, List.getElem_cons_zero, List.setIfInBounds_toArray, List.set_cons_zero, List.set_cons_succ]
  refine wpAnyH_take (i := 1) (oi := _) (v := ?_) rfl (by kernel_rfl) (by kernel_rfl) (by kernel_rfl) (fun _ _ _ h => h) (Or.inl ⟨by rfl, ?_⟩) (by assumption) ?_
  rotate_left
  · (intro w hSw; (try dsimp only at hSw); go_simp; try with_reducible rfl)
  try simp only [Act.put, List.getElem_toArray, List.getElem_cons_succ, List.getElem_cons_zero, List.setIfInBounds_toArray, List.set_cons_zero, List.set_cons_succ]
  refine wpAnyH_take (i := 2) (oi := _) (v := ?_) rfl (by kernel_rfl) (by kernel_rfl) (by kernel_rfl) (fun _ _ _ h => h) (Or.inl ⟨by rfl, ?_⟩) (by assumption) ?_
  rotate_left
  · (intro w hSw; (try dsimp only at hSw); go_simp; try with_reducible rfl)
  try simp only [Act.put, List.getElem_toArray, List.getElem_cons_succ, List.getElem_cons_zero, List.setIfInBounds_toArray, List.set_cons_zero, List.set_cons_succ]
  refine wpAnyH_take (i := 3) (oi := _) (v := ?_) rfl (by kernel_rfl) (by kernel_rfl) (by kernel_rfl) (fun _ _ _ h => h) (Or.inl ⟨by rfl, ?_⟩) (by assumption) ?_
  rotate_left
  · (intro w hSw; (try dsimp only at hSw); go_simp; try with_reducible rfl)
  try simp only [Act.put, List.getElem_toArray, List.getElem_cons_succ, List.getElem_cons_zero, List.setIfInBounds_toArray, List.set_cons_zero, List.set_cons_succ]
  refine wpAnyH_take (i := 4) (oi := _) (v := _) rfl (by kernel_rfl) (by kernel_rfl) (by kernel_rfl) (fun _ _ _ h => h) (Or.inr ⟨by rfl, rfl⟩) (by assumption) ?_
  try simp only [Act.put, List.getElem_toArray, List.getElem_cons_succ, List.getElem_cons_zero, List.setIfInBounds_toArray, List.set_cons_zero, List.set_cons_succ]
  refine wpAnyH_take (i := 5) (oi := _) (v := _) rfl (by kernel_rfl) (by kernel_rfl) (by kernel_rfl) (fun _ _ _ h => h) (Or.inr ⟨by rfl, rfl⟩) (by assumption) ?_
  try simp only [Act.put, List.getElem_toArray, List.getElem_cons_succ, List.getElem_cons_zero, List.setIfInBounds_toArray, List.set_cons_zero, List.set_cons_succ]
  refine wpAnyH_take (i := 6) (oi := _) (v := _) rfl (by kernel_rfl) (by kernel_rfl) (by kernel_rfl) (fun _ _ _ h => h) (Or.inr ⟨by rfl, rfl⟩) (by assumption) ?_
  try simp only [Act.put, List.getElem_toArray, List.getElem_cons_succ, List.getElem_cons_zero, List.setIfInBounds_toArray, List.set_cons_zero, List.set_cons_succ]
  refine wpAnyH_take (i := 7) (oi := _) (v := _) rfl (by kernel_rfl) (by kernel_rfl) (by kernel_rfl) (fun _ _ _ h => h) (Or.inr ⟨by rfl, rfl⟩) (by assumption) ?_
  try simp only [Act.put, List.getElem_toArray, List.getElem_cons_succ, List.getElem_cons_zero, List.setIfInBounds_toArray, List.set_cons_zero, List.set_cons_succ]
  refine wpAnyH_take (i := 8) (oi := _) (v := ?_) rfl (by kernel_rfl) (by kernel_rfl) (by kernel_rfl) (fun _ _ _ h => h) (Or.inl ⟨by rfl, ?_⟩) (by assumption) ?_
  rotate_left
  · (intro w hSw; (try dsimp only at hSw); go_simp; try with_reducible rfl)
  try simp only [Act.put, List.getElem_toArray, List.getElem_cons_succ, List.getElem_cons_zero, List.setIfInBounds_toArray, List.set_cons_zero, List.set_cons_succ]
  refine wpAnyH_take (i := 9) (oi := _) (v := ?_) rfl (by kernel_rfl) (by kernel_rfl) (by kernel_rfl) (fun _ _ _ h => h) (Or.inl ⟨by rfl, ?_⟩) (by assumption) ?_
  rotate_left
  · (intro w hSw; (try dsimp only at hSw); go_simp; try with_reducible rfl)
  try simp only [Act.put, List.getElem_toArray, List.getElem_cons_succ, List.getElem_cons_zero, List.setIfInBounds_toArray, List.set_cons_zero, List.set_cons_succ]
  refine wpAnyH_take (i := 10) (oi := _) (v := _) rfl (by kernel_rfl) (by kernel_rfl) (by kernel_rfl) (fun _ _ _ h => h) (Or.inr ⟨by rfl, rfl⟩) (by assumption) ?_
  try simp only [Act.put, List.getElem_toArray, List.getElem_cons_succ, List.getElem_cons_zero, List.setIfInBounds_toArray, List.set_cons_zero, List.set_cons_succ]
  refine wpAnyH_take (i := 11) (oi := _) (v := _) rfl (by kernel_rfl) (by kernel_rfl) (by kernel_rfl) (fun _ _ _ h => h) (Or.inr ⟨by rfl, rfl⟩) (by assumption) ?_
  try simp only [Act.put, List.getElem_toArray, List.getElem_cons_succ, List.getElem_cons_zero, List.setIfInBounds_toArray, List.set_cons_zero, List.set_cons_succ]
  refine wpAnyH_take (i := 12) (oi := _) (v := _) rfl (by kernel_rfl) (by kernel_rfl) (by kernel_rfl) (fun _ _ _ h => h) (Or.inr ⟨by rfl, rfl⟩) (by assumption) ?_
  try simp only [Act.put, List.getElem_toArray, List.getElem_cons_succ, List.getElem_cons_zero, List.setIfInBounds_toArray, List.set_cons_zero, List.set_cons_succ]
  refine wpAnyH_take (i := 13) (oi := _) (v := _) rfl (by kernel_rfl) (by kernel_rfl) (by kernel_rfl) (fun _ _ _ h => h) (Or.inr ⟨by rfl, rfl⟩) (by assumption) ?_
  try simp only [Act.put, List.getElem_toArray, List.getElem_cons_succ, List.getElem_cons_zero, List.setIfInBounds_toArray, List.set_cons_zero, List.set_cons_succ]
  refine wpAnyH_take (i := 14) (oi := _) (v := _) rfl (by kernel_rfl) (by kernel_rfl) (by kernel_rfl) (fun _ _ _ h => h) (Or.inr ⟨by rfl, rfl⟩) (by assumption) ?_
  try simp only [Act.put, List.getElem_toArray, List.getElem_cons_succ, List.getElem_cons_zero, List.setIfInBounds_toArray, List.set_cons_zero, List.set_cons_succ]
  refine wpAnyH_take (i := 15) (oi := _) (v := _) rfl (by kernel_rfl) (by kernel_rfl) (by kernel_rfl) (fun _ _ _ h => h) (Or.inr ⟨by rfl, rfl⟩) (by assumption) ?_
  try simp only [Act.put, List.getElem_toArray, List.getElem_cons_succ, List.getElem_cons_zero, List.setIfInBounds_toArray, List.set_cons_zero, List.set_cons_succ]
  refine wpAnyH_take (i := 16) (oi := _) (v := _) rfl (by kernel_rfl) (by kernel_rfl) (by kernel_rfl) (fun _ _ _ h => h) (Or.inr ⟨by rfl, rfl⟩) (by assumption) ?_
  try simp only [Act.put, List.getElem_toArray, List.getElem_cons_succ, List.getElem_cons_zero, List.setIfInBounds_toArray, List.set_cons_zero, List.set_cons_succ]
  refine wpAnyH_take (i := 17) (oi := _) (v := ?_) rfl (by kernel_rfl) (by kernel_rfl) (by kernel_rfl) (fun _ _ _ h => h) (Or.inl ⟨by rfl, ?_⟩) (by assumption) ?_
  rotate_left
  · (intro w hSw; (try dsimp only at hSw); go_simp; try with_reducible rfl)
  try simp only [Act.put, List.getElem_toArray, List.getElem_cons_succ, List.getElem_cons_zero, List.setIfInBounds_toArray, List.set_cons_zero, List.set_cons_succ]
  refine wpAnyH_done (by kernel_rfl) ?_ _
  go_wp2
  go_ret
  exact ⟨rfl, bb.drew⟩
set_option maxRecDepth 100000 in
set_option maxHeartbeats 4000000 in
theorem rchk_zero (n : Bool) (s d : ByteArray) (w : World) (hd : 0 < d.size) (hd0 : lm (byts d) 0 = 0)
    (HL : Hid (∀ (B : Nat) (w : World) (_ : Cel w B [.string s, .string d] 22), Calls Tryz.prog 53 #[.slice (some ⟨B, 0, none⟩) 2 2] w fun e w' => e = .returned (.bool false) ∧ Below w.heap.size w w'))
    (HC : Hid (∀ w1, Calls Tryz.prog 54 #[.agg #[.bool n, .string s]] w1 fun e w' => e = .returned (.int .i64 0) ∧ Below w1.heap.size w1 w')) :
    Calls Tryz.prog 21 #[.agg #[.bool n, .string s, .string d]] w fun e w' => e = .returned (.int .i64 1) ∧ Below w.heap.size w w' := by
  have g1 : ((d[0]).toNat : Int) = 0 := by rw [byts_at d 0 hd, hd0]; rfl
  have g3 : (d[0]).toNat = 0 := by omega
  have g2 : d[0] = 0 := UInt8.toNat.inj g3
  have g4 := toList_ne hd
  have g5 : d.toList.isEmpty = false := by simpa using g4
  have g6 : (0 : Int) < d.size := by omega
  clear hd0
  have g7 : (((d[0]).toNat : Int) == 0) = true := by simpa using g1
  go_enter Tryz.func21, Tryz.ntmps21
  go_wp2_with fail
  obtain ⟨w0, hw, k0, k1, bb⟩ := mk2 w [.bool n, .string s, .string d] [.string s, .string d] 26 22
  rw [← hw]
  clear hw
  go_fit (HL.out _ w0 k1)
  rintro e w1 ⟨rfl, b1⟩
  replace k0 := k0.below b1
  replace bb := Below.after bb b1
  clear b1 k1
  have c0 := cel3_0 k0
  have c1 := cel3_1 k0
  have c2 := cel3_2 k0
  go_wp2_with fail
  go_fit (HC.out _)
  rintro e w2 ⟨rfl, b1⟩
  replace k0 := k0.below b1
  replace bb := Below.after bb b1
  clear b1 c0 c1 c2
  go_wp2
  refine wp_region_held_drew (S := (fun w' => w'.cell? ⟨w.heap.size, 0, none⟩ = some (.bool n) ∧ w'.cell? ⟨w.heap.size, 1, none⟩ = some (.string s) ∧ w'.cell? ⟨w.heap.size, 2, none⟩ = some (.string d))) (by kernel_rfl) ?_ (fun hHeld => ?_)
  · exact ⟨cel3_0 k0, cel3_1 k0, cel3_2 k0⟩
  refine wpAnyH_take (i := 0) (oi := _) (v := ?_) rfl (by kernel_rfl) (by kernel_rfl) (by kernel_rfl) (fun _ _ _ h => h) (Or.inl ⟨by rfl, ?_⟩) (by assumption) ?_
  rotate_left
  · (intro w hSw; (try dsimp only at hSw); go_simp; try with_reducible rfl)
  try simp only [Act.put, List.getElem_toArray, List.getElem_cons_zero, List.setIfInBounds_toArray, List.set_cons_zero, List.set_cons_succ]
  refine wpAnyH_take (i := 1) (oi := _) (v := ?_) rfl (by kernel_rfl) (by kernel_rfl) (by kernel_rfl) (fun _ _ _ h => h) (Or.inl ⟨by rfl, ?_⟩) (by assumption) ?_
  rotate_left
  · (intro w hSw; (try dsimp only at hSw); go_simp; try with_reducible rfl)
  try simp only [Act.put, List.getElem_toArray, List.getElem_cons_succ, List.getElem_cons_zero, List.setIfInBounds_toArray, List.set_cons_zero, List.set_cons_succ]
  refine wpAnyH_take (i := 2) (oi := _) (v := ?_) rfl (by kernel_rfl) (by kernel_rfl) (by kernel_rfl) (fun _ _ _ h => h) (Or.inl ⟨by rfl, ?_⟩) (by assumption) ?_
  rotate_left
  · (intro w hSw; (try dsimp only at hSw); go_simp; try with_reducible rfl)
  try simp only [Act.put, List.getElem_toArray, List.getElem_cons_succ, List.getElem_cons_zero, List.setIfInBounds_toArray, List.set_cons_zero, List.set_cons_succ]
  refine wpAnyH_take (i := 3) (oi := _) (v := ?_) rfl (by kernel_rfl) (by kernel_rfl) (by kernel_rfl) (fun _ _ _ h => h) (Or.inl ⟨by rfl, ?_⟩) (by assumption) ?_
  rotate_left
  · (intro w hSw; (try dsimp only at hSw); go_simp; try with_reducible rfl)
  try simp only [Act.put, List.getElem_toArray, List.getElem_cons_succ, List.getElem_cons_zero, List.setIfInBounds_toArray, List.set_cons_zero, List.set_cons_succ]
  refine wpAnyH_take (i := 4) (oi := _) (v := ?_) rfl (by kernel_rfl) (by kernel_rfl) (by kernel_rfl) (fun _ _ _ h => h) (Or.inl ⟨by rfl, ?_⟩) (by assumption) ?_
  rotate_left
  · (intro w hSw; (try dsimp only at hSw); go_simp; try with_reducible rfl)
  try simp only [Act.put, List.getElem_toArray, List.getElem_cons_succ, List.getElem_cons_zero, List.setIfInBounds_toArray, List.set_cons_zero, List.set_cons_succ]
  refine wpAnyH_take (i := 5) (oi := _) (v := ?_) rfl (by kernel_rfl) (by kernel_rfl) (by kernel_rfl) (fun _ _ _ h => h) (Or.inl ⟨by rfl, ?_⟩) (by assumption) ?_
  rotate_left
  · (intro w hSw; (try dsimp only at hSw); go_simp; try with_reducible rfl)
  try simp only [Act.put, List.getElem_toArray, List.getElem_cons_succ, List.getElem_cons_zero, List.setIfInBounds_toArray, List.set_cons_zero, List.set_cons_succ]
  refine wpAnyH_take (i := 6) (oi := _) (v := ?_) rfl (by kernel_rfl) (by kernel_rfl) (by kernel_rfl) (fun _ _ _ h => h) (Or.inl ⟨by rfl, ?_⟩) (by assumption) ?_
  rotate_left
  · (intro w hSw; (try dsimp only at hSw); go_simp; try with_reducible rfl)
  try simp only [Act.put, List.getElem_toArray, List.getElem_cons_succ, List.getElem_cons_zero, List.setIfInBounds_toArray, List.set_cons_zero, List.set_cons_succ]
  refine wpAnyH_take (i := 7) (oi := _) (v := ?_) rfl (by kernel_rfl) (by kernel_rfl) (by kernel_rfl) (fun _ _ _ h => h) (Or.inl ⟨by rfl, ?_⟩) (by assumption) ?_
  rotate_left
  · (intro w hSw; (try dsimp only at hSw); go_simp; try with_reducible rfl)
  try simp only [Act.put, List.getElem_toArray, List.getElem_cons_succ, List.getElem_cons_zero, List.setIfInBounds_toArray, List.set_cons_zero, List.set_cons_succ]
  refine wpAnyH_take (i := 8) (oi := _) (v := ?_) rfl (by kernel_rfl) (by kernel_rfl) (by kernel_rfl) (fun _ _ _ h => h) (Or.inl ⟨by rfl, ?_⟩) (by assumption) ?_
  rotate_left
  · (intro w hSw; (try dsimp only at hSw); go_simp; try with_reducible rfl)
  try simp only [Act.put, List.getElem_toArray, List.getElem_cons_succ, List.getElem_cons_zero, List.setIfInBounds_toArray, List.set_cons_zero, List.set_cons_succ]
  refine wpAnyH_take (i := 9) (oi := _) (v := ?_) rfl (by kernel_rfl) (by kernel_rfl) (by kernel_rfl) (fun _ _ _ h => h) (Or.inl ⟨by rfl, ?_⟩) (by assumption) ?_
  rotate_left
  · (intro w hSw; (try dsimp only at hSw); go_simp; try with_reducible rfl)
  try simp only [Act.put, List.getElem_toArray, List.getElem_cons_succ, List.getElem_cons_zero, List.setIfInBounds_toArray, List.set_cons_zero, List.set_cons_succ]
  refine wpAnyH_take (i := 10) (oi := _) (v := _) rfl (by kernel_rfl) (by kernel_rfl) (by kernel_rfl) (fun _ _ _ h => h) (Or.inr ⟨by rfl, rfl⟩) (by assumption) ?_
  try simp only [Act.put, List.getElem_toArray, List.getElem_cons_succ, List.getElem_cons_zero, List.setIfInBounds_toArray, List.set_cons_zero, List.set_cons_succ]
  refine wpAnyH_take (i := 11) (oi := _) (v := _) rfl (by kernel_rfl) (by kernel_rfl) (by kernel_rfl) (fun _ _ _ h => h) (Or.inr ⟨by rfl, rfl⟩) (by assumption) ?_
  try simp only [Act.put, List.getElem_toArray, List.getElem_cons_succ, List.getElem_cons_zero, List.setIfInBounds_toArray, List.set_cons_zero, List.set_cons_succ]
  refine wpAnyH_take (i := 12) (oi := _) (v := _) rfl (by kernel_rfl) (by kernel_rfl) (by kernel_rfl) (fun _ _ _ h => h) (Or.inr ⟨by rfl, rfl⟩) (by assumption) ?_
  try simp only [Act.put, List.getElem_toArray, List.getElem_cons_succ, List.getElem_cons_zero, List.setIfInBounds_toArray, List.set_cons_zero, List.set_cons_succ]
  refine wpAnyH_take (i := 13) (oi := _) (v := _) rfl (by kernel_rfl) (by kernel_rfl) (by kernel_rfl) (fun _ _ _ h => h) (Or.inr ⟨by rfl, rfl⟩) (by assumption) ?_
  try simp only [Act.put, List.getElem_toArray, List.getElem_cons_succ, List.getElem_cons_zero, List.setIfInBounds_toArray, List.set_cons_zero, List.set_cons_succ]
  refine wpAnyH_take (i := 14) (oi := _) (v := _) rfl (by kernel_rfl) (by kernel_rfl) (by kernel_rfl) (fun _ _ _ h => h) (Or.inr ⟨by rfl, rfl⟩) (by assumption) ?_
  try simp only [Act.put, List.getElem_toArray, List.getElem_cons_succ, List.getElem_cons_zero, List.setIfInBounds_toArray, List.set_cons_zero, List.set_cons_succ]
  refine wpAnyH_take (i := 15) (oi := _) (v := _) rfl (by kernel_rfl) (by kernel_rfl) (by kernel_rfl) (fun _ _ _ h => h) (Or.inr ⟨by rfl, rfl⟩) (by assumption) ?_
  try simp only [Act.put, List.getElem_toArray, List.getElem_cons_succ, List.getElem_cons_zero, List.setIfInBounds_toArray, List.set_cons_zero, List.set_cons_succ]
  refine wpAnyH_take (i := 16) (oi := _) (v := _) rfl (by kernel_rfl) (by kernel_rfl) (by kernel_rfl) (fun _ _ _ h => h) (Or.inr ⟨by rfl, rfl⟩) (by assumption) ?_
  try simp only [Act.put, List.getElem_toArray, List.getElem_cons_succ, List.getElem_cons_zero, List.setIfInBounds_toArray, List.set_cons_zero, List.set_cons_succ]
  refine wpAnyH_take (i := 17) (oi := _) (v := ?_) rfl (by kernel_rfl) (by kernel_rfl) (by kernel_rfl) (fun _ _ _ h => h) (Or.inl ⟨by rfl, ?_⟩) (by assumption) ?_
  rotate_left
  · (intro w hSw; (try dsimp only at hSw); go_simp; try with_reducible rfl)
  try simp only [Act.put, List.getElem_toArray, List.getElem_cons_succ, List.getElem_cons_zero, List.setIfInBounds_toArray, List.set_cons_zero, List.set_cons_succ]
  refine wpAnyH_done (by kernel_rfl) ?_ _
  go_wp2
  go_ret
  exact ⟨rfl, bb.drew⟩
/-- Check, of any number. -/
theorem rchk_any (n : Bool) (s d : ByteArray) (w : World) (hT : Tab w) :
    Calls Tryz.prog 21 #[.agg #[.bool n, .string s, .string d]] w fun e w' => e = .returned (.int .i64 (chkq n s d : Nat)) ∧ Below w.heap.size w w' := by
  obtain ⟨t, ht, hL⟩ := tooLong_any s d
  by_cases hl : 8000 < s.size ∨ 8000 < d.size
  · obtain rfl := ht.2 hl
    rw [show chkq n s d = 5 by unfold chkq; rw [if_pos hl]]
    exact rchk_long n s d w (shut hL)
  · obtain rfl : t = false := by
      cases t with
      | false => rfl
      | true => exact absurd (ht.1 rfl) hl
    have hs : s.size ≤ 8000 := by omega
    have hdl : d.size ≤ 8000 := by omega
    by_cases hc : chk n s = 0
    · have HC : Hid (∀ w1, Calls Tryz.prog 54 #[.agg #[.bool n, .string s]] w1 fun e w' => e = .returned (.int .i64 0) ∧ Below w1.heap.size w1 w') := by
        intro w1
        have := check_any n s w1
        rw [hc] at this
        exact this
      have o := (chk_ok (by omega)).1 hc
      by_cases hd : 0 < d.size
      · by_cases h0 : lm (byts d) 0 = 0
        · rw [show chkq n s d = 1 by unfold chkq; rw [if_neg hl, if_pos (Or.inr (Or.inr (Or.inl h0)))]]
          exact rchk_zero n s d w hd h0 (shut hL) HC
        · have od : OkS d := fun _ => h0
          have HV : Hid (∀ w1, Below w.heap.size w w1 → Calls Tryz.prog 55 #[.agg #[.bool n, .string s], .agg #[.bool false, .string d]] w1 fun e w' => e = .returned (zI ((Nat.gcd (natOf s) (natOf d) : Nat) : Int)) ∧ Below w1.heap.size w1 w') :=
            fun w1 b => divisor_ok n false s d w1 o ⟨od, fun h => by cases h⟩ (by omega) (by omega) (hT.below b)
          have e : zI ((Nat.gcd (natOf s) (natOf d) : Nat) : Int) = .agg #[.bool false, .string (strOf (Nat.gcd (natOf s) (natOf d)))] := by
            show zV _ _ = _
            rw [Int.natAbs_natCast, show decide ((((Nat.gcd (natOf s) (natOf d) : Nat)) : Int) < 0) = false by simp]
            rfl
          rw [e] at HV
          by_cases hg : Nat.gcd (natOf s) (natOf d) = 1
          · rw [chkq_ok ⟨o, od, natOf_pos od hd, hg⟩ hs hdl]
            exact rchk_ok n _ s d _ w hd h0 (shut hL) HC HV (eq1 (by rw [hg, strOf_one]))
          · rw [show chkq n s d = 1 by unfold chkq; rw [if_neg hl, if_pos (Or.inr (Or.inr (Or.inr hg)))]]
            exact rchk_gcd n _ s d _ w hd h0 (shut hL) HC HV (ne1 fun h => hg (by
              have := natOf_strOf (Nat.gcd (natOf s) (natOf d))
              rw [h, natOf_one] at this
              exact this.symm))
      · have g3 : d = ByteArray.empty := ByteArray.size_eq_zero_iff.1 (by omega)
        subst g3
        rw [show chkq n s ByteArray.empty = 1 by unfold chkq; rw [if_neg hl, if_pos (Or.inr (Or.inl (show ByteArray.empty.size = 0 from rfl)))]]
        exact rchk_empty n s w (shut hL) HC
    · have h1 : chk n s = 1 := by
        unfold chk at hc ⊢
        rw [if_neg (by omega)] at hc ⊢
        split at hc
        · rw [if_pos (by assumption)]
        · exact absurd rfl hc
      have HC : Hid (∀ w1, Calls Tryz.prog 54 #[.agg #[.bool n, .string s]] w1 fun e w' => e = .returned (.int .i64 1) ∧ Below w1.heap.size w1 w') := by
        intro w1
        have := check_any n s w1
        rw [h1] at this
        exact this
      rw [show chkq n s d = 1 by unfold chkq; rw [if_neg hl, if_pos (Or.inl hc)]]
      exact rchk_num n s d w 1 (by omega) (shut hL) HC
end Go.Proofs.YtlihcbeacjimkaaGreatDoor
namespace Go.Proofs.YtlihcbeacjimkaaGreatDoor
open Go.RowKit

/-- What check tells of two. -/
def twoq (n0 : Bool) (s0 d0 : ByteArray) (n1 : Bool) (s1 d1 : ByteArray) : Nat := if chkq n0 s0 d0 = 0 then chkq n1 s1 d1 else chkq n0 s0 d0
theorem twoq_zero {n0 n1 : Bool} {s0 d0 s1 d1 : ByteArray} : twoq n0 s0 d0 n1 s1 d1 = 0 ↔ chkq n0 s0 d0 = 0 ∧ chkq n1 s1 d1 = 0 := by
  unfold twoq
  by_cases h : chkq n0 s0 d0 = 0
  · rw [if_pos h]; exact ⟨fun e => ⟨h, e⟩, fun e => e.2⟩
  · rw [if_neg h]; exact ⟨fun e => absurd e h, fun e => absurd e.1 h⟩

set_option maxRecDepth 100000 in
set_option maxHeartbeats 2000000 in
theorem check2_ok (B : Nat) (n0 n1 : Bool) (s0 d0 s1 d1 : ByteArray) (w : World) (hB : Cel w B [.bool n0, .string s0, .string d0, .bool n1, .string s1, .string d1] 26)
    (H0 : Hid (∀ w1, Below w.heap.size w w1 → Calls Tryz.prog 21 #[.agg #[.bool n0, .string s0, .string d0]] w1 fun e w' => e = .returned (.int .i64 0) ∧ Below w1.heap.size w1 w'))
    (H1 : Hid (∀ w1, Below w.heap.size w w1 → Calls Tryz.prog 21 #[.agg #[.bool n1, .string s1, .string d1]] w1 fun e w' => e = .returned (.int .i64 0) ∧ Below w1.heap.size w1 w')) :
    Calls Tryz.prog 36 #[.slice (some ⟨B, 0, none⟩) 2 2] w fun e w' => e = .returned (.int .i64 0) ∧ Below w.heap.size w w' := by
  go_enter Tryz.func36, Tryz.ntmps36
  go_wp2
  go_loopw [8] (fun i wr => Below w.heap.size w wr ∧ (i = .int .i64 0 ∨ i = .int .i64 1 ∨ i = .int .i64 2)) (fun i _ => 2 - (intOf i).toNat)
  case atStart => exact ⟨Below.refl _ _, Or.inl rfl⟩
  case round =>
    obtain ⟨hbel, hi⟩ := hrel
    have kB := hB.below hbel
    have c0 := kB.cell 0
    have c1 := kB.cell 1
    have c2 := kB.cell 2
    have c3 := kB.cell 3
    have c4 := kB.cell 4
    have c5 := kB.cell 5
    simp only [List.getElem?_cons_zero, List.getElem?_cons_succ] at c0 c1 c2 c3 c4 c5
    clear kB
    rcases hi with rfl | rfl | rfl
    · go_wp2_with fail
      go_fit (H0.out _ (ba hbel _))
      rintro e w1 ⟨rfl, b1⟩
      obtain ⟨-, b1⟩ := al1 b1
      replace hbel := Below.after hbel b1
      clear b1 c0 c1 c2 c3 c4 c5
      go_wp2
      exact ⟨⟨hbel, Or.inr (Or.inl (by go_num))⟩, by simp [intOf]⟩
    · go_wp2_with fail
      go_fit (H1.out _ (ba hbel _))
      rintro e w1 ⟨rfl, b1⟩
      obtain ⟨-, b1⟩ := al1 b1
      replace hbel := Below.after hbel b1
      clear b1 c0 c1 c2 c3 c4 c5
      go_wp2
      exact ⟨⟨hbel, Or.inr (Or.inr (by go_num))⟩, by simp [intOf]⟩
    · go_wp2
      go_ret
      exact ⟨rfl, hbel⟩
set_option maxRecDepth 100000 in
set_option maxHeartbeats 2000000 in
theorem check2_bad1 (B : Nat) (n0 n1 : Bool) (s0 d0 s1 d1 : ByteArray) (w : World) (c : Int) (hc : ¬ c = 0) (hB : Cel w B [.bool n0, .string s0, .string d0, .bool n1, .string s1, .string d1] 26)
    (H0 : Hid (∀ w1, Below w.heap.size w w1 → Calls Tryz.prog 21 #[.agg #[.bool n0, .string s0, .string d0]] w1 fun e w' => e = .returned (.int .i64 c) ∧ Below w1.heap.size w1 w')) :
    Calls Tryz.prog 36 #[.slice (some ⟨B, 0, none⟩) 2 2] w fun e w' => e = .returned (.int .i64 c) ∧ Below w.heap.size w w' := by
  go_enter Tryz.func36, Tryz.ntmps36
  go_wp2
  go_loopw [8] (fun i wr => Below w.heap.size w wr ∧ (i = .int .i64 0)) (fun i _ => 2 - (intOf i).toNat)
  case atStart => exact ⟨Below.refl _ _, rfl⟩
  case round =>
    obtain ⟨hbel, hi⟩ := hrel
    have kB := hB.below hbel
    have c0 := kB.cell 0
    have c1 := kB.cell 1
    have c2 := kB.cell 2
    have c3 := kB.cell 3
    have c4 := kB.cell 4
    have c5 := kB.cell 5
    simp only [List.getElem?_cons_zero, List.getElem?_cons_succ] at c0 c1 c2 c3 c4 c5
    clear kB
    subst hi
    · go_wp2_with fail
      go_fit (H0.out _ (ba hbel _))
      rintro e w1 ⟨rfl, b1⟩
      obtain ⟨-, b1⟩ := al1 b1
      replace hbel := Below.after hbel b1
      clear b1 c0 c1 c2 c3 c4 c5
      go_wp2
      go_ret
      exact ⟨rfl, hbel⟩
set_option maxRecDepth 100000 in
set_option maxHeartbeats 2000000 in
theorem check2_bad2 (B : Nat) (n0 n1 : Bool) (s0 d0 s1 d1 : ByteArray) (w : World) (c : Int) (hc : ¬ c = 0) (hB : Cel w B [.bool n0, .string s0, .string d0, .bool n1, .string s1, .string d1] 26)
    (H0 : Hid (∀ w1, Below w.heap.size w w1 → Calls Tryz.prog 21 #[.agg #[.bool n0, .string s0, .string d0]] w1 fun e w' => e = .returned (.int .i64 0) ∧ Below w1.heap.size w1 w'))
    (H1 : Hid (∀ w1, Below w.heap.size w w1 → Calls Tryz.prog 21 #[.agg #[.bool n1, .string s1, .string d1]] w1 fun e w' => e = .returned (.int .i64 c) ∧ Below w1.heap.size w1 w')) :
    Calls Tryz.prog 36 #[.slice (some ⟨B, 0, none⟩) 2 2] w fun e w' => e = .returned (.int .i64 c) ∧ Below w.heap.size w w' := by
  go_enter Tryz.func36, Tryz.ntmps36
  go_wp2
  go_loopw [8] (fun i wr => Below w.heap.size w wr ∧ (i = .int .i64 0 ∨ i = .int .i64 1)) (fun i _ => 2 - (intOf i).toNat)
  case atStart => exact ⟨Below.refl _ _, Or.inl rfl⟩
  case round =>
    obtain ⟨hbel, hi⟩ := hrel
    have kB := hB.below hbel
    have c0 := kB.cell 0
    have c1 := kB.cell 1
    have c2 := kB.cell 2
    have c3 := kB.cell 3
    have c4 := kB.cell 4
    have c5 := kB.cell 5
    simp only [List.getElem?_cons_zero, List.getElem?_cons_succ] at c0 c1 c2 c3 c4 c5
    clear kB
    rcases hi with rfl | rfl
    · go_wp2_with fail
      go_fit (H0.out _ (ba hbel _))
      rintro e w1 ⟨rfl, b1⟩
      obtain ⟨-, b1⟩ := al1 b1
      replace hbel := Below.after hbel b1
      clear b1 c0 c1 c2 c3 c4 c5
      go_wp2
      exact ⟨⟨hbel, Or.inr (by go_num)⟩, by simp [intOf]⟩
    · go_wp2_with fail
      go_fit (H1.out _ (ba hbel _))
      rintro e w1 ⟨rfl, b1⟩
      obtain ⟨-, b1⟩ := al1 b1
      replace hbel := Below.after hbel b1
      clear b1 c0 c1 c2 c3 c4 c5
      go_wp2
      go_ret
      exact ⟨rfl, hbel⟩
theorem check2_any (B : Nat) (n0 n1 : Bool) (s0 d0 s1 d1 : ByteArray) (w : World) (hT : Tab w) (hB : Cel w B [.bool n0, .string s0, .string d0, .bool n1, .string s1, .string d1] 26) :
    Calls Tryz.prog 36 #[.slice (some ⟨B, 0, none⟩) 2 2] w fun e w' => e = .returned (.int .i64 (twoq n0 s0 d0 n1 s1 d1 : Nat)) ∧ Below w.heap.size w w' := by
  have h0 : Hid (∀ w1, Below w.heap.size w w1 → Calls Tryz.prog 21 #[.agg #[.bool n0, .string s0, .string d0]] w1 fun e w' => e = .returned (.int .i64 (chkq n0 s0 d0 : Nat)) ∧ Below w1.heap.size w1 w') := fun w1 b => rchk_any n0 s0 d0 w1 (hT.below b)
  have h1 : Hid (∀ w1, Below w.heap.size w w1 → Calls Tryz.prog 21 #[.agg #[.bool n1, .string s1, .string d1]] w1 fun e w' => e = .returned (.int .i64 (chkq n1 s1 d1 : Nat)) ∧ Below w1.heap.size w1 w') := fun w1 b => rchk_any n1 s1 d1 w1 (hT.below b)
  by_cases e0 : chkq n0 s0 d0 = 0
  · rw [e0] at h0
    rw [show twoq n0 s0 d0 n1 s1 d1 = chkq n1 s1 d1 by unfold twoq; rw [if_pos e0]]
    by_cases e1 : chkq n1 s1 d1 = 0
    · rw [e1] at h1 ⊢
      exact check2_ok B n0 n1 s0 d0 s1 d1 w hB h0 h1
    · exact check2_bad2 B n0 n1 s0 d0 s1 d1 w _ (by omega) hB h0 h1
  · rw [show twoq n0 s0 d0 n1 s1 d1 = chkq n0 s0 d0 by unfold twoq; rw [if_neg e0]]
    exact check2_bad1 B n0 n1 s0 d0 s1 d1 w _ (by omega) hB h0
end Go.Proofs.YtlihcbeacjimkaaGreatDoor
namespace Go.Proofs.YtlihcbeacjimkaaGreatDoor
open Go.RowKit

set_option maxRecDepth 100000 in
set_option maxHeartbeats 8000000 in
theorem sum_walk (n0 n1 gN aN bN xN yN zN cN pN qN rN : Bool) (s0 d0 s1 d1 gS aS bS xS yS zS cS pS qS rS : ByteArray) (w : World)
    (H1 : Hid (∀ w1, Below w.heap.size w w1 → Calls Tryz.prog 55 #[.agg #[.bool false, .string d0], .agg #[.bool false, .string d1]] w1 fun e w' => e = .returned (.agg #[.bool gN, .string gS]) ∧ Below w1.heap.size w1 w'))
    (H2 : Hid (∀ w1, Calls Tryz.prog 56 #[.agg #[.bool false, .string d0], .agg #[.bool gN, .string gS]] w1 fun e w' => e = .returned (.agg #[.bool aN, .string aS]) ∧ Below w1.heap.size w1 w'))
    (H3 : Hid (∀ w1, Calls Tryz.prog 56 #[.agg #[.bool false, .string d1], .agg #[.bool gN, .string gS]] w1 fun e w' => e = .returned (.agg #[.bool bN, .string bS]) ∧ Below w1.heap.size w1 w'))
    (H4 : Hid (∀ w1, Calls Tryz.prog 38 #[.agg #[.bool n0, .string s0], .agg #[.bool bN, .string bS]] w1 fun e w' => e = .returned (.agg #[.bool xN, .string xS]) ∧ Below w1.heap.size w1 w'))
    (H5 : Hid (∀ w1, Calls Tryz.prog 38 #[.agg #[.bool n1, .string s1], .agg #[.bool aN, .string aS]] w1 fun e w' => e = .returned (.agg #[.bool yN, .string yS]) ∧ Below w1.heap.size w1 w'))
    (H6 : Hid (∀ w1, Calls Tryz.prog 70 #[.agg #[.bool xN, .string xS], .agg #[.bool yN, .string yS]] w1 fun e w' => e = .returned (.agg #[.bool zN, .string zS]) ∧ Below w1.heap.size w1 w'))
    (H7 : Hid (∀ w1, Below w.heap.size w w1 → Calls Tryz.prog 55 #[.agg #[.bool zN, .string zS], .agg #[.bool gN, .string gS]] w1 fun e w' => e = .returned (.agg #[.bool cN, .string cS]) ∧ Below w1.heap.size w1 w'))
    (H8 : Hid (∀ w1, Calls Tryz.prog 56 #[.agg #[.bool zN, .string zS], .agg #[.bool cN, .string cS]] w1 fun e w' => e = .returned (.agg #[.bool pN, .string pS]) ∧ Below w1.heap.size w1 w'))
    (H9 : Hid (∀ w1, Calls Tryz.prog 56 #[.agg #[.bool false, .string d1], .agg #[.bool cN, .string cS]] w1 fun e w' => e = .returned (.agg #[.bool qN, .string qS]) ∧ Below w1.heap.size w1 w'))
    (H10 : Hid (∀ w1, Calls Tryz.prog 38 #[.agg #[.bool aN, .string aS], .agg #[.bool qN, .string qS]] w1 fun e w' => e = .returned (.agg #[.bool rN, .string rS]) ∧ Below w1.heap.size w1 w')) :
    Calls Tryz.prog 41 #[.agg #[.bool n0, .string s0, .string d0], .agg #[.bool n1, .string s1, .string d1]] w fun e w' => e = .returned (.tuple #[.agg #[.bool pN, .string pS, .string rS], .int .i64 0]) ∧ Below w.heap.size w w' := by
  go_enter Tryz.func41, Tryz.ntmps41
  go_wp2_with fail
  obtain ⟨w1, hw, ka, kb, kr, b1⟩ := mk3 w [.bool n0, .string s0, .string d0] [.bool n1, .string s1, .string d1] [.bool false, .string { data := #[] }, .string { data := #[] }] 26 26 26
  rw [← hw]
  clear hw
  have sz := b1.size
  have ta := ka.lt
  have tb := kb.lt
  have tr := kr.lt
  have bb := b1
  clear b1
  have mkS : ∀ w', Below w1.heap.size w1 w' → (Below w1.heap.size w1 w' ∧ w'.cell? ⟨w.heap.size, 0, none⟩ = some (.bool n0) ∧ w'.cell? ⟨w.heap.size, 1, none⟩ = some (.string s0) ∧ w'.cell? ⟨w.heap.size, 2, none⟩ = some (.string d0) ∧ w'.cell? ⟨w.heap.size + 1, 0, none⟩ = some (.bool n1) ∧ w'.cell? ⟨w.heap.size + 1, 1, none⟩ = some (.string s1) ∧ w'.cell? ⟨w.heap.size + 1, 2, none⟩ = some (.string d1)) := fun w' h => ⟨h, cel3_0 (ka.below h), cel3_1 (ka.below h), cel3_2 (ka.below h), cel3_0 (kb.below h), cel3_1 (kb.below h), cel3_2 (kb.below h)⟩
  have bcS : ∀ w', (Below w1.heap.size w1 w' ∧ w'.cell? ⟨w.heap.size, 0, none⟩ = some (.bool n0) ∧ w'.cell? ⟨w.heap.size, 1, none⟩ = some (.string s0) ∧ w'.cell? ⟨w.heap.size, 2, none⟩ = some (.string d0) ∧ w'.cell? ⟨w.heap.size + 1, 0, none⟩ = some (.bool n1) ∧ w'.cell? ⟨w.heap.size + 1, 1, none⟩ = some (.string s1) ∧ w'.cell? ⟨w.heap.size + 1, 2, none⟩ = some (.string d1)) → Below w1.heap.size w1 w' := fun w' h => h.1
  replace mkS := shut mkS
  replace bcS := shut bcS
  go_cut [6] from 10 to 14 (fun v wx => ∃ gc, v = .pointer (some ⟨gc, 0, none⟩) ∧ w1.heap.size ≤ gc ∧ Cel wx gc [.bool gN, .string gS] 24 ∧ Below w1.heap.size w1 wx)
  case first =>
    clear H2 H3 H4 H5 H6 H7 H8 H9 H10 kr
    refine wp_region_held_drew (S := (fun w' => Below w1.heap.size w1 w' ∧ w'.cell? ⟨w.heap.size, 0, none⟩ = some (.bool n0) ∧ w'.cell? ⟨w.heap.size, 1, none⟩ = some (.string s0) ∧ w'.cell? ⟨w.heap.size, 2, none⟩ = some (.string d0) ∧ w'.cell? ⟨w.heap.size + 1, 0, none⟩ = some (.bool n1) ∧ w'.cell? ⟨w.heap.size + 1, 1, none⟩ = some (.string s1) ∧ w'.cell? ⟨w.heap.size + 1, 2, none⟩ = some (.string d1))) (by kernel_rfl) (mkS.out _ (bdrew _)) (fun _ => ?_)
    refine absO 7 (by kernel_rfl) (fun ops q SP hops hq hSP => ?_)
    obtain ⟨fr, hfr⟩ : ∃ fr : Value → Value → Value → Value → Act, fr = (fun x6 x11 x13 x14 => { tmps := #[.agg #[.bool n0, .string s0, .string d0], .agg #[.bool n1, .string s1, .string d1], .pointer (some ⟨w.heap.size, 0, none⟩), .pointer (some ⟨w.heap.size + 1, 0, none⟩), .pointer (some ⟨w.heap.size + 1 + 1, 0, none⟩), .int .i64 0, x6, undef, undef, undef, .agg #[.bool n0, .string s0, .string d0], x11, .agg #[.bool n1, .string s1, .string d1], x13, x14, undef, undef, undef, undef, undef, undef, undef, undef, undef, undef, undef, undef, undef, undef, undef, undef, undef, undef, undef, undef, undef, undef, undef, undef, undef, undef, undef, undef, undef, undef, undef], defers := [] }) := ⟨_, rfl⟩
    have L3_0 : Hid (∀ (g0 : Nat) (w' : World) (hS : SP w') (k0 : Cel w' g0 [.bool false, .string { data := #[] }] 24) (h0 : w1.heap.size ≤ g0), wpAnyH Tryz.prog .any ops q SP 1 (ls 7 [0, 1, 2, 3, 4, 5]) (fr (.pointer (some ⟨g0, 0, none⟩)) (.agg #[.bool false, .string d0]) (.agg #[.bool false, .string d1]) (.agg #[.bool gN, .string gS])) w') := by
      subst hops hq hSP hfr
      intro g0 w' hS k0 h0
      have bc := bcS.out _ hS
      dsimp only
      have e0_0 := cel2_0' k0
      have f0_0 := Cel.frozen k0 0
      have e0_1 := cel2_1' k0
      have f0_1 := Cel.frozen k0 1
      refine rdy [6] (by kernel_rfl) ?_
      refine AllReadyH.cons (o := _) rfl (fun K hK => ?_) AllReadyH.nil
      simp only [List.getElem_toArray, List.getElem_cons_succ, List.getElem_cons_zero]
      go_simp
      try go_wp2_with fail
      clear e0_0 f0_0 e0_1 f0_1
      refine hK.out _ _ (mkS.out _ (bset (bset bc h0 0 (.bool gN)) h0 1 (.string gS))) (fun hS => ?_)
      clear hK K
      replace k0 := (Cel.set (Cel.set k0 0 (.bool gN)) 1 (.string gS))
      replace bc := (bset (bset bc h0 0 (.bool gN)) h0 1 (.string gS))
      refine wpAnyH_done (by kernel_rfl) ?_ _
      go_wp2_with fail
      go_meet
      exact ⟨_, rfl, h0, k0, bc⟩
    have L3_ : Hid (∀ (w' : World) (hS : SP w'), wpAnyH Tryz.prog .any ops q SP 2 (ls 7 [0, 1, 2, 3, 4]) (fr undef (.agg #[.bool false, .string d0]) (.agg #[.bool false, .string d1]) (.agg #[.bool gN, .string gS])) w') := by
      subst hops hq hSP hfr
      intro w' hS
      have bc := bcS.out _ hS
      dsimp only
      refine rdy [5] (by kernel_rfl) ?_
      refine AllReadyH.cons (o := _) rfl (fun K hK => ?_) AllReadyH.nil
      · simp only [List.getElem_toArray, List.getElem_cons_succ, List.getElem_cons_zero]
        go_simp
        try go_wp2_with fail
        refine hK.out _ _ (mkS.out _ (ba bc _)) (fun hS => ?_)
        clear hK K
        exact lst (L3_0.out _ _ hS (Cel.new w' _ _) bc.size) (by kernel_rfl)
    have L2_0 : Hid (∀ (g0 : Nat) (w' : World) (hS : SP w') (k0 : Cel w' g0 [.bool false, .string { data := #[] }] 24) (h0 : w1.heap.size ≤ g0), wpAnyH Tryz.prog .any ops q SP 2 (ls 7 [0, 1, 2, 3, 5]) (fr (.pointer (some ⟨g0, 0, none⟩)) (.agg #[.bool false, .string d0]) (.agg #[.bool false, .string d1]) undef) w') := by
      clear L3_
      subst hops hq hSP hfr
      intro g0 w' hS k0 h0
      have bc := bcS.out _ hS
      dsimp only
      refine rdy [4] (by kernel_rfl) ?_
      refine AllReadyH.cons (o := _) rfl (fun K hK => ?_) AllReadyH.nil
      · simp only [List.getElem_toArray, List.getElem_cons_succ, List.getElem_cons_zero]
        go_simp
        go_fit (H1.out _ ?_)
        · exact Below.after bb bc
        rintro e wn ⟨rfl, bn⟩
        have bcn := Below.after bc bn
        try go_wp2_with fail
        refine hK.out _ _ (mkS.out _ bcn) (fun hS => ?_)
        clear hK K
        exact lst (L3_0.out g0 wn hS (k0.below bn) h0) (by kernel_rfl)
    have L2_ : Hid (∀ (w' : World) (hS : SP w'), wpAnyH Tryz.prog .any ops q SP 3 (ls 7 [0, 1, 2, 3]) (fr undef (.agg #[.bool false, .string d0]) (.agg #[.bool false, .string d1]) undef) w') := by
      clear L3_0
      subst hops hq hSP hfr
      intro w' hS
      have bc := bcS.out _ hS
      dsimp only
      refine rdy [4, 5] (by kernel_rfl) ?_
      refine AllReadyH.cons (o := _) rfl (fun K hK => ?_) (AllReadyH.cons (o := _) rfl (fun K hK => ?_) AllReadyH.nil)
      · simp only [List.getElem_toArray, List.getElem_cons_succ, List.getElem_cons_zero]
        go_simp
        go_fit (H1.out _ ?_)
        · exact Below.after bb bc
        rintro e wn ⟨rfl, bn⟩
        have bcn := Below.after bc bn
        try go_wp2_with fail
        refine hK.out _ _ (mkS.out _ bcn) (fun hS => ?_)
        clear hK K
        exact lst (L3_.out wn hS) (by kernel_rfl)
      · simp only [List.getElem_toArray, List.getElem_cons_succ, List.getElem_cons_zero]
        go_simp
        try go_wp2_with fail
        refine hK.out _ _ (mkS.out _ (ba bc _)) (fun hS => ?_)
        clear hK K
        exact lst (L2_0.out _ _ hS (Cel.new w' _ _) bc.size) (by kernel_rfl)
    have L1_0 : Hid (∀ (g0 : Nat) (w' : World) (hS : SP w') (k0 : Cel w' g0 [.bool false, .string { data := #[] }] 24) (h0 : w1.heap.size ≤ g0), wpAnyH Tryz.prog .any ops q SP 3 (ls 7 [0, 1, 2, 5]) (fr (.pointer (some ⟨g0, 0, none⟩)) (.agg #[.bool false, .string d0]) undef undef) w') := by
      clear L3_0 L3_ L2_
      subst hops hq hSP hfr
      intro g0 w' hS k0 h0
      have bc := bcS.out _ hS
      dsimp only
      refine rdy [3] (by kernel_rfl) ?_
      refine AllReadyH.cons (o := _) rfl (fun K hK => ?_) AllReadyH.nil
      · simp only [List.getElem_toArray, List.getElem_cons_succ, List.getElem_cons_zero]
        go_simp
        go_fit (den_any n1 s1 d1 _)
        rintro e wn ⟨rfl, bn⟩
        have bcn := Below.after bc bn
        try go_wp2_with fail
        refine hK.out _ _ (mkS.out _ bcn) (fun hS => ?_)
        clear hK K
        exact lst (L2_0.out g0 wn hS (k0.below bn) h0) (by kernel_rfl)
    have L1_ : Hid (∀ (w' : World) (hS : SP w'), wpAnyH Tryz.prog .any ops q SP 4 (ls 7 [0, 1, 2]) (fr undef (.agg #[.bool false, .string d0]) undef undef) w') := by
      clear L3_0 L3_ L2_0
      subst hops hq hSP hfr
      intro w' hS
      have bc := bcS.out _ hS
      dsimp only
      refine rdy [3, 5] (by kernel_rfl) ?_
      refine AllReadyH.cons (o := _) rfl (fun K hK => ?_) (AllReadyH.cons (o := _) rfl (fun K hK => ?_) AllReadyH.nil)
      · simp only [List.getElem_toArray, List.getElem_cons_succ, List.getElem_cons_zero]
        go_simp
        go_fit (den_any n1 s1 d1 _)
        rintro e wn ⟨rfl, bn⟩
        have bcn := Below.after bc bn
        try go_wp2_with fail
        refine hK.out _ _ (mkS.out _ bcn) (fun hS => ?_)
        clear hK K
        exact lst (L2_.out wn hS) (by kernel_rfl)
      · simp only [List.getElem_toArray, List.getElem_cons_succ, List.getElem_cons_zero]
        go_simp
        try go_wp2_with fail
        refine hK.out _ _ (mkS.out _ (ba bc _)) (fun hS => ?_)
        clear hK K
        exact lst (L1_0.out _ _ hS (Cel.new w' _ _) bc.size) (by kernel_rfl)
    have L0_0 : Hid (∀ (g0 : Nat) (w' : World) (hS : SP w') (k0 : Cel w' g0 [.bool false, .string { data := #[] }] 24) (h0 : w1.heap.size ≤ g0), wpAnyH Tryz.prog .any ops q SP 4 (ls 7 [0, 2, 5]) (fr (.pointer (some ⟨g0, 0, none⟩)) undef undef undef) w') := by
      clear L3_0 L3_ L2_0 L2_ L1_
      subst hops hq hSP hfr
      intro g0 w' hS k0 h0
      have bc := bcS.out _ hS
      dsimp only
      refine rdy [1] (by kernel_rfl) ?_
      refine AllReadyH.cons (o := _) rfl (fun K hK => ?_) AllReadyH.nil
      · simp only [List.getElem_toArray, List.getElem_cons_succ, List.getElem_cons_zero]
        go_simp
        go_fit (den_any n0 s0 d0 _)
        rintro e wn ⟨rfl, bn⟩
        have bcn := Below.after bc bn
        try go_wp2_with fail
        refine hK.out _ _ (mkS.out _ bcn) (fun hS => ?_)
        clear hK K
        exact lst (L1_0.out g0 wn hS (k0.below bn) h0) (by kernel_rfl)
    have L0_ : Hid (∀ (w' : World) (hS : SP w'), wpAnyH Tryz.prog .any ops q SP 5 (ls 7 [0, 2]) (fr undef undef undef undef) w') := by
      clear L3_0 L3_ L2_0 L2_ L1_0
      subst hops hq hSP hfr
      intro w' hS
      have bc := bcS.out _ hS
      dsimp only
      refine rdy [1, 5] (by kernel_rfl) ?_
      refine AllReadyH.cons (o := _) rfl (fun K hK => ?_) (AllReadyH.cons (o := _) rfl (fun K hK => ?_) AllReadyH.nil)
      · simp only [List.getElem_toArray, List.getElem_cons_succ, List.getElem_cons_zero]
        go_simp
        go_fit (den_any n0 s0 d0 _)
        rintro e wn ⟨rfl, bn⟩
        have bcn := Below.after bc bn
        try go_wp2_with fail
        refine hK.out _ _ (mkS.out _ bcn) (fun hS => ?_)
        clear hK K
        exact lst (L1_.out wn hS) (by kernel_rfl)
      · simp only [List.getElem_toArray, List.getElem_cons_succ, List.getElem_cons_zero]
        go_simp
        try go_wp2_with fail
        refine hK.out _ _ (mkS.out _ (ba bc _)) (fun hS => ?_)
        clear hK K
        exact lst (L0_0.out _ _ hS (Cel.new w' _ _) bc.size) (by kernel_rfl)
    clear L3_0 L3_ L2_0 L2_ L1_0 L1_ L0_0
    subst hops hq hSP hfr
    refine wpAnyH_take (i := 0) (oi := _) (v := ?_) rfl (by kernel_rfl) (by kernel_rfl) (by kernel_rfl) (fun _ _ _ h => h) (Or.inl ⟨by rfl, ?_⟩) (by assumption) ?_
    rotate_left
    · (intro w hSw; (try dsimp only at hSw); go_simp; try with_reducible rfl)
    try simp only [Act.put, List.getElem_toArray, List.getElem_cons_zero, List.setIfInBounds_toArray, List.set_cons_zero, List.set_cons_succ]
    refine wpAnyH_take (i := 2) (oi := _) (v := ?_) rfl (by kernel_rfl) (by kernel_rfl) (by kernel_rfl) (fun _ _ _ h => h) (Or.inl ⟨by rfl, ?_⟩) (by assumption) ?_
    rotate_left
    · (intro w hSw; (try dsimp only at hSw); go_simp; try with_reducible rfl)
    try simp only [Act.put, List.getElem_toArray, List.getElem_cons_succ, List.getElem_cons_zero, List.setIfInBounds_toArray, List.set_cons_zero, List.set_cons_succ]
    exact lst (L0_.out _ (mkS.out _ (bdrew _))) (by kernel_rfl)
  case rest =>
  obtain ⟨gg, rfl, lg, kg, b1⟩ := hcut
  clear mkS bcS
  have sz := b1.size
  replace ka := ka.below b1
  replace kb := kb.below b1
  replace kr := kr.below b1
  replace bb := Below.after bb b1
  clear b1
  have tg := kg.lt
  go_wp2_with fail
  have mkS : ∀ w', Below wc.heap.size wc w' → (Below wc.heap.size wc w' ∧ w'.cell? ⟨w.heap.size, 0, none⟩ = some (.bool n0) ∧ w'.cell? ⟨w.heap.size, 1, none⟩ = some (.string s0) ∧ w'.cell? ⟨w.heap.size, 2, none⟩ = some (.string d0) ∧ w'.cell? ⟨w.heap.size + 1, 0, none⟩ = some (.bool n1) ∧ w'.cell? ⟨w.heap.size + 1, 1, none⟩ = some (.string s1) ∧ w'.cell? ⟨w.heap.size + 1, 2, none⟩ = some (.string d1) ∧ w'.cell? ⟨gg, 0, none⟩ = some (.bool gN) ∧ w'.cell? ⟨gg, 1, none⟩ = some (.string gS)) := fun w' h => ⟨h, cel3_0 (ka.below h), cel3_1 (ka.below h), cel3_2 (ka.below h), cel3_0 (kb.below h), cel3_1 (kb.below h), cel3_2 (kb.below h), cel2_0' (kg.below h), cel2_1' (kg.below h)⟩
  have bcS : ∀ w', (Below wc.heap.size wc w' ∧ w'.cell? ⟨w.heap.size, 0, none⟩ = some (.bool n0) ∧ w'.cell? ⟨w.heap.size, 1, none⟩ = some (.string s0) ∧ w'.cell? ⟨w.heap.size, 2, none⟩ = some (.string d0) ∧ w'.cell? ⟨w.heap.size + 1, 0, none⟩ = some (.bool n1) ∧ w'.cell? ⟨w.heap.size + 1, 1, none⟩ = some (.string s1) ∧ w'.cell? ⟨w.heap.size + 1, 2, none⟩ = some (.string d1) ∧ w'.cell? ⟨gg, 0, none⟩ = some (.bool gN) ∧ w'.cell? ⟨gg, 1, none⟩ = some (.string gS)) → Below wc.heap.size wc w' := fun w' h => h.1
  replace mkS := shut mkS
  replace bcS := shut bcS
  go_cut [7, 8] from 15 to 22 (fun v u wx => ∃ gc gd, v = .pointer (some ⟨gc, 0, none⟩) ∧ u = .pointer (some ⟨gd, 0, none⟩) ∧ wc.heap.size ≤ gc ∧ wc.heap.size ≤ gd ∧ Cel wx gc [.bool aN, .string aS] 24 ∧ Cel wx gd [.bool bN, .string bS] 24 ∧ Below wc.heap.size wc wx)
  case first =>
    clear H1 H4 H5 H6 H7 H8 H9 H10 kr
    refine wp_region_held_drew (S := (fun w' => Below wc.heap.size wc w' ∧ w'.cell? ⟨w.heap.size, 0, none⟩ = some (.bool n0) ∧ w'.cell? ⟨w.heap.size, 1, none⟩ = some (.string s0) ∧ w'.cell? ⟨w.heap.size, 2, none⟩ = some (.string d0) ∧ w'.cell? ⟨w.heap.size + 1, 0, none⟩ = some (.bool n1) ∧ w'.cell? ⟨w.heap.size + 1, 1, none⟩ = some (.string s1) ∧ w'.cell? ⟨w.heap.size + 1, 2, none⟩ = some (.string d1) ∧ w'.cell? ⟨gg, 0, none⟩ = some (.bool gN) ∧ w'.cell? ⟨gg, 1, none⟩ = some (.string gS))) (by kernel_rfl) (mkS.out _ (bdrew _)) (fun _ => ?_)
    refine absO 12 (by kernel_rfl) (fun ops q SP hops hq hSP => ?_)
    obtain ⟨fr, hfr⟩ : ∃ fr : Value → Value → Value → Value → Value → Value → Act, fr = (fun x7 x8 x16 x18 x20 x22 => { tmps := #[.agg #[.bool n0, .string s0, .string d0], .agg #[.bool n1, .string s1, .string d1], .pointer (some ⟨w.heap.size, 0, none⟩), .pointer (some ⟨w.heap.size + 1, 0, none⟩), .pointer (some ⟨w.heap.size + 1 + 1, 0, none⟩), .int .i64 0, .pointer (some ⟨gg, 0, none⟩), x7, x8, undef, u10, u11, u12, u13, u14, .agg #[.bool n0, .string s0, .string d0], x16, .agg #[.bool gN, .string gS], x18, .agg #[.bool n1, .string s1, .string d1], x20, .agg #[.bool gN, .string gS], x22, undef, undef, undef, undef, undef, undef, undef, undef, undef, undef, undef, undef, undef, undef, undef, undef, undef, undef, undef, undef, undef, undef, undef], defers := [] }) := ⟨_, rfl⟩
    have L4_01 : Hid (∀ (g0 : Nat) (g1 : Nat) (w' : World) (hS : SP w') (k0 : Cel w' g0 [.bool false, .string { data := #[] }] 24) (h0 : wc.heap.size ≤ g0) (k1 : Cel w' g1 [.bool false, .string { data := #[] }] 24) (h1 : wc.heap.size ≤ g1) (n01 : ¬ g0 = g1), wpAnyH Tryz.prog .any ops q SP 2 (ls 12 [0, 1, 2, 3, 4, 5, 6, 7, 8, 9]) (fr (.pointer (some ⟨g0, 0, none⟩)) (.pointer (some ⟨g1, 0, none⟩)) (.agg #[.bool false, .string d0]) (.agg #[.bool aN, .string aS]) (.agg #[.bool false, .string d1]) (.agg #[.bool bN, .string bS])) w') := by
      subst hops hq hSP hfr
      intro g0 g1 w' hS k0 h0 k1 h1 n01
      have bc := bcS.out _ hS
      dsimp only
      have e0_0 := cel2_0' k0
      have f0_0 := Cel.frozen k0 0
      have e0_1 := cel2_1' k0
      have f0_1 := Cel.frozen k0 1
      refine rdy [10] (by kernel_rfl) ?_
      refine AllReadyH.cons (o := _) rfl (fun K hK => ?_) AllReadyH.nil
      simp only [List.getElem_toArray, List.getElem_cons_succ, List.getElem_cons_zero]
      go_simp
      try go_wp2_with fail
      clear e0_0 f0_0 e0_1 f0_1
      refine hK.out _ _ (mkS.out _ (bset (bset bc h0 0 (.bool aN)) h0 1 (.string aS))) (fun hS => ?_)
      clear hK K
      replace k0 := (Cel.set (Cel.set k0 0 (.bool aN)) 1 (.string aS))
      replace k1 := (Cel.other (Cel.other k1 (fun e => n01 e.symm) 0 (.bool aN)) (fun e => n01 e.symm) 1 (.string aS))
      replace bc := (bset (bset bc h0 0 (.bool aN)) h0 1 (.string aS))
      have e1_0 := cel2_0' k1
      have f1_0 := Cel.frozen k1 0
      have e1_1 := cel2_1' k1
      have f1_1 := Cel.frozen k1 1
      refine rdy [11] (by kernel_rfl) ?_
      refine AllReadyH.cons (o := _) rfl (fun K hK => ?_) AllReadyH.nil
      simp only [List.getElem_toArray, List.getElem_cons_succ, List.getElem_cons_zero]
      go_simp
      try go_wp2_with fail
      clear e1_0 f1_0 e1_1 f1_1
      refine hK.out _ _ (mkS.out _ (bset (bset bc h1 0 (.bool bN)) h1 1 (.string bS))) (fun hS => ?_)
      clear hK K
      replace k0 := (Cel.other (Cel.other k0 n01 0 (.bool bN)) n01 1 (.string bS))
      replace k1 := (Cel.set (Cel.set k1 0 (.bool bN)) 1 (.string bS))
      replace bc := (bset (bset bc h1 0 (.bool bN)) h1 1 (.string bS))
      refine wpAnyH_done (by kernel_rfl) ?_ _
      go_wp2_with fail
      go_meet
      exact ⟨_, _, rfl, rfl, h0, h1, k0, k1, bc⟩
    have L4_0 : Hid (∀ (g0 : Nat) (w' : World) (hS : SP w') (k0 : Cel w' g0 [.bool false, .string { data := #[] }] 24) (h0 : wc.heap.size ≤ g0), wpAnyH Tryz.prog .any ops q SP 3 (ls 12 [0, 1, 2, 3, 4, 5, 6, 7, 8]) (fr (.pointer (some ⟨g0, 0, none⟩)) undef (.agg #[.bool false, .string d0]) (.agg #[.bool aN, .string aS]) (.agg #[.bool false, .string d1]) (.agg #[.bool bN, .string bS])) w') := by
      subst hops hq hSP hfr
      intro g0 w' hS k0 h0
      have bc := bcS.out _ hS
      dsimp only
      refine rdy [9] (by kernel_rfl) ?_
      refine AllReadyH.cons (o := _) rfl (fun K hK => ?_) AllReadyH.nil
      · simp only [List.getElem_toArray, List.getElem_cons_succ, List.getElem_cons_zero]
        go_simp
        try go_wp2_with fail
        refine hK.out _ _ (mkS.out _ (ba bc _)) (fun hS => ?_)
        clear hK K
        exact lst (L4_01.out g0 _ _ hS (k0.alloc _) h0 (Cel.new w' _ _) bc.size (by have := k0.lt; omega)) (by kernel_rfl)
    have L4_1 : Hid (∀ (g1 : Nat) (w' : World) (hS : SP w') (k1 : Cel w' g1 [.bool false, .string { data := #[] }] 24) (h1 : wc.heap.size ≤ g1), wpAnyH Tryz.prog .any ops q SP 3 (ls 12 [0, 1, 2, 3, 4, 5, 6, 7, 9]) (fr undef (.pointer (some ⟨g1, 0, none⟩)) (.agg #[.bool false, .string d0]) (.agg #[.bool aN, .string aS]) (.agg #[.bool false, .string d1]) (.agg #[.bool bN, .string bS])) w') := by
      clear L4_0
      subst hops hq hSP hfr
      intro g1 w' hS k1 h1
      have bc := bcS.out _ hS
      dsimp only
      refine rdy [8] (by kernel_rfl) ?_
      refine AllReadyH.cons (o := _) rfl (fun K hK => ?_) AllReadyH.nil
      · simp only [List.getElem_toArray, List.getElem_cons_succ, List.getElem_cons_zero]
        go_simp
        try go_wp2_with fail
        refine hK.out _ _ (mkS.out _ (ba bc _)) (fun hS => ?_)
        clear hK K
        exact lst (L4_01.out _ g1 _ hS (Cel.new w' _ _) bc.size (k1.alloc _) h1 (by have := k1.lt; omega)) (by kernel_rfl)
    have L4_ : Hid (∀ (w' : World) (hS : SP w'), wpAnyH Tryz.prog .any ops q SP 4 (ls 12 [0, 1, 2, 3, 4, 5, 6, 7]) (fr undef undef (.agg #[.bool false, .string d0]) (.agg #[.bool aN, .string aS]) (.agg #[.bool false, .string d1]) (.agg #[.bool bN, .string bS])) w') := by
      clear L4_01
      subst hops hq hSP hfr
      intro w' hS
      have bc := bcS.out _ hS
      dsimp only
      refine rdy [8, 9] (by kernel_rfl) ?_
      refine AllReadyH.cons (o := _) rfl (fun K hK => ?_) (AllReadyH.cons (o := _) rfl (fun K hK => ?_) AllReadyH.nil)
      · simp only [List.getElem_toArray, List.getElem_cons_succ, List.getElem_cons_zero]
        go_simp
        try go_wp2_with fail
        refine hK.out _ _ (mkS.out _ (ba bc _)) (fun hS => ?_)
        clear hK K
        exact lst (L4_0.out _ _ hS (Cel.new w' _ _) bc.size) (by kernel_rfl)
      · simp only [List.getElem_toArray, List.getElem_cons_succ, List.getElem_cons_zero]
        go_simp
        try go_wp2_with fail
        refine hK.out _ _ (mkS.out _ (ba bc _)) (fun hS => ?_)
        clear hK K
        exact lst (L4_1.out _ _ hS (Cel.new w' _ _) bc.size) (by kernel_rfl)
    have L3_01 : Hid (∀ (g0 : Nat) (g1 : Nat) (w' : World) (hS : SP w') (k0 : Cel w' g0 [.bool false, .string { data := #[] }] 24) (h0 : wc.heap.size ≤ g0) (k1 : Cel w' g1 [.bool false, .string { data := #[] }] 24) (h1 : wc.heap.size ≤ g1) (n01 : ¬ g0 = g1), wpAnyH Tryz.prog .any ops q SP 3 (ls 12 [0, 1, 2, 3, 4, 5, 6, 8, 9]) (fr (.pointer (some ⟨g0, 0, none⟩)) (.pointer (some ⟨g1, 0, none⟩)) (.agg #[.bool false, .string d0]) (.agg #[.bool aN, .string aS]) (.agg #[.bool false, .string d1]) undef) w') := by
      clear L4_0 L4_1 L4_
      subst hops hq hSP hfr
      intro g0 g1 w' hS k0 h0 k1 h1 n01
      have bc := bcS.out _ hS
      dsimp only
      refine rdy [7] (by kernel_rfl) ?_
      refine AllReadyH.cons (o := _) rfl (fun K hK => ?_) AllReadyH.nil
      · simp only [List.getElem_toArray, List.getElem_cons_succ, List.getElem_cons_zero]
        go_simp
        go_fit (H3.out _)
        rintro e wn ⟨rfl, bn⟩
        have bcn := Below.after bc bn
        try go_wp2_with fail
        refine hK.out _ _ (mkS.out _ bcn) (fun hS => ?_)
        clear hK K
        exact lst (L4_01.out g0 g1 wn hS (k0.below bn) h0 (k1.below bn) h1 n01) (by kernel_rfl)
    have L3_0 : Hid (∀ (g0 : Nat) (w' : World) (hS : SP w') (k0 : Cel w' g0 [.bool false, .string { data := #[] }] 24) (h0 : wc.heap.size ≤ g0), wpAnyH Tryz.prog .any ops q SP 4 (ls 12 [0, 1, 2, 3, 4, 5, 6, 8]) (fr (.pointer (some ⟨g0, 0, none⟩)) undef (.agg #[.bool false, .string d0]) (.agg #[.bool aN, .string aS]) (.agg #[.bool false, .string d1]) undef) w') := by
      clear L4_01 L4_1 L4_
      subst hops hq hSP hfr
      intro g0 w' hS k0 h0
      have bc := bcS.out _ hS
      dsimp only
      refine rdy [7, 9] (by kernel_rfl) ?_
      refine AllReadyH.cons (o := _) rfl (fun K hK => ?_) (AllReadyH.cons (o := _) rfl (fun K hK => ?_) AllReadyH.nil)
      · simp only [List.getElem_toArray, List.getElem_cons_succ, List.getElem_cons_zero]
        go_simp
        go_fit (H3.out _)
        rintro e wn ⟨rfl, bn⟩
        have bcn := Below.after bc bn
        try go_wp2_with fail
        refine hK.out _ _ (mkS.out _ bcn) (fun hS => ?_)
        clear hK K
        exact lst (L4_0.out g0 wn hS (k0.below bn) h0) (by kernel_rfl)
      · simp only [List.getElem_toArray, List.getElem_cons_succ, List.getElem_cons_zero]
        go_simp
        try go_wp2_with fail
        refine hK.out _ _ (mkS.out _ (ba bc _)) (fun hS => ?_)
        clear hK K
        exact lst (L3_01.out g0 _ _ hS (k0.alloc _) h0 (Cel.new w' _ _) bc.size (by have := k0.lt; omega)) (by kernel_rfl)
    have L3_1 : Hid (∀ (g1 : Nat) (w' : World) (hS : SP w') (k1 : Cel w' g1 [.bool false, .string { data := #[] }] 24) (h1 : wc.heap.size ≤ g1), wpAnyH Tryz.prog .any ops q SP 4 (ls 12 [0, 1, 2, 3, 4, 5, 6, 9]) (fr undef (.pointer (some ⟨g1, 0, none⟩)) (.agg #[.bool false, .string d0]) (.agg #[.bool aN, .string aS]) (.agg #[.bool false, .string d1]) undef) w') := by
      clear L4_01 L4_0 L4_ L3_0
      subst hops hq hSP hfr
      intro g1 w' hS k1 h1
      have bc := bcS.out _ hS
      dsimp only
      refine rdy [7, 8] (by kernel_rfl) ?_
      refine AllReadyH.cons (o := _) rfl (fun K hK => ?_) (AllReadyH.cons (o := _) rfl (fun K hK => ?_) AllReadyH.nil)
      · simp only [List.getElem_toArray, List.getElem_cons_succ, List.getElem_cons_zero]
        go_simp
        go_fit (H3.out _)
        rintro e wn ⟨rfl, bn⟩
        have bcn := Below.after bc bn
        try go_wp2_with fail
        refine hK.out _ _ (mkS.out _ bcn) (fun hS => ?_)
        clear hK K
        exact lst (L4_1.out g1 wn hS (k1.below bn) h1) (by kernel_rfl)
      · simp only [List.getElem_toArray, List.getElem_cons_succ, List.getElem_cons_zero]
        go_simp
        try go_wp2_with fail
        refine hK.out _ _ (mkS.out _ (ba bc _)) (fun hS => ?_)
        clear hK K
        exact lst (L3_01.out _ g1 _ hS (Cel.new w' _ _) bc.size (k1.alloc _) h1 (by have := k1.lt; omega)) (by kernel_rfl)
    have L3_ : Hid (∀ (w' : World) (hS : SP w'), wpAnyH Tryz.prog .any ops q SP 5 (ls 12 [0, 1, 2, 3, 4, 5, 6]) (fr undef undef (.agg #[.bool false, .string d0]) (.agg #[.bool aN, .string aS]) (.agg #[.bool false, .string d1]) undef) w') := by
      clear L4_01 L4_0 L4_1 L3_01
      subst hops hq hSP hfr
      intro w' hS
      have bc := bcS.out _ hS
      dsimp only
      refine rdy [7, 8, 9] (by kernel_rfl) ?_
      refine AllReadyH.cons (o := _) rfl (fun K hK => ?_) (AllReadyH.cons (o := _) rfl (fun K hK => ?_) (AllReadyH.cons (o := _) rfl (fun K hK => ?_) AllReadyH.nil))
      · simp only [List.getElem_toArray, List.getElem_cons_succ, List.getElem_cons_zero]
        go_simp
        go_fit (H3.out _)
        rintro e wn ⟨rfl, bn⟩
        have bcn := Below.after bc bn
        try go_wp2_with fail
        refine hK.out _ _ (mkS.out _ bcn) (fun hS => ?_)
        clear hK K
        exact lst (L4_.out wn hS) (by kernel_rfl)
      · simp only [List.getElem_toArray, List.getElem_cons_succ, List.getElem_cons_zero]
        go_simp
        try go_wp2_with fail
        refine hK.out _ _ (mkS.out _ (ba bc _)) (fun hS => ?_)
        clear hK K
        exact lst (L3_0.out _ _ hS (Cel.new w' _ _) bc.size) (by kernel_rfl)
      · simp only [List.getElem_toArray, List.getElem_cons_succ, List.getElem_cons_zero]
        go_simp
        try go_wp2_with fail
        refine hK.out _ _ (mkS.out _ (ba bc _)) (fun hS => ?_)
        clear hK K
        exact lst (L3_1.out _ _ hS (Cel.new w' _ _) bc.size) (by kernel_rfl)
    have L2_01 : Hid (∀ (g0 : Nat) (g1 : Nat) (w' : World) (hS : SP w') (k0 : Cel w' g0 [.bool false, .string { data := #[] }] 24) (h0 : wc.heap.size ≤ g0) (k1 : Cel w' g1 [.bool false, .string { data := #[] }] 24) (h1 : wc.heap.size ≤ g1) (n01 : ¬ g0 = g1), wpAnyH Tryz.prog .any ops q SP 4 (ls 12 [0, 1, 2, 3, 4, 6, 8, 9]) (fr (.pointer (some ⟨g0, 0, none⟩)) (.pointer (some ⟨g1, 0, none⟩)) (.agg #[.bool false, .string d0]) (.agg #[.bool aN, .string aS]) undef undef) w') := by
      clear L4_01 L4_0 L4_1 L4_ L3_0 L3_1 L3_
      subst hops hq hSP hfr
      intro g0 g1 w' hS k0 h0 k1 h1 n01
      have bc := bcS.out _ hS
      dsimp only
      refine rdy [5] (by kernel_rfl) ?_
      refine AllReadyH.cons (o := _) rfl (fun K hK => ?_) AllReadyH.nil
      · simp only [List.getElem_toArray, List.getElem_cons_succ, List.getElem_cons_zero]
        go_simp
        go_fit (den_any n1 s1 d1 _)
        rintro e wn ⟨rfl, bn⟩
        have bcn := Below.after bc bn
        try go_wp2_with fail
        refine hK.out _ _ (mkS.out _ bcn) (fun hS => ?_)
        clear hK K
        exact lst (L3_01.out g0 g1 wn hS (k0.below bn) h0 (k1.below bn) h1 n01) (by kernel_rfl)
    have L2_0 : Hid (∀ (g0 : Nat) (w' : World) (hS : SP w') (k0 : Cel w' g0 [.bool false, .string { data := #[] }] 24) (h0 : wc.heap.size ≤ g0), wpAnyH Tryz.prog .any ops q SP 5 (ls 12 [0, 1, 2, 3, 4, 6, 8]) (fr (.pointer (some ⟨g0, 0, none⟩)) undef (.agg #[.bool false, .string d0]) (.agg #[.bool aN, .string aS]) undef undef) w') := by
      clear L4_01 L4_0 L4_1 L4_ L3_01 L3_1 L3_
      subst hops hq hSP hfr
      intro g0 w' hS k0 h0
      have bc := bcS.out _ hS
      dsimp only
      refine rdy [5, 9] (by kernel_rfl) ?_
      refine AllReadyH.cons (o := _) rfl (fun K hK => ?_) (AllReadyH.cons (o := _) rfl (fun K hK => ?_) AllReadyH.nil)
      · simp only [List.getElem_toArray, List.getElem_cons_succ, List.getElem_cons_zero]
        go_simp
        go_fit (den_any n1 s1 d1 _)
        rintro e wn ⟨rfl, bn⟩
        have bcn := Below.after bc bn
        try go_wp2_with fail
        refine hK.out _ _ (mkS.out _ bcn) (fun hS => ?_)
        clear hK K
        exact lst (L3_0.out g0 wn hS (k0.below bn) h0) (by kernel_rfl)
      · simp only [List.getElem_toArray, List.getElem_cons_succ, List.getElem_cons_zero]
        go_simp
        try go_wp2_with fail
        refine hK.out _ _ (mkS.out _ (ba bc _)) (fun hS => ?_)
        clear hK K
        exact lst (L2_01.out g0 _ _ hS (k0.alloc _) h0 (Cel.new w' _ _) bc.size (by have := k0.lt; omega)) (by kernel_rfl)
    have L2_1 : Hid (∀ (g1 : Nat) (w' : World) (hS : SP w') (k1 : Cel w' g1 [.bool false, .string { data := #[] }] 24) (h1 : wc.heap.size ≤ g1), wpAnyH Tryz.prog .any ops q SP 5 (ls 12 [0, 1, 2, 3, 4, 6, 9]) (fr undef (.pointer (some ⟨g1, 0, none⟩)) (.agg #[.bool false, .string d0]) (.agg #[.bool aN, .string aS]) undef undef) w') := by
      clear L4_01 L4_0 L4_1 L4_ L3_01 L3_0 L3_ L2_0
      subst hops hq hSP hfr
      intro g1 w' hS k1 h1
      have bc := bcS.out _ hS
      dsimp only
      refine rdy [5, 8] (by kernel_rfl) ?_
      refine AllReadyH.cons (o := _) rfl (fun K hK => ?_) (AllReadyH.cons (o := _) rfl (fun K hK => ?_) AllReadyH.nil)
      · simp only [List.getElem_toArray, List.getElem_cons_succ, List.getElem_cons_zero]
        go_simp
        go_fit (den_any n1 s1 d1 _)
        rintro e wn ⟨rfl, bn⟩
        have bcn := Below.after bc bn
        try go_wp2_with fail
        refine hK.out _ _ (mkS.out _ bcn) (fun hS => ?_)
        clear hK K
        exact lst (L3_1.out g1 wn hS (k1.below bn) h1) (by kernel_rfl)
      · simp only [List.getElem_toArray, List.getElem_cons_succ, List.getElem_cons_zero]
        go_simp
        try go_wp2_with fail
        refine hK.out _ _ (mkS.out _ (ba bc _)) (fun hS => ?_)
        clear hK K
        exact lst (L2_01.out _ g1 _ hS (Cel.new w' _ _) bc.size (k1.alloc _) h1 (by have := k1.lt; omega)) (by kernel_rfl)
    have L2_ : Hid (∀ (w' : World) (hS : SP w'), wpAnyH Tryz.prog .any ops q SP 6 (ls 12 [0, 1, 2, 3, 4, 6]) (fr undef undef (.agg #[.bool false, .string d0]) (.agg #[.bool aN, .string aS]) undef undef) w') := by
      clear L4_01 L4_0 L4_1 L4_ L3_01 L3_0 L3_1 L2_01
      subst hops hq hSP hfr
      intro w' hS
      have bc := bcS.out _ hS
      dsimp only
      refine rdy [5, 8, 9] (by kernel_rfl) ?_
      refine AllReadyH.cons (o := _) rfl (fun K hK => ?_) (AllReadyH.cons (o := _) rfl (fun K hK => ?_) (AllReadyH.cons (o := _) rfl (fun K hK => ?_) AllReadyH.nil))
      · simp only [List.getElem_toArray, List.getElem_cons_succ, List.getElem_cons_zero]
        go_simp
        go_fit (den_any n1 s1 d1 _)
        rintro e wn ⟨rfl, bn⟩
        have bcn := Below.after bc bn
        try go_wp2_with fail
        refine hK.out _ _ (mkS.out _ bcn) (fun hS => ?_)
        clear hK K
        exact lst (L3_.out wn hS) (by kernel_rfl)
      · simp only [List.getElem_toArray, List.getElem_cons_succ, List.getElem_cons_zero]
        go_simp
        try go_wp2_with fail
        refine hK.out _ _ (mkS.out _ (ba bc _)) (fun hS => ?_)
        clear hK K
        exact lst (L2_0.out _ _ hS (Cel.new w' _ _) bc.size) (by kernel_rfl)
      · simp only [List.getElem_toArray, List.getElem_cons_succ, List.getElem_cons_zero]
        go_simp
        try go_wp2_with fail
        refine hK.out _ _ (mkS.out _ (ba bc _)) (fun hS => ?_)
        clear hK K
        exact lst (L2_1.out _ _ hS (Cel.new w' _ _) bc.size) (by kernel_rfl)
    have L1_01 : Hid (∀ (g0 : Nat) (g1 : Nat) (w' : World) (hS : SP w') (k0 : Cel w' g0 [.bool false, .string { data := #[] }] 24) (h0 : wc.heap.size ≤ g0) (k1 : Cel w' g1 [.bool false, .string { data := #[] }] 24) (h1 : wc.heap.size ≤ g1) (n01 : ¬ g0 = g1), wpAnyH Tryz.prog .any ops q SP 5 (ls 12 [0, 1, 2, 4, 6, 8, 9]) (fr (.pointer (some ⟨g0, 0, none⟩)) (.pointer (some ⟨g1, 0, none⟩)) (.agg #[.bool false, .string d0]) undef undef undef) w') := by
      clear L4_01 L4_0 L4_1 L4_ L3_01 L3_0 L3_1 L3_ L2_0 L2_1 L2_
      subst hops hq hSP hfr
      intro g0 g1 w' hS k0 h0 k1 h1 n01
      have bc := bcS.out _ hS
      dsimp only
      refine rdy [3] (by kernel_rfl) ?_
      refine AllReadyH.cons (o := _) rfl (fun K hK => ?_) AllReadyH.nil
      · simp only [List.getElem_toArray, List.getElem_cons_succ, List.getElem_cons_zero]
        go_simp
        go_fit (H2.out _)
        rintro e wn ⟨rfl, bn⟩
        have bcn := Below.after bc bn
        try go_wp2_with fail
        refine hK.out _ _ (mkS.out _ bcn) (fun hS => ?_)
        clear hK K
        exact lst (L2_01.out g0 g1 wn hS (k0.below bn) h0 (k1.below bn) h1 n01) (by kernel_rfl)
    have L1_0 : Hid (∀ (g0 : Nat) (w' : World) (hS : SP w') (k0 : Cel w' g0 [.bool false, .string { data := #[] }] 24) (h0 : wc.heap.size ≤ g0), wpAnyH Tryz.prog .any ops q SP 6 (ls 12 [0, 1, 2, 4, 6, 8]) (fr (.pointer (some ⟨g0, 0, none⟩)) undef (.agg #[.bool false, .string d0]) undef undef undef) w') := by
      clear L4_01 L4_0 L4_1 L4_ L3_01 L3_0 L3_1 L3_ L2_01 L2_1 L2_
      subst hops hq hSP hfr
      intro g0 w' hS k0 h0
      have bc := bcS.out _ hS
      dsimp only
      refine rdy [3, 9] (by kernel_rfl) ?_
      refine AllReadyH.cons (o := _) rfl (fun K hK => ?_) (AllReadyH.cons (o := _) rfl (fun K hK => ?_) AllReadyH.nil)
      · simp only [List.getElem_toArray, List.getElem_cons_succ, List.getElem_cons_zero]
        go_simp
        go_fit (H2.out _)
        rintro e wn ⟨rfl, bn⟩
        have bcn := Below.after bc bn
        try go_wp2_with fail
        refine hK.out _ _ (mkS.out _ bcn) (fun hS => ?_)
        clear hK K
        exact lst (L2_0.out g0 wn hS (k0.below bn) h0) (by kernel_rfl)
      · simp only [List.getElem_toArray, List.getElem_cons_succ, List.getElem_cons_zero]
        go_simp
        try go_wp2_with fail
        refine hK.out _ _ (mkS.out _ (ba bc _)) (fun hS => ?_)
        clear hK K
        exact lst (L1_01.out g0 _ _ hS (k0.alloc _) h0 (Cel.new w' _ _) bc.size (by have := k0.lt; omega)) (by kernel_rfl)
    have L1_1 : Hid (∀ (g1 : Nat) (w' : World) (hS : SP w') (k1 : Cel w' g1 [.bool false, .string { data := #[] }] 24) (h1 : wc.heap.size ≤ g1), wpAnyH Tryz.prog .any ops q SP 6 (ls 12 [0, 1, 2, 4, 6, 9]) (fr undef (.pointer (some ⟨g1, 0, none⟩)) (.agg #[.bool false, .string d0]) undef undef undef) w') := by
      clear L4_01 L4_0 L4_1 L4_ L3_01 L3_0 L3_1 L3_ L2_01 L2_0 L2_ L1_0
      subst hops hq hSP hfr
      intro g1 w' hS k1 h1
      have bc := bcS.out _ hS
      dsimp only
      refine rdy [3, 8] (by kernel_rfl) ?_
      refine AllReadyH.cons (o := _) rfl (fun K hK => ?_) (AllReadyH.cons (o := _) rfl (fun K hK => ?_) AllReadyH.nil)
      · simp only [List.getElem_toArray, List.getElem_cons_succ, List.getElem_cons_zero]
        go_simp
        go_fit (H2.out _)
        rintro e wn ⟨rfl, bn⟩
        have bcn := Below.after bc bn
        try go_wp2_with fail
        refine hK.out _ _ (mkS.out _ bcn) (fun hS => ?_)
        clear hK K
        exact lst (L2_1.out g1 wn hS (k1.below bn) h1) (by kernel_rfl)
      · simp only [List.getElem_toArray, List.getElem_cons_succ, List.getElem_cons_zero]
        go_simp
        try go_wp2_with fail
        refine hK.out _ _ (mkS.out _ (ba bc _)) (fun hS => ?_)
        clear hK K
        exact lst (L1_01.out _ g1 _ hS (Cel.new w' _ _) bc.size (k1.alloc _) h1 (by have := k1.lt; omega)) (by kernel_rfl)
    have L1_ : Hid (∀ (w' : World) (hS : SP w'), wpAnyH Tryz.prog .any ops q SP 7 (ls 12 [0, 1, 2, 4, 6]) (fr undef undef (.agg #[.bool false, .string d0]) undef undef undef) w') := by
      clear L4_01 L4_0 L4_1 L4_ L3_01 L3_0 L3_1 L3_ L2_01 L2_0 L2_1 L1_01
      subst hops hq hSP hfr
      intro w' hS
      have bc := bcS.out _ hS
      dsimp only
      refine rdy [3, 8, 9] (by kernel_rfl) ?_
      refine AllReadyH.cons (o := _) rfl (fun K hK => ?_) (AllReadyH.cons (o := _) rfl (fun K hK => ?_) (AllReadyH.cons (o := _) rfl (fun K hK => ?_) AllReadyH.nil))
      · simp only [List.getElem_toArray, List.getElem_cons_succ, List.getElem_cons_zero]
        go_simp
        go_fit (H2.out _)
        rintro e wn ⟨rfl, bn⟩
        have bcn := Below.after bc bn
        try go_wp2_with fail
        refine hK.out _ _ (mkS.out _ bcn) (fun hS => ?_)
        clear hK K
        exact lst (L2_.out wn hS) (by kernel_rfl)
      · simp only [List.getElem_toArray, List.getElem_cons_succ, List.getElem_cons_zero]
        go_simp
        try go_wp2_with fail
        refine hK.out _ _ (mkS.out _ (ba bc _)) (fun hS => ?_)
        clear hK K
        exact lst (L1_0.out _ _ hS (Cel.new w' _ _) bc.size) (by kernel_rfl)
      · simp only [List.getElem_toArray, List.getElem_cons_succ, List.getElem_cons_zero]
        go_simp
        try go_wp2_with fail
        refine hK.out _ _ (mkS.out _ (ba bc _)) (fun hS => ?_)
        clear hK K
        exact lst (L1_1.out _ _ hS (Cel.new w' _ _) bc.size) (by kernel_rfl)
    have L0_01 : Hid (∀ (g0 : Nat) (g1 : Nat) (w' : World) (hS : SP w') (k0 : Cel w' g0 [.bool false, .string { data := #[] }] 24) (h0 : wc.heap.size ≤ g0) (k1 : Cel w' g1 [.bool false, .string { data := #[] }] 24) (h1 : wc.heap.size ≤ g1) (n01 : ¬ g0 = g1), wpAnyH Tryz.prog .any ops q SP 6 (ls 12 [0, 2, 4, 6, 8, 9]) (fr (.pointer (some ⟨g0, 0, none⟩)) (.pointer (some ⟨g1, 0, none⟩)) undef undef undef undef) w') := by
      clear L4_01 L4_0 L4_1 L4_ L3_01 L3_0 L3_1 L3_ L2_01 L2_0 L2_1 L2_ L1_0 L1_1 L1_
      subst hops hq hSP hfr
      intro g0 g1 w' hS k0 h0 k1 h1 n01
      have bc := bcS.out _ hS
      dsimp only
      refine rdy [1] (by kernel_rfl) ?_
      refine AllReadyH.cons (o := _) rfl (fun K hK => ?_) AllReadyH.nil
      · simp only [List.getElem_toArray, List.getElem_cons_succ, List.getElem_cons_zero]
        go_simp
        go_fit (den_any n0 s0 d0 _)
        rintro e wn ⟨rfl, bn⟩
        have bcn := Below.after bc bn
        try go_wp2_with fail
        refine hK.out _ _ (mkS.out _ bcn) (fun hS => ?_)
        clear hK K
        exact lst (L1_01.out g0 g1 wn hS (k0.below bn) h0 (k1.below bn) h1 n01) (by kernel_rfl)
    have L0_0 : Hid (∀ (g0 : Nat) (w' : World) (hS : SP w') (k0 : Cel w' g0 [.bool false, .string { data := #[] }] 24) (h0 : wc.heap.size ≤ g0), wpAnyH Tryz.prog .any ops q SP 7 (ls 12 [0, 2, 4, 6, 8]) (fr (.pointer (some ⟨g0, 0, none⟩)) undef undef undef undef undef) w') := by
      clear L4_01 L4_0 L4_1 L4_ L3_01 L3_0 L3_1 L3_ L2_01 L2_0 L2_1 L2_ L1_01 L1_1 L1_
      subst hops hq hSP hfr
      intro g0 w' hS k0 h0
      have bc := bcS.out _ hS
      dsimp only
      refine rdy [1, 9] (by kernel_rfl) ?_
      refine AllReadyH.cons (o := _) rfl (fun K hK => ?_) (AllReadyH.cons (o := _) rfl (fun K hK => ?_) AllReadyH.nil)
      · simp only [List.getElem_toArray, List.getElem_cons_succ, List.getElem_cons_zero]
        go_simp
        go_fit (den_any n0 s0 d0 _)
        rintro e wn ⟨rfl, bn⟩
        have bcn := Below.after bc bn
        try go_wp2_with fail
        refine hK.out _ _ (mkS.out _ bcn) (fun hS => ?_)
        clear hK K
        exact lst (L1_0.out g0 wn hS (k0.below bn) h0) (by kernel_rfl)
      · simp only [List.getElem_toArray, List.getElem_cons_succ, List.getElem_cons_zero]
        go_simp
        try go_wp2_with fail
        refine hK.out _ _ (mkS.out _ (ba bc _)) (fun hS => ?_)
        clear hK K
        exact lst (L0_01.out g0 _ _ hS (k0.alloc _) h0 (Cel.new w' _ _) bc.size (by have := k0.lt; omega)) (by kernel_rfl)
    have L0_1 : Hid (∀ (g1 : Nat) (w' : World) (hS : SP w') (k1 : Cel w' g1 [.bool false, .string { data := #[] }] 24) (h1 : wc.heap.size ≤ g1), wpAnyH Tryz.prog .any ops q SP 7 (ls 12 [0, 2, 4, 6, 9]) (fr undef (.pointer (some ⟨g1, 0, none⟩)) undef undef undef undef) w') := by
      clear L4_01 L4_0 L4_1 L4_ L3_01 L3_0 L3_1 L3_ L2_01 L2_0 L2_1 L2_ L1_01 L1_0 L1_ L0_0
      subst hops hq hSP hfr
      intro g1 w' hS k1 h1
      have bc := bcS.out _ hS
      dsimp only
      refine rdy [1, 8] (by kernel_rfl) ?_
      refine AllReadyH.cons (o := _) rfl (fun K hK => ?_) (AllReadyH.cons (o := _) rfl (fun K hK => ?_) AllReadyH.nil)
      · simp only [List.getElem_toArray, List.getElem_cons_succ, List.getElem_cons_zero]
        go_simp
        go_fit (den_any n0 s0 d0 _)
        rintro e wn ⟨rfl, bn⟩
        have bcn := Below.after bc bn
        try go_wp2_with fail
        refine hK.out _ _ (mkS.out _ bcn) (fun hS => ?_)
        clear hK K
        exact lst (L1_1.out g1 wn hS (k1.below bn) h1) (by kernel_rfl)
      · simp only [List.getElem_toArray, List.getElem_cons_succ, List.getElem_cons_zero]
        go_simp
        try go_wp2_with fail
        refine hK.out _ _ (mkS.out _ (ba bc _)) (fun hS => ?_)
        clear hK K
        exact lst (L0_01.out _ g1 _ hS (Cel.new w' _ _) bc.size (k1.alloc _) h1 (by have := k1.lt; omega)) (by kernel_rfl)
    have L0_ : Hid (∀ (w' : World) (hS : SP w'), wpAnyH Tryz.prog .any ops q SP 8 (ls 12 [0, 2, 4, 6]) (fr undef undef undef undef undef undef) w') := by
      clear L4_01 L4_0 L4_1 L4_ L3_01 L3_0 L3_1 L3_ L2_01 L2_0 L2_1 L2_ L1_01 L1_0 L1_1 L0_01
      subst hops hq hSP hfr
      intro w' hS
      have bc := bcS.out _ hS
      dsimp only
      refine rdy [1, 8, 9] (by kernel_rfl) ?_
      refine AllReadyH.cons (o := _) rfl (fun K hK => ?_) (AllReadyH.cons (o := _) rfl (fun K hK => ?_) (AllReadyH.cons (o := _) rfl (fun K hK => ?_) AllReadyH.nil))
      · simp only [List.getElem_toArray, List.getElem_cons_succ, List.getElem_cons_zero]
        go_simp
        go_fit (den_any n0 s0 d0 _)
        rintro e wn ⟨rfl, bn⟩
        have bcn := Below.after bc bn
        try go_wp2_with fail
        refine hK.out _ _ (mkS.out _ bcn) (fun hS => ?_)
        clear hK K
        exact lst (L1_.out wn hS) (by kernel_rfl)
      · simp only [List.getElem_toArray, List.getElem_cons_succ, List.getElem_cons_zero]
        go_simp
        try go_wp2_with fail
        refine hK.out _ _ (mkS.out _ (ba bc _)) (fun hS => ?_)
        clear hK K
        exact lst (L0_0.out _ _ hS (Cel.new w' _ _) bc.size) (by kernel_rfl)
      · simp only [List.getElem_toArray, List.getElem_cons_succ, List.getElem_cons_zero]
        go_simp
        try go_wp2_with fail
        refine hK.out _ _ (mkS.out _ (ba bc _)) (fun hS => ?_)
        clear hK K
        exact lst (L0_1.out _ _ hS (Cel.new w' _ _) bc.size) (by kernel_rfl)
    clear L4_01 L4_0 L4_1 L4_ L3_01 L3_0 L3_1 L3_ L2_01 L2_0 L2_1 L2_ L1_01 L1_0 L1_1 L1_ L0_01 L0_0 L0_1
    subst hops hq hSP hfr
    refine wpAnyH_take (i := 0) (oi := _) (v := ?_) rfl (by kernel_rfl) (by kernel_rfl) (by kernel_rfl) (fun _ _ _ h => h) (Or.inl ⟨by rfl, ?_⟩) (by assumption) ?_
    rotate_left
    · (intro w hSw; (try dsimp only at hSw); go_simp; try with_reducible rfl)
    try simp only [Act.put, List.getElem_toArray, List.getElem_cons_zero, List.setIfInBounds_toArray, List.set_cons_zero, List.set_cons_succ]
    refine wpAnyH_take (i := 2) (oi := _) (v := ?_) rfl (by kernel_rfl) (by kernel_rfl) (by kernel_rfl) (fun _ _ _ h => h) (Or.inl ⟨by rfl, ?_⟩) (by assumption) ?_
    rotate_left
    · (intro w hSw; (try dsimp only at hSw); go_simp; try with_reducible rfl)
    try simp only [Act.put, List.getElem_toArray, List.getElem_cons_succ, List.getElem_cons_zero, List.setIfInBounds_toArray, List.set_cons_zero, List.set_cons_succ]
    refine wpAnyH_take (i := 4) (oi := _) (v := ?_) rfl (by kernel_rfl) (by kernel_rfl) (by kernel_rfl) (fun _ _ _ h => h) (Or.inl ⟨by rfl, ?_⟩) (by assumption) ?_
    rotate_left
    · (intro w hSw; (try dsimp only at hSw); go_simp; try with_reducible rfl)
    try simp only [Act.put, List.getElem_toArray, List.getElem_cons_succ, List.getElem_cons_zero, List.setIfInBounds_toArray, List.set_cons_zero, List.set_cons_succ]
    refine wpAnyH_take (i := 6) (oi := _) (v := ?_) rfl (by kernel_rfl) (by kernel_rfl) (by kernel_rfl) (fun _ _ _ h => h) (Or.inl ⟨by rfl, ?_⟩) (by assumption) ?_
    rotate_left
    · (intro w hSw; (try dsimp only at hSw); go_simp; try with_reducible rfl)
    try simp only [Act.put, List.getElem_toArray, List.getElem_cons_succ, List.getElem_cons_zero, List.setIfInBounds_toArray, List.set_cons_zero, List.set_cons_succ]
    exact lst (L0_.out _ (mkS.out _ (bdrew _))) (by kernel_rfl)
  case rest =>
  obtain ⟨gp, gq, rfl, rfl, lp, lq, kp, kq, b1⟩ := hcut
  clear mkS bcS
  have sz := b1.size
  replace ka := ka.below b1
  replace kb := kb.below b1
  replace kr := kr.below b1
  replace kg := kg.below b1
  replace bb := Below.after bb b1
  clear b1
  have tp := kp.lt
  have tq := kq.lt
  go_wp2_with fail
  have mkS : ∀ w', Below wc.heap.size wc w' → (Below wc.heap.size wc w' ∧ w'.cell? ⟨w.heap.size, 0, none⟩ = some (.bool n0) ∧ w'.cell? ⟨w.heap.size, 1, none⟩ = some (.string s0) ∧ w'.cell? ⟨w.heap.size, 2, none⟩ = some (.string d0) ∧ w'.cell? ⟨w.heap.size + 1, 0, none⟩ = some (.bool n1) ∧ w'.cell? ⟨w.heap.size + 1, 1, none⟩ = some (.string s1) ∧ w'.cell? ⟨w.heap.size + 1, 2, none⟩ = some (.string d1) ∧ w'.cell? ⟨gp, 0, none⟩ = some (.bool aN) ∧ w'.cell? ⟨gp, 1, none⟩ = some (.string aS) ∧ w'.cell? ⟨gq, 0, none⟩ = some (.bool bN) ∧ w'.cell? ⟨gq, 1, none⟩ = some (.string bS)) := fun w' h => ⟨h, cel3_0 (ka.below h), cel3_1 (ka.below h), cel3_2 (ka.below h), cel3_0 (kb.below h), cel3_1 (kb.below h), cel3_2 (kb.below h), cel2_0' (kp.below h), cel2_1' (kp.below h), cel2_0' (kq.below h), cel2_1' (kq.below h)⟩
  have bcS : ∀ w', (Below wc.heap.size wc w' ∧ w'.cell? ⟨w.heap.size, 0, none⟩ = some (.bool n0) ∧ w'.cell? ⟨w.heap.size, 1, none⟩ = some (.string s0) ∧ w'.cell? ⟨w.heap.size, 2, none⟩ = some (.string d0) ∧ w'.cell? ⟨w.heap.size + 1, 0, none⟩ = some (.bool n1) ∧ w'.cell? ⟨w.heap.size + 1, 1, none⟩ = some (.string s1) ∧ w'.cell? ⟨w.heap.size + 1, 2, none⟩ = some (.string d1) ∧ w'.cell? ⟨gp, 0, none⟩ = some (.bool aN) ∧ w'.cell? ⟨gp, 1, none⟩ = some (.string aS) ∧ w'.cell? ⟨gq, 0, none⟩ = some (.bool bN) ∧ w'.cell? ⟨gq, 1, none⟩ = some (.string bS)) → Below wc.heap.size wc w' := fun w' h => h.1
  replace mkS := shut mkS
  replace bcS := shut bcS
  go_cut [9] from 23 to 31 (fun v wx => ∃ gc, v = .pointer (some ⟨gc, 0, none⟩) ∧ wc.heap.size ≤ gc ∧ Cel wx gc [.bool zN, .string zS] 24 ∧ Below wc.heap.size wc wx)
  case first =>
    clear H1 H2 H3 H7 H8 H9 H10 kr kg
    refine wp_region_held_drew (S := (fun w' => Below wc.heap.size wc w' ∧ w'.cell? ⟨w.heap.size, 0, none⟩ = some (.bool n0) ∧ w'.cell? ⟨w.heap.size, 1, none⟩ = some (.string s0) ∧ w'.cell? ⟨w.heap.size, 2, none⟩ = some (.string d0) ∧ w'.cell? ⟨w.heap.size + 1, 0, none⟩ = some (.bool n1) ∧ w'.cell? ⟨w.heap.size + 1, 1, none⟩ = some (.string s1) ∧ w'.cell? ⟨w.heap.size + 1, 2, none⟩ = some (.string d1) ∧ w'.cell? ⟨gp, 0, none⟩ = some (.bool aN) ∧ w'.cell? ⟨gp, 1, none⟩ = some (.string aS) ∧ w'.cell? ⟨gq, 0, none⟩ = some (.bool bN) ∧ w'.cell? ⟨gq, 1, none⟩ = some (.string bS))) (by kernel_rfl) (mkS.out _ (bdrew _)) (fun _ => ?_)
    refine absO 11 (by kernel_rfl) (fun ops q SP hops hq hSP => ?_)
    obtain ⟨fr, hfr⟩ : ∃ fr : Value → Value → Value → Value → Act, fr = (fun x9 x26 x30 x31 => { tmps := #[.agg #[.bool n0, .string s0, .string d0], .agg #[.bool n1, .string s1, .string d1], .pointer (some ⟨w.heap.size, 0, none⟩), .pointer (some ⟨w.heap.size + 1, 0, none⟩), .pointer (some ⟨w.heap.size + 1 + 1, 0, none⟩), .int .i64 0, .pointer (some ⟨gg, 0, none⟩), .pointer (some ⟨gp, 0, none⟩), .pointer (some ⟨gq, 0, none⟩), x9, u10, u11, u12, u13, u14, u15, u16, u17, u18, u19, u20, u21, u22, .pointer (some ⟨w.heap.size, 0, none⟩), .agg #[.bool n0, .string s0], .agg #[.bool bN, .string bS], x26, .pointer (some ⟨w.heap.size + 1, 0, none⟩), .agg #[.bool n1, .string s1], .agg #[.bool aN, .string aS], x30, x31, undef, undef, undef, undef, undef, undef, undef, undef, undef, undef, undef, undef, undef, undef], defers := [] }) := ⟨_, rfl⟩
    have L3_0 : Hid (∀ (g0 : Nat) (w' : World) (hS : SP w') (k0 : Cel w' g0 [.bool false, .string { data := #[] }] 24) (h0 : wc.heap.size ≤ g0), wpAnyH Tryz.prog .any ops q SP 1 (ls 11 [0, 1, 2, 3, 4, 5, 6, 7, 8, 9]) (fr (.pointer (some ⟨g0, 0, none⟩)) (.agg #[.bool xN, .string xS]) (.agg #[.bool yN, .string yS]) (.agg #[.bool zN, .string zS])) w') := by
      subst hops hq hSP hfr
      intro g0 w' hS k0 h0
      have bc := bcS.out _ hS
      dsimp only
      have e0_0 := cel2_0' k0
      have f0_0 := Cel.frozen k0 0
      have e0_1 := cel2_1' k0
      have f0_1 := Cel.frozen k0 1
      refine rdy [10] (by kernel_rfl) ?_
      refine AllReadyH.cons (o := _) rfl (fun K hK => ?_) AllReadyH.nil
      simp only [List.getElem_toArray, List.getElem_cons_succ, List.getElem_cons_zero]
      go_simp
      try go_wp2_with fail
      clear e0_0 f0_0 e0_1 f0_1
      refine hK.out _ _ (mkS.out _ (bset (bset bc h0 0 (.bool zN)) h0 1 (.string zS))) (fun hS => ?_)
      clear hK K
      replace k0 := (Cel.set (Cel.set k0 0 (.bool zN)) 1 (.string zS))
      replace bc := (bset (bset bc h0 0 (.bool zN)) h0 1 (.string zS))
      refine wpAnyH_done (by kernel_rfl) ?_ _
      go_wp2_with fail
      go_meet
      exact ⟨_, rfl, h0, k0, bc⟩
    have L3_ : Hid (∀ (w' : World) (hS : SP w'), wpAnyH Tryz.prog .any ops q SP 2 (ls 11 [0, 1, 2, 3, 4, 5, 6, 7, 8]) (fr undef (.agg #[.bool xN, .string xS]) (.agg #[.bool yN, .string yS]) (.agg #[.bool zN, .string zS])) w') := by
      subst hops hq hSP hfr
      intro w' hS
      have bc := bcS.out _ hS
      dsimp only
      refine rdy [9] (by kernel_rfl) ?_
      refine AllReadyH.cons (o := _) rfl (fun K hK => ?_) AllReadyH.nil
      · simp only [List.getElem_toArray, List.getElem_cons_succ, List.getElem_cons_zero]
        go_simp
        try go_wp2_with fail
        refine hK.out _ _ (mkS.out _ (ba bc _)) (fun hS => ?_)
        clear hK K
        exact lst (L3_0.out _ _ hS (Cel.new w' _ _) bc.size) (by kernel_rfl)
    have L2_0 : Hid (∀ (g0 : Nat) (w' : World) (hS : SP w') (k0 : Cel w' g0 [.bool false, .string { data := #[] }] 24) (h0 : wc.heap.size ≤ g0), wpAnyH Tryz.prog .any ops q SP 2 (ls 11 [0, 1, 2, 3, 4, 5, 6, 7, 9]) (fr (.pointer (some ⟨g0, 0, none⟩)) (.agg #[.bool xN, .string xS]) (.agg #[.bool yN, .string yS]) undef) w') := by
      clear L3_
      subst hops hq hSP hfr
      intro g0 w' hS k0 h0
      have bc := bcS.out _ hS
      dsimp only
      refine rdy [8] (by kernel_rfl) ?_
      refine AllReadyH.cons (o := _) rfl (fun K hK => ?_) AllReadyH.nil
      · simp only [List.getElem_toArray, List.getElem_cons_succ, List.getElem_cons_zero]
        go_simp
        go_fit (H6.out _)
        rintro e wn ⟨rfl, bn⟩
        have bcn := Below.after bc bn
        try go_wp2_with fail
        refine hK.out _ _ (mkS.out _ bcn) (fun hS => ?_)
        clear hK K
        exact lst (L3_0.out g0 wn hS (k0.below bn) h0) (by kernel_rfl)
    have L2_ : Hid (∀ (w' : World) (hS : SP w'), wpAnyH Tryz.prog .any ops q SP 3 (ls 11 [0, 1, 2, 3, 4, 5, 6, 7]) (fr undef (.agg #[.bool xN, .string xS]) (.agg #[.bool yN, .string yS]) undef) w') := by
      clear L3_0
      subst hops hq hSP hfr
      intro w' hS
      have bc := bcS.out _ hS
      dsimp only
      refine rdy [8, 9] (by kernel_rfl) ?_
      refine AllReadyH.cons (o := _) rfl (fun K hK => ?_) (AllReadyH.cons (o := _) rfl (fun K hK => ?_) AllReadyH.nil)
      · simp only [List.getElem_toArray, List.getElem_cons_succ, List.getElem_cons_zero]
        go_simp
        go_fit (H6.out _)
        rintro e wn ⟨rfl, bn⟩
        have bcn := Below.after bc bn
        try go_wp2_with fail
        refine hK.out _ _ (mkS.out _ bcn) (fun hS => ?_)
        clear hK K
        exact lst (L3_.out wn hS) (by kernel_rfl)
      · simp only [List.getElem_toArray, List.getElem_cons_succ, List.getElem_cons_zero]
        go_simp
        try go_wp2_with fail
        refine hK.out _ _ (mkS.out _ (ba bc _)) (fun hS => ?_)
        clear hK K
        exact lst (L2_0.out _ _ hS (Cel.new w' _ _) bc.size) (by kernel_rfl)
    have L1_0 : Hid (∀ (g0 : Nat) (w' : World) (hS : SP w') (k0 : Cel w' g0 [.bool false, .string { data := #[] }] 24) (h0 : wc.heap.size ≤ g0), wpAnyH Tryz.prog .any ops q SP 3 (ls 11 [0, 1, 2, 3, 4, 5, 6, 9]) (fr (.pointer (some ⟨g0, 0, none⟩)) (.agg #[.bool xN, .string xS]) undef undef) w') := by
      clear L3_0 L3_ L2_
      subst hops hq hSP hfr
      intro g0 w' hS k0 h0
      have bc := bcS.out _ hS
      dsimp only
      refine rdy [7] (by kernel_rfl) ?_
      refine AllReadyH.cons (o := _) rfl (fun K hK => ?_) AllReadyH.nil
      · simp only [List.getElem_toArray, List.getElem_cons_succ, List.getElem_cons_zero]
        go_simp
        go_fit (H5.out _)
        rintro e wn ⟨rfl, bn⟩
        have bcn := Below.after bc bn
        try go_wp2_with fail
        refine hK.out _ _ (mkS.out _ bcn) (fun hS => ?_)
        clear hK K
        exact lst (L2_0.out g0 wn hS (k0.below bn) h0) (by kernel_rfl)
    have L1_ : Hid (∀ (w' : World) (hS : SP w'), wpAnyH Tryz.prog .any ops q SP 4 (ls 11 [0, 1, 2, 3, 4, 5, 6]) (fr undef (.agg #[.bool xN, .string xS]) undef undef) w') := by
      clear L3_0 L3_ L2_0
      subst hops hq hSP hfr
      intro w' hS
      have bc := bcS.out _ hS
      dsimp only
      refine rdy [7, 9] (by kernel_rfl) ?_
      refine AllReadyH.cons (o := _) rfl (fun K hK => ?_) (AllReadyH.cons (o := _) rfl (fun K hK => ?_) AllReadyH.nil)
      · simp only [List.getElem_toArray, List.getElem_cons_succ, List.getElem_cons_zero]
        go_simp
        go_fit (H5.out _)
        rintro e wn ⟨rfl, bn⟩
        have bcn := Below.after bc bn
        try go_wp2_with fail
        refine hK.out _ _ (mkS.out _ bcn) (fun hS => ?_)
        clear hK K
        exact lst (L2_.out wn hS) (by kernel_rfl)
      · simp only [List.getElem_toArray, List.getElem_cons_succ, List.getElem_cons_zero]
        go_simp
        try go_wp2_with fail
        refine hK.out _ _ (mkS.out _ (ba bc _)) (fun hS => ?_)
        clear hK K
        exact lst (L1_0.out _ _ hS (Cel.new w' _ _) bc.size) (by kernel_rfl)
    have L0_0 : Hid (∀ (g0 : Nat) (w' : World) (hS : SP w') (k0 : Cel w' g0 [.bool false, .string { data := #[] }] 24) (h0 : wc.heap.size ≤ g0), wpAnyH Tryz.prog .any ops q SP 4 (ls 11 [0, 1, 2, 4, 5, 6, 9]) (fr (.pointer (some ⟨g0, 0, none⟩)) undef undef undef) w') := by
      clear L3_0 L3_ L2_0 L2_ L1_
      subst hops hq hSP hfr
      intro g0 w' hS k0 h0
      have bc := bcS.out _ hS
      dsimp only
      refine rdy [3] (by kernel_rfl) ?_
      refine AllReadyH.cons (o := _) rfl (fun K hK => ?_) AllReadyH.nil
      · simp only [List.getElem_toArray, List.getElem_cons_succ, List.getElem_cons_zero]
        go_simp
        go_fit (H4.out _)
        rintro e wn ⟨rfl, bn⟩
        have bcn := Below.after bc bn
        try go_wp2_with fail
        refine hK.out _ _ (mkS.out _ bcn) (fun hS => ?_)
        clear hK K
        exact lst (L1_0.out g0 wn hS (k0.below bn) h0) (by kernel_rfl)
    have L0_ : Hid (∀ (w' : World) (hS : SP w'), wpAnyH Tryz.prog .any ops q SP 5 (ls 11 [0, 1, 2, 4, 5, 6]) (fr undef undef undef undef) w') := by
      clear L3_0 L3_ L2_0 L2_ L1_0
      subst hops hq hSP hfr
      intro w' hS
      have bc := bcS.out _ hS
      dsimp only
      refine rdy [3, 9] (by kernel_rfl) ?_
      refine AllReadyH.cons (o := _) rfl (fun K hK => ?_) (AllReadyH.cons (o := _) rfl (fun K hK => ?_) AllReadyH.nil)
      · simp only [List.getElem_toArray, List.getElem_cons_succ, List.getElem_cons_zero]
        go_simp
        go_fit (H4.out _)
        rintro e wn ⟨rfl, bn⟩
        have bcn := Below.after bc bn
        try go_wp2_with fail
        refine hK.out _ _ (mkS.out _ bcn) (fun hS => ?_)
        clear hK K
        exact lst (L1_.out wn hS) (by kernel_rfl)
      · simp only [List.getElem_toArray, List.getElem_cons_succ, List.getElem_cons_zero]
        go_simp
        try go_wp2_with fail
        refine hK.out _ _ (mkS.out _ (ba bc _)) (fun hS => ?_)
        clear hK K
        exact lst (L0_0.out _ _ hS (Cel.new w' _ _) bc.size) (by kernel_rfl)
    clear L3_0 L3_ L2_0 L2_ L1_0 L1_ L0_0
    subst hops hq hSP hfr
    refine wpAnyH_take (i := 0) (oi := _) (v := ?_) rfl (by kernel_rfl) (by kernel_rfl) (by kernel_rfl) (fun _ _ _ h => h) (Or.inl ⟨by rfl, ?_⟩) (by assumption) ?_
    rotate_left
    · (intro w hSw; (try dsimp only at hSw); go_simp; try with_reducible rfl)
    try simp only [Act.put, List.getElem_toArray, List.getElem_cons_zero, List.setIfInBounds_toArray, List.set_cons_zero, List.set_cons_succ]
    refine wpAnyH_take (i := 1) (oi := _) (v := ?_) rfl (by kernel_rfl) (by kernel_rfl) (by kernel_rfl) (fun _ _ _ h => h) (Or.inl ⟨by rfl, ?_⟩) (by assumption) ?_
    rotate_left
    · (intro w hSw; (try dsimp only at hSw); go_simp; try with_reducible rfl)
    try simp only [Act.put, List.getElem_toArray, List.getElem_cons_succ, List.getElem_cons_zero, List.setIfInBounds_toArray, List.set_cons_zero, List.set_cons_succ]
    refine wpAnyH_take (i := 2) (oi := _) (v := ?_) rfl (by kernel_rfl) (by kernel_rfl) (by kernel_rfl) (fun _ _ _ h => h) (Or.inl ⟨by rfl, ?_⟩) (by assumption) ?_
    rotate_left
    · (intro w hSw; (try dsimp only at hSw); go_simp; try with_reducible rfl)
    try simp only [Act.put, List.getElem_toArray, List.getElem_cons_succ, List.getElem_cons_zero, List.setIfInBounds_toArray, List.set_cons_zero, List.set_cons_succ]
    refine wpAnyH_take (i := 4) (oi := _) (v := ?_) rfl (by kernel_rfl) (by kernel_rfl) (by kernel_rfl) (fun _ _ _ h => h) (Or.inl ⟨by rfl, ?_⟩) (by assumption) ?_
    rotate_left
    · (intro w hSw; (try dsimp only at hSw); go_simp; try with_reducible rfl)
    try simp only [Act.put, List.getElem_toArray, List.getElem_cons_succ, List.getElem_cons_zero, List.setIfInBounds_toArray, List.set_cons_zero, List.set_cons_succ]
    refine wpAnyH_take (i := 5) (oi := _) (v := ?_) rfl (by kernel_rfl) (by kernel_rfl) (by kernel_rfl) (fun _ _ _ h => h) (Or.inl ⟨by rfl, ?_⟩) (by assumption) ?_
    rotate_left
    · (intro w hSw; (try dsimp only at hSw); go_simp; try with_reducible rfl)
    try simp only [Act.put, List.getElem_toArray, List.getElem_cons_succ, List.getElem_cons_zero, List.setIfInBounds_toArray, List.set_cons_zero, List.set_cons_succ]
    refine wpAnyH_take (i := 6) (oi := _) (v := ?_) rfl (by kernel_rfl) (by kernel_rfl) (by kernel_rfl) (fun _ _ _ h => h) (Or.inl ⟨by rfl, ?_⟩) (by assumption) ?_
    rotate_left
    · (intro w hSw; (try dsimp only at hSw); go_simp; try with_reducible rfl)
    try simp only [Act.put, List.getElem_toArray, List.getElem_cons_succ, List.getElem_cons_zero, List.setIfInBounds_toArray, List.set_cons_zero, List.set_cons_succ]
    exact lst (L0_.out _ (mkS.out _ (bdrew _))) (by kernel_rfl)
  case rest =>
  obtain ⟨gz, rfl, lz, kz, b1⟩ := hcut
  clear mkS bcS
  have sz := b1.size
  replace ka := ka.below b1
  replace kb := kb.below b1
  replace kr := kr.below b1
  replace kg := kg.below b1
  replace kp := kp.below b1
  replace kq := kq.below b1
  replace bb := Below.after bb b1
  clear b1
  have tz := kz.lt
  have cz_0 := cel2_0' kz
  have cz_1 := cel2_1' kz
  have cg_2 := cel2_0' kg
  have cg_3 := cel2_1' kg
  go_wp2_with fail
  clear cz_0 cz_1 cg_2 cg_3
  go_fit (H7.out _ bb)
  rintro e w2 ⟨rfl, b1⟩
  have sz := b1.size
  replace ka := ka.below b1
  replace kb := kb.below b1
  replace kr := kr.below b1
  replace kg := kg.below b1
  replace kp := kp.below b1
  replace kq := kq.below b1
  replace kz := kz.below b1
  replace bb := Below.after bb b1
  clear b1
  have cg_0 := cel2_0' kg
  have fg_1 := Cel.frozen kg 0
  have cg_2 := cel2_1' kg
  have fg_3 := Cel.frozen kg 1
  go_wp2_with fail
  clear cg_0 fg_1 cg_2 fg_3
  obtain ⟨w3, hw⟩ : ∃ x, x = (w2.setCell ⟨gg, 0, none⟩ (.bool cN)).setCell ⟨gg, 1, none⟩ (.string cS) := ⟨_, rfl⟩
  rw [← hw]
  replace ka := (Cel.other (g' := gg) (Cel.other (g' := gg) ka (by omega) 0 (.bool cN)) (by omega) 1 (.string cS))
  rw [← hw] at ka
  replace kb := (Cel.other (g' := gg) (Cel.other (g' := gg) kb (by omega) 0 (.bool cN)) (by omega) 1 (.string cS))
  rw [← hw] at kb
  replace kr := (Cel.other (g' := gg) (Cel.other (g' := gg) kr (by omega) 0 (.bool cN)) (by omega) 1 (.string cS))
  rw [← hw] at kr
  replace kg := ((kg.set 0 (.bool cN)).set 1 (.string cS))
  rw [← hw] at kg
  replace kp := (Cel.other (g' := gg) (Cel.other (g' := gg) kp (by omega) 0 (.bool cN)) (by omega) 1 (.string cS))
  rw [← hw] at kp
  replace kq := (Cel.other (g' := gg) (Cel.other (g' := gg) kq (by omega) 0 (.bool cN)) (by omega) 1 (.string cS))
  rw [← hw] at kq
  replace kz := (Cel.other (g' := gg) (Cel.other (g' := gg) kz (by omega) 0 (.bool cN)) (by omega) 1 (.string cS))
  rw [← hw] at kz
  replace bb := (bset (g := gg) (bset (g := gg) bb (by omega) 0 (.bool cN)) (by omega) 1 (.string cS))
  rw [← hw] at bb
  clear hw
  have qb : w.heap.size + 1 ≠ w.heap.size + 1 + 1 := by omega
  have qp : gp ≠ w.heap.size + 1 + 1 := by omega
  have qz : gz ≠ w.heap.size + 1 + 1 := by omega
  have qg : gg ≠ w.heap.size + 1 + 1 := by omega
  have gf := fld1 rN rS
  go_region_held3 (fun w' => w'.cell? ⟨w.heap.size + 1, 0, none⟩ = some (.bool n1) ∧ w'.cell? ⟨w.heap.size + 1, 1, none⟩ = some (.string s1) ∧ w'.cell? ⟨w.heap.size + 1, 2, none⟩ = some (.string d1) ∧ w'.cell? ⟨gp, 0, none⟩ = some (.bool aN) ∧ w'.cell? ⟨gp, 1, none⟩ = some (.string aS) ∧ w'.cell? ⟨gz, 0, none⟩ = some (.bool zN) ∧ w'.cell? ⟨gz, 1, none⟩ = some (.string zS) ∧ w'.cell? ⟨gg, 0, none⟩ = some (.bool cN) ∧ w'.cell? ⟨gg, 1, none⟩ = some (.string cS)) (first | exact ⟨cel3_0 kb, cel3_1 kb, cel3_2 kb, cel2_0' kp, cel2_1' kp, cel2_0' kz, cel2_1' kz, cel2_0' kg, cel2_1' kg⟩ | exact ⟨cel3_0 (Cel.other (Cel.other (Cel.other kb qb 0 _) qb 1 _) qb 2 _), cel3_1 (Cel.other (Cel.other (Cel.other kb qb 0 _) qb 1 _) qb 2 _), cel3_2 (Cel.other (Cel.other (Cel.other kb qb 0 _) qb 1 _) qb 2 _), cel2_0' (Cel.other (Cel.other (Cel.other kp qp 0 _) qp 1 _) qp 2 _), cel2_1' (Cel.other (Cel.other (Cel.other kp qp 0 _) qp 1 _) qp 2 _), cel2_0' (Cel.other (Cel.other (Cel.other kz qz 0 _) qz 1 _) qz 2 _), cel2_1' (Cel.other (Cel.other (Cel.other kz qz 0 _) qz 1 _) qz 2 _), cel2_0' (Cel.other (Cel.other (Cel.other kg qg 0 _) qg 1 _) qg 2 _), cel2_1' (Cel.other (Cel.other (Cel.other kg qg 0 _) qg 1 _) qg 2 _)⟩) (first | (go_at_call 56; go_fit (H8.out _); rintro e wn ⟨rfl, bn⟩; replace ka := ka.below ⟨bn.os, bn.tape, bn.output, bn.size, bn.block⟩; replace kb := kb.below ⟨bn.os, bn.tape, bn.output, bn.size, bn.block⟩; replace kr := kr.below ⟨bn.os, bn.tape, bn.output, bn.size, bn.block⟩; replace kg := kg.below ⟨bn.os, bn.tape, bn.output, bn.size, bn.block⟩; replace kp := kp.below ⟨bn.os, bn.tape, bn.output, bn.size, bn.block⟩; replace kq := kq.below ⟨bn.os, bn.tape, bn.output, bn.size, bn.block⟩; replace kz := kz.below ⟨bn.os, bn.tape, bn.output, bn.size, bn.block⟩; replace bb := Below.after bb ⟨bn.os, bn.tape, bn.output, bn.size, bn.block⟩) | (go_at_call 39; go_fit (den_any n1 s1 d1 _); rintro e wn ⟨rfl, bn⟩; replace ka := ka.below ⟨bn.os, bn.tape, bn.output, bn.size, bn.block⟩; replace kb := kb.below ⟨bn.os, bn.tape, bn.output, bn.size, bn.block⟩; replace kr := kr.below ⟨bn.os, bn.tape, bn.output, bn.size, bn.block⟩; replace kg := kg.below ⟨bn.os, bn.tape, bn.output, bn.size, bn.block⟩; replace kp := kp.below ⟨bn.os, bn.tape, bn.output, bn.size, bn.block⟩; replace kq := kq.below ⟨bn.os, bn.tape, bn.output, bn.size, bn.block⟩; replace kz := kz.below ⟨bn.os, bn.tape, bn.output, bn.size, bn.block⟩; replace bb := Below.after bb ⟨bn.os, bn.tape, bn.output, bn.size, bn.block⟩) | (go_at_call 56; go_fit (H9.out _); rintro e wn ⟨rfl, bn⟩; replace ka := ka.below ⟨bn.os, bn.tape, bn.output, bn.size, bn.block⟩; replace kb := kb.below ⟨bn.os, bn.tape, bn.output, bn.size, bn.block⟩; replace kr := kr.below ⟨bn.os, bn.tape, bn.output, bn.size, bn.block⟩; replace kg := kg.below ⟨bn.os, bn.tape, bn.output, bn.size, bn.block⟩; replace kp := kp.below ⟨bn.os, bn.tape, bn.output, bn.size, bn.block⟩; replace kq := kq.below ⟨bn.os, bn.tape, bn.output, bn.size, bn.block⟩; replace kz := kz.below ⟨bn.os, bn.tape, bn.output, bn.size, bn.block⟩; replace bb := Below.after bb ⟨bn.os, bn.tape, bn.output, bn.size, bn.block⟩) | (go_at_call 38; go_fit (H10.out _); rintro e wn ⟨rfl, bn⟩; replace ka := ka.below ⟨bn.os, bn.tape, bn.output, bn.size, bn.block⟩; replace kb := kb.below ⟨bn.os, bn.tape, bn.output, bn.size, bn.block⟩; replace kr := kr.below ⟨bn.os, bn.tape, bn.output, bn.size, bn.block⟩; replace kg := kg.below ⟨bn.os, bn.tape, bn.output, bn.size, bn.block⟩; replace kp := kp.below ⟨bn.os, bn.tape, bn.output, bn.size, bn.block⟩; replace kq := kq.below ⟨bn.os, bn.tape, bn.output, bn.size, bn.block⟩; replace kz := kz.below ⟨bn.os, bn.tape, bn.output, bn.size, bn.block⟩; replace bb := Below.after bb ⟨bn.os, bn.tape, bn.output, bn.size, bn.block⟩; have e0 := cel3_0 kr; have f0 := Cel.frozen kr 0; have e1 := cel3_1 kr; have f1 := Cel.frozen kr 1; have e2 := cel3_2 kr; have f2 := Cel.frozen kr 2))
  go_wp2
  exact post_q1 (p := 4) (u := 5) (by kernel_rfl) rfl rfl rfl (((kr.set 0 _).set 1 _).set 2 _) ⟨rfl, bset (bset (bset bb (by omega) 0 _) (by omega) 1 _) (by omega) 2 _⟩
end Go.Proofs.YtlihcbeacjimkaaGreatDoor
namespace Go.Proofs.YtlihcbeacjimkaaGreatDoor
open Go.RowKit

set_option maxRecDepth 100000 in
set_option maxHeartbeats 8000000 in
theorem product_walk (n0 n1 gN eN aN bN pN cN dN qN : Bool) (s0 d0 s1 d1 gS eS aS bS pS cS dS qS : ByteArray) (w : World)
    (H1 : Hid (∀ w1, Below w.heap.size w w1 → Calls Tryz.prog 55 #[.agg #[.bool n0, .string s0], .agg #[.bool false, .string d1]] w1 fun e w' => e = .returned (.agg #[.bool gN, .string gS]) ∧ Below w1.heap.size w1 w'))
    (H2 : Hid (∀ w1, Below w.heap.size w w1 → Calls Tryz.prog 55 #[.agg #[.bool n1, .string s1], .agg #[.bool false, .string d0]] w1 fun e w' => e = .returned (.agg #[.bool eN, .string eS]) ∧ Below w1.heap.size w1 w'))
    (H3 : Hid (∀ w1, Calls Tryz.prog 56 #[.agg #[.bool n0, .string s0], .agg #[.bool gN, .string gS]] w1 fun e w' => e = .returned (.agg #[.bool aN, .string aS]) ∧ Below w1.heap.size w1 w'))
    (H4 : Hid (∀ w1, Calls Tryz.prog 56 #[.agg #[.bool n1, .string s1], .agg #[.bool eN, .string eS]] w1 fun e w' => e = .returned (.agg #[.bool bN, .string bS]) ∧ Below w1.heap.size w1 w'))
    (H5 : Hid (∀ w1, Calls Tryz.prog 38 #[.agg #[.bool aN, .string aS], .agg #[.bool bN, .string bS]] w1 fun e w' => e = .returned (.agg #[.bool pN, .string pS]) ∧ Below w1.heap.size w1 w'))
    (H6 : Hid (∀ w1, Calls Tryz.prog 56 #[.agg #[.bool false, .string d0], .agg #[.bool eN, .string eS]] w1 fun e w' => e = .returned (.agg #[.bool cN, .string cS]) ∧ Below w1.heap.size w1 w'))
    (H7 : Hid (∀ w1, Calls Tryz.prog 56 #[.agg #[.bool false, .string d1], .agg #[.bool gN, .string gS]] w1 fun e w' => e = .returned (.agg #[.bool dN, .string dS]) ∧ Below w1.heap.size w1 w'))
    (H8 : Hid (∀ w1, Calls Tryz.prog 38 #[.agg #[.bool cN, .string cS], .agg #[.bool dN, .string dS]] w1 fun e w' => e = .returned (.agg #[.bool qN, .string qS]) ∧ Below w1.heap.size w1 w')) :
    Calls Tryz.prog 43 #[.agg #[.bool n0, .string s0, .string d0], .agg #[.bool n1, .string s1, .string d1]] w fun e w' => e = .returned (.tuple #[.agg #[.bool pN, .string pS, .string qS], .int .i64 0]) ∧ Below w.heap.size w w' := by
  go_enter Tryz.func43, Tryz.ntmps43
  go_wp2_with fail
  obtain ⟨w1, hw, ka, kb, kr, b1⟩ := mk3 w [.bool n0, .string s0, .string d0] [.bool n1, .string s1, .string d1] [.bool false, .string { data := #[] }, .string { data := #[] }] 26 26 26
  rw [← hw]
  clear hw
  have sz := b1.size
  have ta := ka.lt
  have tb := kb.lt
  have tr := kr.lt
  have bb := b1
  clear b1
  have mkS : ∀ w', Below w1.heap.size w1 w' → (Below w1.heap.size w1 w' ∧ w'.cell? ⟨w.heap.size, 0, none⟩ = some (.bool n0) ∧ w'.cell? ⟨w.heap.size, 1, none⟩ = some (.string s0) ∧ w'.cell? ⟨w.heap.size, 2, none⟩ = some (.string d0) ∧ w'.cell? ⟨w.heap.size + 1, 0, none⟩ = some (.bool n1) ∧ w'.cell? ⟨w.heap.size + 1, 1, none⟩ = some (.string s1) ∧ w'.cell? ⟨w.heap.size + 1, 2, none⟩ = some (.string d1)) := fun w' h => ⟨h, cel3_0 (ka.below h), cel3_1 (ka.below h), cel3_2 (ka.below h), cel3_0 (kb.below h), cel3_1 (kb.below h), cel3_2 (kb.below h)⟩
  have bcS : ∀ w', (Below w1.heap.size w1 w' ∧ w'.cell? ⟨w.heap.size, 0, none⟩ = some (.bool n0) ∧ w'.cell? ⟨w.heap.size, 1, none⟩ = some (.string s0) ∧ w'.cell? ⟨w.heap.size, 2, none⟩ = some (.string d0) ∧ w'.cell? ⟨w.heap.size + 1, 0, none⟩ = some (.bool n1) ∧ w'.cell? ⟨w.heap.size + 1, 1, none⟩ = some (.string s1) ∧ w'.cell? ⟨w.heap.size + 1, 2, none⟩ = some (.string d1)) → Below w1.heap.size w1 w' := fun w' h => h.1
  replace mkS := shut mkS
  replace bcS := shut bcS
  go_cut [6, 7] from 10 to 19 (fun v u wx => ∃ gc gd, v = .pointer (some ⟨gc, 0, none⟩) ∧ u = .pointer (some ⟨gd, 0, none⟩) ∧ w1.heap.size ≤ gc ∧ w1.heap.size ≤ gd ∧ Cel wx gc [.bool gN, .string gS] 24 ∧ Cel wx gd [.bool eN, .string eS] 24 ∧ Below w1.heap.size w1 wx)
  case first =>
    clear H3 H4 H5 H6 H7 H8 kr
    refine wp_region_held_drew (S := (fun w' => Below w1.heap.size w1 w' ∧ w'.cell? ⟨w.heap.size, 0, none⟩ = some (.bool n0) ∧ w'.cell? ⟨w.heap.size, 1, none⟩ = some (.string s0) ∧ w'.cell? ⟨w.heap.size, 2, none⟩ = some (.string d0) ∧ w'.cell? ⟨w.heap.size + 1, 0, none⟩ = some (.bool n1) ∧ w'.cell? ⟨w.heap.size + 1, 1, none⟩ = some (.string s1) ∧ w'.cell? ⟨w.heap.size + 1, 2, none⟩ = some (.string d1))) (by kernel_rfl) (mkS.out _ (bdrew _)) (fun _ => ?_)
    refine absO 14 (by kernel_rfl) (fun ops q SP hops hq hSP => ?_)
    obtain ⟨fr, hfr⟩ : ∃ fr : Value → Value → Value → Value → Value → Value → Act, fr = (fun x6 x7 x13 x14 x18 x19 => { tmps := #[.agg #[.bool n0, .string s0, .string d0], .agg #[.bool n1, .string s1, .string d1], .pointer (some ⟨w.heap.size, 0, none⟩), .pointer (some ⟨w.heap.size + 1, 0, none⟩), .pointer (some ⟨w.heap.size + 1 + 1, 0, none⟩), .int .i64 0, x6, x7, undef, undef, .pointer (some ⟨w.heap.size, 0, none⟩), .agg #[.bool n0, .string s0], .agg #[.bool n1, .string s1, .string d1], x13, x14, .pointer (some ⟨w.heap.size + 1, 0, none⟩), .agg #[.bool n1, .string s1], .agg #[.bool n0, .string s0, .string d0], x18, x19, undef, undef, undef, undef, undef, undef, undef, undef, undef, undef, undef, undef, undef, undef, undef, undef, undef, undef, undef, undef, undef, undef], defers := [] }) := ⟨_, rfl⟩
    have L4_01 : Hid (∀ (g0 : Nat) (g1 : Nat) (w' : World) (hS : SP w') (k0 : Cel w' g0 [.bool false, .string { data := #[] }] 24) (h0 : w1.heap.size ≤ g0) (k1 : Cel w' g1 [.bool false, .string { data := #[] }] 24) (h1 : w1.heap.size ≤ g1) (n01 : ¬ g0 = g1), wpAnyH Tryz.prog .any ops q SP 2 (ls 14 [0, 1, 2, 3, 4, 5, 6, 7, 8, 9, 10, 11]) (fr (.pointer (some ⟨g0, 0, none⟩)) (.pointer (some ⟨g1, 0, none⟩)) (.agg #[.bool false, .string d1]) (.agg #[.bool gN, .string gS]) (.agg #[.bool false, .string d0]) (.agg #[.bool eN, .string eS])) w') := by
      subst hops hq hSP hfr
      intro g0 g1 w' hS k0 h0 k1 h1 n01
      have bc := bcS.out _ hS
      dsimp only
      have e0_0 := cel2_0' k0
      have f0_0 := Cel.frozen k0 0
      have e0_1 := cel2_1' k0
      have f0_1 := Cel.frozen k0 1
      refine rdy [12] (by kernel_rfl) ?_
      refine AllReadyH.cons (o := _) rfl (fun K hK => ?_) AllReadyH.nil
      simp only [List.getElem_toArray, List.getElem_cons_succ, List.getElem_cons_zero]
      go_simp
      try go_wp2_with fail
      clear e0_0 f0_0 e0_1 f0_1
      refine hK.out _ _ (mkS.out _ (bset (bset bc h0 0 (.bool gN)) h0 1 (.string gS))) (fun hS => ?_)
      clear hK K
      replace k0 := (Cel.set (Cel.set k0 0 (.bool gN)) 1 (.string gS))
      replace k1 := (Cel.other (Cel.other k1 (fun e => n01 e.symm) 0 (.bool gN)) (fun e => n01 e.symm) 1 (.string gS))
      replace bc := (bset (bset bc h0 0 (.bool gN)) h0 1 (.string gS))
      have e1_0 := cel2_0' k1
      have f1_0 := Cel.frozen k1 0
      have e1_1 := cel2_1' k1
      have f1_1 := Cel.frozen k1 1
      refine rdy [13] (by kernel_rfl) ?_
      refine AllReadyH.cons (o := _) rfl (fun K hK => ?_) AllReadyH.nil
      simp only [List.getElem_toArray, List.getElem_cons_succ, List.getElem_cons_zero]
      go_simp
      try go_wp2_with fail
      clear e1_0 f1_0 e1_1 f1_1
      refine hK.out _ _ (mkS.out _ (bset (bset bc h1 0 (.bool eN)) h1 1 (.string eS))) (fun hS => ?_)
      clear hK K
      replace k0 := (Cel.other (Cel.other k0 n01 0 (.bool eN)) n01 1 (.string eS))
      replace k1 := (Cel.set (Cel.set k1 0 (.bool eN)) 1 (.string eS))
      replace bc := (bset (bset bc h1 0 (.bool eN)) h1 1 (.string eS))
      refine wpAnyH_done (by kernel_rfl) ?_ _
      go_wp2_with fail
      go_meet
      exact ⟨_, _, rfl, rfl, h0, h1, k0, k1, bc⟩
    have L4_0 : Hid (∀ (g0 : Nat) (w' : World) (hS : SP w') (k0 : Cel w' g0 [.bool false, .string { data := #[] }] 24) (h0 : w1.heap.size ≤ g0), wpAnyH Tryz.prog .any ops q SP 3 (ls 14 [0, 1, 2, 3, 4, 5, 6, 7, 8, 9, 10]) (fr (.pointer (some ⟨g0, 0, none⟩)) undef (.agg #[.bool false, .string d1]) (.agg #[.bool gN, .string gS]) (.agg #[.bool false, .string d0]) (.agg #[.bool eN, .string eS])) w') := by
      subst hops hq hSP hfr
      intro g0 w' hS k0 h0
      have bc := bcS.out _ hS
      dsimp only
      refine rdy [11] (by kernel_rfl) ?_
      refine AllReadyH.cons (o := _) rfl (fun K hK => ?_) AllReadyH.nil
      · simp only [List.getElem_toArray, List.getElem_cons_succ, List.getElem_cons_zero]
        go_simp
        try go_wp2_with fail
        refine hK.out _ _ (mkS.out _ (ba bc _)) (fun hS => ?_)
        clear hK K
        exact lst (L4_01.out g0 _ _ hS (k0.alloc _) h0 (Cel.new w' _ _) bc.size (by have := k0.lt; omega)) (by kernel_rfl)
    have L4_1 : Hid (∀ (g1 : Nat) (w' : World) (hS : SP w') (k1 : Cel w' g1 [.bool false, .string { data := #[] }] 24) (h1 : w1.heap.size ≤ g1), wpAnyH Tryz.prog .any ops q SP 3 (ls 14 [0, 1, 2, 3, 4, 5, 6, 7, 8, 9, 11]) (fr undef (.pointer (some ⟨g1, 0, none⟩)) (.agg #[.bool false, .string d1]) (.agg #[.bool gN, .string gS]) (.agg #[.bool false, .string d0]) (.agg #[.bool eN, .string eS])) w') := by
      clear L4_0
      subst hops hq hSP hfr
      intro g1 w' hS k1 h1
      have bc := bcS.out _ hS
      dsimp only
      refine rdy [10] (by kernel_rfl) ?_
      refine AllReadyH.cons (o := _) rfl (fun K hK => ?_) AllReadyH.nil
      · simp only [List.getElem_toArray, List.getElem_cons_succ, List.getElem_cons_zero]
        go_simp
        try go_wp2_with fail
        refine hK.out _ _ (mkS.out _ (ba bc _)) (fun hS => ?_)
        clear hK K
        exact lst (L4_01.out _ g1 _ hS (Cel.new w' _ _) bc.size (k1.alloc _) h1 (by have := k1.lt; omega)) (by kernel_rfl)
    have L4_ : Hid (∀ (w' : World) (hS : SP w'), wpAnyH Tryz.prog .any ops q SP 4 (ls 14 [0, 1, 2, 3, 4, 5, 6, 7, 8, 9]) (fr undef undef (.agg #[.bool false, .string d1]) (.agg #[.bool gN, .string gS]) (.agg #[.bool false, .string d0]) (.agg #[.bool eN, .string eS])) w') := by
      clear L4_01
      subst hops hq hSP hfr
      intro w' hS
      have bc := bcS.out _ hS
      dsimp only
      refine rdy [10, 11] (by kernel_rfl) ?_
      refine AllReadyH.cons (o := _) rfl (fun K hK => ?_) (AllReadyH.cons (o := _) rfl (fun K hK => ?_) AllReadyH.nil)
      · simp only [List.getElem_toArray, List.getElem_cons_succ, List.getElem_cons_zero]
        go_simp
        try go_wp2_with fail
        refine hK.out _ _ (mkS.out _ (ba bc _)) (fun hS => ?_)
        clear hK K
        exact lst (L4_0.out _ _ hS (Cel.new w' _ _) bc.size) (by kernel_rfl)
      · simp only [List.getElem_toArray, List.getElem_cons_succ, List.getElem_cons_zero]
        go_simp
        try go_wp2_with fail
        refine hK.out _ _ (mkS.out _ (ba bc _)) (fun hS => ?_)
        clear hK K
        exact lst (L4_1.out _ _ hS (Cel.new w' _ _) bc.size) (by kernel_rfl)
    have L3_01 : Hid (∀ (g0 : Nat) (g1 : Nat) (w' : World) (hS : SP w') (k0 : Cel w' g0 [.bool false, .string { data := #[] }] 24) (h0 : w1.heap.size ≤ g0) (k1 : Cel w' g1 [.bool false, .string { data := #[] }] 24) (h1 : w1.heap.size ≤ g1) (n01 : ¬ g0 = g1), wpAnyH Tryz.prog .any ops q SP 3 (ls 14 [0, 1, 2, 3, 4, 5, 6, 7, 8, 10, 11]) (fr (.pointer (some ⟨g0, 0, none⟩)) (.pointer (some ⟨g1, 0, none⟩)) (.agg #[.bool false, .string d1]) (.agg #[.bool gN, .string gS]) (.agg #[.bool false, .string d0]) undef) w') := by
      clear L4_0 L4_1 L4_
      subst hops hq hSP hfr
      intro g0 g1 w' hS k0 h0 k1 h1 n01
      have bc := bcS.out _ hS
      dsimp only
      refine rdy [9] (by kernel_rfl) ?_
      refine AllReadyH.cons (o := _) rfl (fun K hK => ?_) AllReadyH.nil
      · simp only [List.getElem_toArray, List.getElem_cons_succ, List.getElem_cons_zero]
        go_simp
        go_fit (H2.out _ ?_)
        · exact Below.after bb bc
        rintro e wn ⟨rfl, bn⟩
        have bcn := Below.after bc bn
        try go_wp2_with fail
        refine hK.out _ _ (mkS.out _ bcn) (fun hS => ?_)
        clear hK K
        exact lst (L4_01.out g0 g1 wn hS (k0.below bn) h0 (k1.below bn) h1 n01) (by kernel_rfl)
    have L3_0 : Hid (∀ (g0 : Nat) (w' : World) (hS : SP w') (k0 : Cel w' g0 [.bool false, .string { data := #[] }] 24) (h0 : w1.heap.size ≤ g0), wpAnyH Tryz.prog .any ops q SP 4 (ls 14 [0, 1, 2, 3, 4, 5, 6, 7, 8, 10]) (fr (.pointer (some ⟨g0, 0, none⟩)) undef (.agg #[.bool false, .string d1]) (.agg #[.bool gN, .string gS]) (.agg #[.bool false, .string d0]) undef) w') := by
      clear L4_01 L4_1 L4_
      subst hops hq hSP hfr
      intro g0 w' hS k0 h0
      have bc := bcS.out _ hS
      dsimp only
      refine rdy [9, 11] (by kernel_rfl) ?_
      refine AllReadyH.cons (o := _) rfl (fun K hK => ?_) (AllReadyH.cons (o := _) rfl (fun K hK => ?_) AllReadyH.nil)
      · simp only [List.getElem_toArray, List.getElem_cons_succ, List.getElem_cons_zero]
        go_simp
        go_fit (H2.out _ ?_)
        · exact Below.after bb bc
        rintro e wn ⟨rfl, bn⟩
        have bcn := Below.after bc bn
        try go_wp2_with fail
        refine hK.out _ _ (mkS.out _ bcn) (fun hS => ?_)
        clear hK K
        exact lst (L4_0.out g0 wn hS (k0.below bn) h0) (by kernel_rfl)
      · simp only [List.getElem_toArray, List.getElem_cons_succ, List.getElem_cons_zero]
        go_simp
        try go_wp2_with fail
        refine hK.out _ _ (mkS.out _ (ba bc _)) (fun hS => ?_)
        clear hK K
        exact lst (L3_01.out g0 _ _ hS (k0.alloc _) h0 (Cel.new w' _ _) bc.size (by have := k0.lt; omega)) (by kernel_rfl)
    have L3_1 : Hid (∀ (g1 : Nat) (w' : World) (hS : SP w') (k1 : Cel w' g1 [.bool false, .string { data := #[] }] 24) (h1 : w1.heap.size ≤ g1), wpAnyH Tryz.prog .any ops q SP 4 (ls 14 [0, 1, 2, 3, 4, 5, 6, 7, 8, 11]) (fr undef (.pointer (some ⟨g1, 0, none⟩)) (.agg #[.bool false, .string d1]) (.agg #[.bool gN, .string gS]) (.agg #[.bool false, .string d0]) undef) w') := by
      clear L4_01 L4_0 L4_ L3_0
      subst hops hq hSP hfr
      intro g1 w' hS k1 h1
      have bc := bcS.out _ hS
      dsimp only
      refine rdy [9, 10] (by kernel_rfl) ?_
      refine AllReadyH.cons (o := _) rfl (fun K hK => ?_) (AllReadyH.cons (o := _) rfl (fun K hK => ?_) AllReadyH.nil)
      · simp only [List.getElem_toArray, List.getElem_cons_succ, List.getElem_cons_zero]
        go_simp
        go_fit (H2.out _ ?_)
        · exact Below.after bb bc
        rintro e wn ⟨rfl, bn⟩
        have bcn := Below.after bc bn
        try go_wp2_with fail
        refine hK.out _ _ (mkS.out _ bcn) (fun hS => ?_)
        clear hK K
        exact lst (L4_1.out g1 wn hS (k1.below bn) h1) (by kernel_rfl)
      · simp only [List.getElem_toArray, List.getElem_cons_succ, List.getElem_cons_zero]
        go_simp
        try go_wp2_with fail
        refine hK.out _ _ (mkS.out _ (ba bc _)) (fun hS => ?_)
        clear hK K
        exact lst (L3_01.out _ g1 _ hS (Cel.new w' _ _) bc.size (k1.alloc _) h1 (by have := k1.lt; omega)) (by kernel_rfl)
    have L3_ : Hid (∀ (w' : World) (hS : SP w'), wpAnyH Tryz.prog .any ops q SP 5 (ls 14 [0, 1, 2, 3, 4, 5, 6, 7, 8]) (fr undef undef (.agg #[.bool false, .string d1]) (.agg #[.bool gN, .string gS]) (.agg #[.bool false, .string d0]) undef) w') := by
      clear L4_01 L4_0 L4_1 L3_01
      subst hops hq hSP hfr
      intro w' hS
      have bc := bcS.out _ hS
      dsimp only
      refine rdy [9, 10, 11] (by kernel_rfl) ?_
      refine AllReadyH.cons (o := _) rfl (fun K hK => ?_) (AllReadyH.cons (o := _) rfl (fun K hK => ?_) (AllReadyH.cons (o := _) rfl (fun K hK => ?_) AllReadyH.nil))
      · simp only [List.getElem_toArray, List.getElem_cons_succ, List.getElem_cons_zero]
        go_simp
        go_fit (H2.out _ ?_)
        · exact Below.after bb bc
        rintro e wn ⟨rfl, bn⟩
        have bcn := Below.after bc bn
        try go_wp2_with fail
        refine hK.out _ _ (mkS.out _ bcn) (fun hS => ?_)
        clear hK K
        exact lst (L4_.out wn hS) (by kernel_rfl)
      · simp only [List.getElem_toArray, List.getElem_cons_succ, List.getElem_cons_zero]
        go_simp
        try go_wp2_with fail
        refine hK.out _ _ (mkS.out _ (ba bc _)) (fun hS => ?_)
        clear hK K
        exact lst (L3_0.out _ _ hS (Cel.new w' _ _) bc.size) (by kernel_rfl)
      · simp only [List.getElem_toArray, List.getElem_cons_succ, List.getElem_cons_zero]
        go_simp
        try go_wp2_with fail
        refine hK.out _ _ (mkS.out _ (ba bc _)) (fun hS => ?_)
        clear hK K
        exact lst (L3_1.out _ _ hS (Cel.new w' _ _) bc.size) (by kernel_rfl)
    have L2_01 : Hid (∀ (g0 : Nat) (g1 : Nat) (w' : World) (hS : SP w') (k0 : Cel w' g0 [.bool false, .string { data := #[] }] 24) (h0 : w1.heap.size ≤ g0) (k1 : Cel w' g1 [.bool false, .string { data := #[] }] 24) (h1 : w1.heap.size ≤ g1) (n01 : ¬ g0 = g1), wpAnyH Tryz.prog .any ops q SP 4 (ls 14 [0, 1, 2, 3, 4, 5, 6, 7, 10, 11]) (fr (.pointer (some ⟨g0, 0, none⟩)) (.pointer (some ⟨g1, 0, none⟩)) (.agg #[.bool false, .string d1]) (.agg #[.bool gN, .string gS]) undef undef) w') := by
      clear L4_01 L4_0 L4_1 L4_ L3_0 L3_1 L3_
      subst hops hq hSP hfr
      intro g0 g1 w' hS k0 h0 k1 h1 n01
      have bc := bcS.out _ hS
      dsimp only
      refine rdy [8] (by kernel_rfl) ?_
      refine AllReadyH.cons (o := _) rfl (fun K hK => ?_) AllReadyH.nil
      · simp only [List.getElem_toArray, List.getElem_cons_succ, List.getElem_cons_zero]
        go_simp
        go_fit (den_any n0 s0 d0 _)
        rintro e wn ⟨rfl, bn⟩
        have bcn := Below.after bc bn
        try go_wp2_with fail
        refine hK.out _ _ (mkS.out _ bcn) (fun hS => ?_)
        clear hK K
        exact lst (L3_01.out g0 g1 wn hS (k0.below bn) h0 (k1.below bn) h1 n01) (by kernel_rfl)
    have L2_0 : Hid (∀ (g0 : Nat) (w' : World) (hS : SP w') (k0 : Cel w' g0 [.bool false, .string { data := #[] }] 24) (h0 : w1.heap.size ≤ g0), wpAnyH Tryz.prog .any ops q SP 5 (ls 14 [0, 1, 2, 3, 4, 5, 6, 7, 10]) (fr (.pointer (some ⟨g0, 0, none⟩)) undef (.agg #[.bool false, .string d1]) (.agg #[.bool gN, .string gS]) undef undef) w') := by
      clear L4_01 L4_0 L4_1 L4_ L3_01 L3_1 L3_
      subst hops hq hSP hfr
      intro g0 w' hS k0 h0
      have bc := bcS.out _ hS
      dsimp only
      refine rdy [8, 11] (by kernel_rfl) ?_
      refine AllReadyH.cons (o := _) rfl (fun K hK => ?_) (AllReadyH.cons (o := _) rfl (fun K hK => ?_) AllReadyH.nil)
      · simp only [List.getElem_toArray, List.getElem_cons_succ, List.getElem_cons_zero]
        go_simp
        go_fit (den_any n0 s0 d0 _)
        rintro e wn ⟨rfl, bn⟩
        have bcn := Below.after bc bn
        try go_wp2_with fail
        refine hK.out _ _ (mkS.out _ bcn) (fun hS => ?_)
        clear hK K
        exact lst (L3_0.out g0 wn hS (k0.below bn) h0) (by kernel_rfl)
      · simp only [List.getElem_toArray, List.getElem_cons_succ, List.getElem_cons_zero]
        go_simp
        try go_wp2_with fail
        refine hK.out _ _ (mkS.out _ (ba bc _)) (fun hS => ?_)
        clear hK K
        exact lst (L2_01.out g0 _ _ hS (k0.alloc _) h0 (Cel.new w' _ _) bc.size (by have := k0.lt; omega)) (by kernel_rfl)
    have L2_1 : Hid (∀ (g1 : Nat) (w' : World) (hS : SP w') (k1 : Cel w' g1 [.bool false, .string { data := #[] }] 24) (h1 : w1.heap.size ≤ g1), wpAnyH Tryz.prog .any ops q SP 5 (ls 14 [0, 1, 2, 3, 4, 5, 6, 7, 11]) (fr undef (.pointer (some ⟨g1, 0, none⟩)) (.agg #[.bool false, .string d1]) (.agg #[.bool gN, .string gS]) undef undef) w') := by
      clear L4_01 L4_0 L4_1 L4_ L3_01 L3_0 L3_ L2_0
      subst hops hq hSP hfr
      intro g1 w' hS k1 h1
      have bc := bcS.out _ hS
      dsimp only
      refine rdy [8, 10] (by kernel_rfl) ?_
      refine AllReadyH.cons (o := _) rfl (fun K hK => ?_) (AllReadyH.cons (o := _) rfl (fun K hK => ?_) AllReadyH.nil)
      · simp only [List.getElem_toArray, List.getElem_cons_succ, List.getElem_cons_zero]
        go_simp
        go_fit (den_any n0 s0 d0 _)
        rintro e wn ⟨rfl, bn⟩
        have bcn := Below.after bc bn
        try go_wp2_with fail
        refine hK.out _ _ (mkS.out _ bcn) (fun hS => ?_)
        clear hK K
        exact lst (L3_1.out g1 wn hS (k1.below bn) h1) (by kernel_rfl)
      · simp only [List.getElem_toArray, List.getElem_cons_succ, List.getElem_cons_zero]
        go_simp
        try go_wp2_with fail
        refine hK.out _ _ (mkS.out _ (ba bc _)) (fun hS => ?_)
        clear hK K
        exact lst (L2_01.out _ g1 _ hS (Cel.new w' _ _) bc.size (k1.alloc _) h1 (by have := k1.lt; omega)) (by kernel_rfl)
    have L2_ : Hid (∀ (w' : World) (hS : SP w'), wpAnyH Tryz.prog .any ops q SP 6 (ls 14 [0, 1, 2, 3, 4, 5, 6, 7]) (fr undef undef (.agg #[.bool false, .string d1]) (.agg #[.bool gN, .string gS]) undef undef) w') := by
      clear L4_01 L4_0 L4_1 L4_ L3_01 L3_0 L3_1 L2_01
      subst hops hq hSP hfr
      intro w' hS
      have bc := bcS.out _ hS
      dsimp only
      refine rdy [8, 10, 11] (by kernel_rfl) ?_
      refine AllReadyH.cons (o := _) rfl (fun K hK => ?_) (AllReadyH.cons (o := _) rfl (fun K hK => ?_) (AllReadyH.cons (o := _) rfl (fun K hK => ?_) AllReadyH.nil))
      · simp only [List.getElem_toArray, List.getElem_cons_succ, List.getElem_cons_zero]
        go_simp
        go_fit (den_any n0 s0 d0 _)
        rintro e wn ⟨rfl, bn⟩
        have bcn := Below.after bc bn
        try go_wp2_with fail
        refine hK.out _ _ (mkS.out _ bcn) (fun hS => ?_)
        clear hK K
        exact lst (L3_.out wn hS) (by kernel_rfl)
      · simp only [List.getElem_toArray, List.getElem_cons_succ, List.getElem_cons_zero]
        go_simp
        try go_wp2_with fail
        refine hK.out _ _ (mkS.out _ (ba bc _)) (fun hS => ?_)
        clear hK K
        exact lst (L2_0.out _ _ hS (Cel.new w' _ _) bc.size) (by kernel_rfl)
      · simp only [List.getElem_toArray, List.getElem_cons_succ, List.getElem_cons_zero]
        go_simp
        try go_wp2_with fail
        refine hK.out _ _ (mkS.out _ (ba bc _)) (fun hS => ?_)
        clear hK K
        exact lst (L2_1.out _ _ hS (Cel.new w' _ _) bc.size) (by kernel_rfl)
    have L1_01 : Hid (∀ (g0 : Nat) (g1 : Nat) (w' : World) (hS : SP w') (k0 : Cel w' g0 [.bool false, .string { data := #[] }] 24) (h0 : w1.heap.size ≤ g0) (k1 : Cel w' g1 [.bool false, .string { data := #[] }] 24) (h1 : w1.heap.size ≤ g1) (n01 : ¬ g0 = g1), wpAnyH Tryz.prog .any ops q SP 5 (ls 14 [0, 1, 2, 3, 5, 6, 7, 10, 11]) (fr (.pointer (some ⟨g0, 0, none⟩)) (.pointer (some ⟨g1, 0, none⟩)) (.agg #[.bool false, .string d1]) undef undef undef) w') := by
      clear L4_01 L4_0 L4_1 L4_ L3_01 L3_0 L3_1 L3_ L2_0 L2_1 L2_
      subst hops hq hSP hfr
      intro g0 g1 w' hS k0 h0 k1 h1 n01
      have bc := bcS.out _ hS
      dsimp only
      refine rdy [4] (by kernel_rfl) ?_
      refine AllReadyH.cons (o := _) rfl (fun K hK => ?_) AllReadyH.nil
      · simp only [List.getElem_toArray, List.getElem_cons_succ, List.getElem_cons_zero]
        go_simp
        go_fit (H1.out _ ?_)
        · exact Below.after bb bc
        rintro e wn ⟨rfl, bn⟩
        have bcn := Below.after bc bn
        try go_wp2_with fail
        refine hK.out _ _ (mkS.out _ bcn) (fun hS => ?_)
        clear hK K
        exact lst (L2_01.out g0 g1 wn hS (k0.below bn) h0 (k1.below bn) h1 n01) (by kernel_rfl)
    have L1_0 : Hid (∀ (g0 : Nat) (w' : World) (hS : SP w') (k0 : Cel w' g0 [.bool false, .string { data := #[] }] 24) (h0 : w1.heap.size ≤ g0), wpAnyH Tryz.prog .any ops q SP 6 (ls 14 [0, 1, 2, 3, 5, 6, 7, 10]) (fr (.pointer (some ⟨g0, 0, none⟩)) undef (.agg #[.bool false, .string d1]) undef undef undef) w') := by
      clear L4_01 L4_0 L4_1 L4_ L3_01 L3_0 L3_1 L3_ L2_01 L2_1 L2_
      subst hops hq hSP hfr
      intro g0 w' hS k0 h0
      have bc := bcS.out _ hS
      dsimp only
      refine rdy [4, 11] (by kernel_rfl) ?_
      refine AllReadyH.cons (o := _) rfl (fun K hK => ?_) (AllReadyH.cons (o := _) rfl (fun K hK => ?_) AllReadyH.nil)
      · simp only [List.getElem_toArray, List.getElem_cons_succ, List.getElem_cons_zero]
        go_simp
        go_fit (H1.out _ ?_)
        · exact Below.after bb bc
        rintro e wn ⟨rfl, bn⟩
        have bcn := Below.after bc bn
        try go_wp2_with fail
        refine hK.out _ _ (mkS.out _ bcn) (fun hS => ?_)
        clear hK K
        exact lst (L2_0.out g0 wn hS (k0.below bn) h0) (by kernel_rfl)
      · simp only [List.getElem_toArray, List.getElem_cons_succ, List.getElem_cons_zero]
        go_simp
        try go_wp2_with fail
        refine hK.out _ _ (mkS.out _ (ba bc _)) (fun hS => ?_)
        clear hK K
        exact lst (L1_01.out g0 _ _ hS (k0.alloc _) h0 (Cel.new w' _ _) bc.size (by have := k0.lt; omega)) (by kernel_rfl)
    have L1_1 : Hid (∀ (g1 : Nat) (w' : World) (hS : SP w') (k1 : Cel w' g1 [.bool false, .string { data := #[] }] 24) (h1 : w1.heap.size ≤ g1), wpAnyH Tryz.prog .any ops q SP 6 (ls 14 [0, 1, 2, 3, 5, 6, 7, 11]) (fr undef (.pointer (some ⟨g1, 0, none⟩)) (.agg #[.bool false, .string d1]) undef undef undef) w') := by
      clear L4_01 L4_0 L4_1 L4_ L3_01 L3_0 L3_1 L3_ L2_01 L2_0 L2_ L1_0
      subst hops hq hSP hfr
      intro g1 w' hS k1 h1
      have bc := bcS.out _ hS
      dsimp only
      refine rdy [4, 10] (by kernel_rfl) ?_
      refine AllReadyH.cons (o := _) rfl (fun K hK => ?_) (AllReadyH.cons (o := _) rfl (fun K hK => ?_) AllReadyH.nil)
      · simp only [List.getElem_toArray, List.getElem_cons_succ, List.getElem_cons_zero]
        go_simp
        go_fit (H1.out _ ?_)
        · exact Below.after bb bc
        rintro e wn ⟨rfl, bn⟩
        have bcn := Below.after bc bn
        try go_wp2_with fail
        refine hK.out _ _ (mkS.out _ bcn) (fun hS => ?_)
        clear hK K
        exact lst (L2_1.out g1 wn hS (k1.below bn) h1) (by kernel_rfl)
      · simp only [List.getElem_toArray, List.getElem_cons_succ, List.getElem_cons_zero]
        go_simp
        try go_wp2_with fail
        refine hK.out _ _ (mkS.out _ (ba bc _)) (fun hS => ?_)
        clear hK K
        exact lst (L1_01.out _ g1 _ hS (Cel.new w' _ _) bc.size (k1.alloc _) h1 (by have := k1.lt; omega)) (by kernel_rfl)
    have L1_ : Hid (∀ (w' : World) (hS : SP w'), wpAnyH Tryz.prog .any ops q SP 7 (ls 14 [0, 1, 2, 3, 5, 6, 7]) (fr undef undef (.agg #[.bool false, .string d1]) undef undef undef) w') := by
      clear L4_01 L4_0 L4_1 L4_ L3_01 L3_0 L3_1 L3_ L2_01 L2_0 L2_1 L1_01
      subst hops hq hSP hfr
      intro w' hS
      have bc := bcS.out _ hS
      dsimp only
      refine rdy [4, 10, 11] (by kernel_rfl) ?_
      refine AllReadyH.cons (o := _) rfl (fun K hK => ?_) (AllReadyH.cons (o := _) rfl (fun K hK => ?_) (AllReadyH.cons (o := _) rfl (fun K hK => ?_) AllReadyH.nil))
      · simp only [List.getElem_toArray, List.getElem_cons_succ, List.getElem_cons_zero]
        go_simp
        go_fit (H1.out _ ?_)
        · exact Below.after bb bc
        rintro e wn ⟨rfl, bn⟩
        have bcn := Below.after bc bn
        try go_wp2_with fail
        refine hK.out _ _ (mkS.out _ bcn) (fun hS => ?_)
        clear hK K
        exact lst (L2_.out wn hS) (by kernel_rfl)
      · simp only [List.getElem_toArray, List.getElem_cons_succ, List.getElem_cons_zero]
        go_simp
        try go_wp2_with fail
        refine hK.out _ _ (mkS.out _ (ba bc _)) (fun hS => ?_)
        clear hK K
        exact lst (L1_0.out _ _ hS (Cel.new w' _ _) bc.size) (by kernel_rfl)
      · simp only [List.getElem_toArray, List.getElem_cons_succ, List.getElem_cons_zero]
        go_simp
        try go_wp2_with fail
        refine hK.out _ _ (mkS.out _ (ba bc _)) (fun hS => ?_)
        clear hK K
        exact lst (L1_1.out _ _ hS (Cel.new w' _ _) bc.size) (by kernel_rfl)
    have L0_01 : Hid (∀ (g0 : Nat) (g1 : Nat) (w' : World) (hS : SP w') (k0 : Cel w' g0 [.bool false, .string { data := #[] }] 24) (h0 : w1.heap.size ≤ g0) (k1 : Cel w' g1 [.bool false, .string { data := #[] }] 24) (h1 : w1.heap.size ≤ g1) (n01 : ¬ g0 = g1), wpAnyH Tryz.prog .any ops q SP 6 (ls 14 [0, 1, 2, 5, 6, 7, 10, 11]) (fr (.pointer (some ⟨g0, 0, none⟩)) (.pointer (some ⟨g1, 0, none⟩)) undef undef undef undef) w') := by
      clear L4_01 L4_0 L4_1 L4_ L3_01 L3_0 L3_1 L3_ L2_01 L2_0 L2_1 L2_ L1_0 L1_1 L1_
      subst hops hq hSP hfr
      intro g0 g1 w' hS k0 h0 k1 h1 n01
      have bc := bcS.out _ hS
      dsimp only
      refine rdy [3] (by kernel_rfl) ?_
      refine AllReadyH.cons (o := _) rfl (fun K hK => ?_) AllReadyH.nil
      · simp only [List.getElem_toArray, List.getElem_cons_succ, List.getElem_cons_zero]
        go_simp
        go_fit (den_any n1 s1 d1 _)
        rintro e wn ⟨rfl, bn⟩
        have bcn := Below.after bc bn
        try go_wp2_with fail
        refine hK.out _ _ (mkS.out _ bcn) (fun hS => ?_)
        clear hK K
        exact lst (L1_01.out g0 g1 wn hS (k0.below bn) h0 (k1.below bn) h1 n01) (by kernel_rfl)
    have L0_0 : Hid (∀ (g0 : Nat) (w' : World) (hS : SP w') (k0 : Cel w' g0 [.bool false, .string { data := #[] }] 24) (h0 : w1.heap.size ≤ g0), wpAnyH Tryz.prog .any ops q SP 7 (ls 14 [0, 1, 2, 5, 6, 7, 10]) (fr (.pointer (some ⟨g0, 0, none⟩)) undef undef undef undef undef) w') := by
      clear L4_01 L4_0 L4_1 L4_ L3_01 L3_0 L3_1 L3_ L2_01 L2_0 L2_1 L2_ L1_01 L1_1 L1_
      subst hops hq hSP hfr
      intro g0 w' hS k0 h0
      have bc := bcS.out _ hS
      dsimp only
      refine rdy [3, 11] (by kernel_rfl) ?_
      refine AllReadyH.cons (o := _) rfl (fun K hK => ?_) (AllReadyH.cons (o := _) rfl (fun K hK => ?_) AllReadyH.nil)
      · simp only [List.getElem_toArray, List.getElem_cons_succ, List.getElem_cons_zero]
        go_simp
        go_fit (den_any n1 s1 d1 _)
        rintro e wn ⟨rfl, bn⟩
        have bcn := Below.after bc bn
        try go_wp2_with fail
        refine hK.out _ _ (mkS.out _ bcn) (fun hS => ?_)
        clear hK K
        exact lst (L1_0.out g0 wn hS (k0.below bn) h0) (by kernel_rfl)
      · simp only [List.getElem_toArray, List.getElem_cons_succ, List.getElem_cons_zero]
        go_simp
        try go_wp2_with fail
        refine hK.out _ _ (mkS.out _ (ba bc _)) (fun hS => ?_)
        clear hK K
        exact lst (L0_01.out g0 _ _ hS (k0.alloc _) h0 (Cel.new w' _ _) bc.size (by have := k0.lt; omega)) (by kernel_rfl)
    have L0_1 : Hid (∀ (g1 : Nat) (w' : World) (hS : SP w') (k1 : Cel w' g1 [.bool false, .string { data := #[] }] 24) (h1 : w1.heap.size ≤ g1), wpAnyH Tryz.prog .any ops q SP 7 (ls 14 [0, 1, 2, 5, 6, 7, 11]) (fr undef (.pointer (some ⟨g1, 0, none⟩)) undef undef undef undef) w') := by
      clear L4_01 L4_0 L4_1 L4_ L3_01 L3_0 L3_1 L3_ L2_01 L2_0 L2_1 L2_ L1_01 L1_0 L1_ L0_0
      subst hops hq hSP hfr
      intro g1 w' hS k1 h1
      have bc := bcS.out _ hS
      dsimp only
      refine rdy [3, 10] (by kernel_rfl) ?_
      refine AllReadyH.cons (o := _) rfl (fun K hK => ?_) (AllReadyH.cons (o := _) rfl (fun K hK => ?_) AllReadyH.nil)
      · simp only [List.getElem_toArray, List.getElem_cons_succ, List.getElem_cons_zero]
        go_simp
        go_fit (den_any n1 s1 d1 _)
        rintro e wn ⟨rfl, bn⟩
        have bcn := Below.after bc bn
        try go_wp2_with fail
        refine hK.out _ _ (mkS.out _ bcn) (fun hS => ?_)
        clear hK K
        exact lst (L1_1.out g1 wn hS (k1.below bn) h1) (by kernel_rfl)
      · simp only [List.getElem_toArray, List.getElem_cons_succ, List.getElem_cons_zero]
        go_simp
        try go_wp2_with fail
        refine hK.out _ _ (mkS.out _ (ba bc _)) (fun hS => ?_)
        clear hK K
        exact lst (L0_01.out _ g1 _ hS (Cel.new w' _ _) bc.size (k1.alloc _) h1 (by have := k1.lt; omega)) (by kernel_rfl)
    have L0_ : Hid (∀ (w' : World) (hS : SP w'), wpAnyH Tryz.prog .any ops q SP 8 (ls 14 [0, 1, 2, 5, 6, 7]) (fr undef undef undef undef undef undef) w') := by
      clear L4_01 L4_0 L4_1 L4_ L3_01 L3_0 L3_1 L3_ L2_01 L2_0 L2_1 L2_ L1_01 L1_0 L1_1 L0_01
      subst hops hq hSP hfr
      intro w' hS
      have bc := bcS.out _ hS
      dsimp only
      refine rdy [3, 10, 11] (by kernel_rfl) ?_
      refine AllReadyH.cons (o := _) rfl (fun K hK => ?_) (AllReadyH.cons (o := _) rfl (fun K hK => ?_) (AllReadyH.cons (o := _) rfl (fun K hK => ?_) AllReadyH.nil))
      · simp only [List.getElem_toArray, List.getElem_cons_succ, List.getElem_cons_zero]
        go_simp
        go_fit (den_any n1 s1 d1 _)
        rintro e wn ⟨rfl, bn⟩
        have bcn := Below.after bc bn
        try go_wp2_with fail
        refine hK.out _ _ (mkS.out _ bcn) (fun hS => ?_)
        clear hK K
        exact lst (L1_.out wn hS) (by kernel_rfl)
      · simp only [List.getElem_toArray, List.getElem_cons_succ, List.getElem_cons_zero]
        go_simp
        try go_wp2_with fail
        refine hK.out _ _ (mkS.out _ (ba bc _)) (fun hS => ?_)
        clear hK K
        exact lst (L0_0.out _ _ hS (Cel.new w' _ _) bc.size) (by kernel_rfl)
      · simp only [List.getElem_toArray, List.getElem_cons_succ, List.getElem_cons_zero]
        go_simp
        try go_wp2_with fail
        refine hK.out _ _ (mkS.out _ (ba bc _)) (fun hS => ?_)
        clear hK K
        exact lst (L0_1.out _ _ hS (Cel.new w' _ _) bc.size) (by kernel_rfl)
    clear L4_01 L4_0 L4_1 L4_ L3_01 L3_0 L3_1 L3_ L2_01 L2_0 L2_1 L2_ L1_01 L1_0 L1_1 L1_ L0_01 L0_0 L0_1
    subst hops hq hSP hfr
    refine wpAnyH_take (i := 0) (oi := _) (v := ?_) rfl (by kernel_rfl) (by kernel_rfl) (by kernel_rfl) (fun _ _ _ h => h) (Or.inl ⟨by rfl, ?_⟩) (by assumption) ?_
    rotate_left
    · (intro w hSw; (try dsimp only at hSw); go_simp; try with_reducible rfl)
    try simp only [Act.put, List.getElem_toArray, List.getElem_cons_zero, List.setIfInBounds_toArray, List.set_cons_zero, List.set_cons_succ]
    refine wpAnyH_take (i := 1) (oi := _) (v := ?_) rfl (by kernel_rfl) (by kernel_rfl) (by kernel_rfl) (fun _ _ _ h => h) (Or.inl ⟨by rfl, ?_⟩) (by assumption) ?_
    rotate_left
    · (intro w hSw; (try dsimp only at hSw); go_simp; try with_reducible rfl)
    try simp only [Act.put, List.getElem_toArray, List.getElem_cons_succ, List.getElem_cons_zero, List.setIfInBounds_toArray, List.set_cons_zero, List.set_cons_succ]
    refine wpAnyH_take (i := 2) (oi := _) (v := ?_) rfl (by kernel_rfl) (by kernel_rfl) (by kernel_rfl) (fun _ _ _ h => h) (Or.inl ⟨by rfl, ?_⟩) (by assumption) ?_
    rotate_left
    · (intro w hSw; (try dsimp only at hSw); go_simp; try with_reducible rfl)
    try simp only [Act.put, List.getElem_toArray, List.getElem_cons_succ, List.getElem_cons_zero, List.setIfInBounds_toArray, List.set_cons_zero, List.set_cons_succ]
    refine wpAnyH_take (i := 5) (oi := _) (v := ?_) rfl (by kernel_rfl) (by kernel_rfl) (by kernel_rfl) (fun _ _ _ h => h) (Or.inl ⟨by rfl, ?_⟩) (by assumption) ?_
    rotate_left
    · (intro w hSw; (try dsimp only at hSw); go_simp; try with_reducible rfl)
    try simp only [Act.put, List.getElem_toArray, List.getElem_cons_succ, List.getElem_cons_zero, List.setIfInBounds_toArray, List.set_cons_zero, List.set_cons_succ]
    refine wpAnyH_take (i := 6) (oi := _) (v := ?_) rfl (by kernel_rfl) (by kernel_rfl) (by kernel_rfl) (fun _ _ _ h => h) (Or.inl ⟨by rfl, ?_⟩) (by assumption) ?_
    rotate_left
    · (intro w hSw; (try dsimp only at hSw); go_simp; try with_reducible rfl)
    try simp only [Act.put, List.getElem_toArray, List.getElem_cons_succ, List.getElem_cons_zero, List.setIfInBounds_toArray, List.set_cons_zero, List.set_cons_succ]
    refine wpAnyH_take (i := 7) (oi := _) (v := ?_) rfl (by kernel_rfl) (by kernel_rfl) (by kernel_rfl) (fun _ _ _ h => h) (Or.inl ⟨by rfl, ?_⟩) (by assumption) ?_
    rotate_left
    · (intro w hSw; (try dsimp only at hSw); go_simp; try with_reducible rfl)
    try simp only [Act.put, List.getElem_toArray, List.getElem_cons_succ, List.getElem_cons_zero, List.setIfInBounds_toArray, List.set_cons_zero, List.set_cons_succ]
    exact lst (L0_.out _ (mkS.out _ (bdrew _))) (by kernel_rfl)
  case rest =>
  obtain ⟨gg, ge, rfl, rfl, lg, le, kg, ke, b1⟩ := hcut
  clear mkS bcS
  have sz := b1.size
  replace ka := ka.below b1
  replace kb := kb.below b1
  replace kr := kr.below b1
  replace bb := Below.after bb b1
  clear b1
  have tg := kg.lt
  have te := ke.lt
  go_wp2_with fail
  have mkS : ∀ w', Below wc.heap.size wc w' → (Below wc.heap.size wc w' ∧ w'.cell? ⟨w.heap.size, 0, none⟩ = some (.bool n0) ∧ w'.cell? ⟨w.heap.size, 1, none⟩ = some (.string s0) ∧ w'.cell? ⟨w.heap.size, 2, none⟩ = some (.string d0) ∧ w'.cell? ⟨w.heap.size + 1, 0, none⟩ = some (.bool n1) ∧ w'.cell? ⟨w.heap.size + 1, 1, none⟩ = some (.string s1) ∧ w'.cell? ⟨w.heap.size + 1, 2, none⟩ = some (.string d1) ∧ w'.cell? ⟨gg, 0, none⟩ = some (.bool gN) ∧ w'.cell? ⟨gg, 1, none⟩ = some (.string gS) ∧ w'.cell? ⟨ge, 0, none⟩ = some (.bool eN) ∧ w'.cell? ⟨ge, 1, none⟩ = some (.string eS)) := fun w' h => ⟨h, cel3_0 (ka.below h), cel3_1 (ka.below h), cel3_2 (ka.below h), cel3_0 (kb.below h), cel3_1 (kb.below h), cel3_2 (kb.below h), cel2_0' (kg.below h), cel2_1' (kg.below h), cel2_0' (ke.below h), cel2_1' (ke.below h)⟩
  have bcS : ∀ w', (Below wc.heap.size wc w' ∧ w'.cell? ⟨w.heap.size, 0, none⟩ = some (.bool n0) ∧ w'.cell? ⟨w.heap.size, 1, none⟩ = some (.string s0) ∧ w'.cell? ⟨w.heap.size, 2, none⟩ = some (.string d0) ∧ w'.cell? ⟨w.heap.size + 1, 0, none⟩ = some (.bool n1) ∧ w'.cell? ⟨w.heap.size + 1, 1, none⟩ = some (.string s1) ∧ w'.cell? ⟨w.heap.size + 1, 2, none⟩ = some (.string d1) ∧ w'.cell? ⟨gg, 0, none⟩ = some (.bool gN) ∧ w'.cell? ⟨gg, 1, none⟩ = some (.string gS) ∧ w'.cell? ⟨ge, 0, none⟩ = some (.bool eN) ∧ w'.cell? ⟨ge, 1, none⟩ = some (.string eS)) → Below wc.heap.size wc w' := fun w' h => h.1
  replace mkS := shut mkS
  replace bcS := shut bcS
  go_cut [8] from 20 to 28 (fun v wx => ∃ gc, v = .pointer (some ⟨gc, 0, none⟩) ∧ wc.heap.size ≤ gc ∧ Cel wx gc [.bool pN, .string pS] 24 ∧ Below wc.heap.size wc wx)
  case first =>
    clear H1 H2 H6 H7 H8 kr
    refine wp_region_held_drew (S := (fun w' => Below wc.heap.size wc w' ∧ w'.cell? ⟨w.heap.size, 0, none⟩ = some (.bool n0) ∧ w'.cell? ⟨w.heap.size, 1, none⟩ = some (.string s0) ∧ w'.cell? ⟨w.heap.size, 2, none⟩ = some (.string d0) ∧ w'.cell? ⟨w.heap.size + 1, 0, none⟩ = some (.bool n1) ∧ w'.cell? ⟨w.heap.size + 1, 1, none⟩ = some (.string s1) ∧ w'.cell? ⟨w.heap.size + 1, 2, none⟩ = some (.string d1) ∧ w'.cell? ⟨gg, 0, none⟩ = some (.bool gN) ∧ w'.cell? ⟨gg, 1, none⟩ = some (.string gS) ∧ w'.cell? ⟨ge, 0, none⟩ = some (.bool eN) ∧ w'.cell? ⟨ge, 1, none⟩ = some (.string eS))) (by kernel_rfl) (mkS.out _ (bdrew _)) (fun _ => ?_)
    refine absO 11 (by kernel_rfl) (fun ops q SP hops hq hSP => ?_)
    obtain ⟨fr, hfr⟩ : ∃ fr : Value → Value → Value → Value → Act, fr = (fun x8 x23 x27 x28 => { tmps := #[.agg #[.bool n0, .string s0, .string d0], .agg #[.bool n1, .string s1, .string d1], .pointer (some ⟨w.heap.size, 0, none⟩), .pointer (some ⟨w.heap.size + 1, 0, none⟩), .pointer (some ⟨w.heap.size + 1 + 1, 0, none⟩), .int .i64 0, .pointer (some ⟨gg, 0, none⟩), .pointer (some ⟨ge, 0, none⟩), x8, undef, u10, u11, u12, u13, u14, u15, u16, u17, u18, u19, .pointer (some ⟨w.heap.size, 0, none⟩), .agg #[.bool n0, .string s0], .agg #[.bool gN, .string gS], x23, .pointer (some ⟨w.heap.size + 1, 0, none⟩), .agg #[.bool n1, .string s1], .agg #[.bool eN, .string eS], x27, x28, undef, undef, undef, undef, undef, undef, undef, undef, undef, undef, undef, undef, undef], defers := [] }) := ⟨_, rfl⟩
    have L3_0 : Hid (∀ (g0 : Nat) (w' : World) (hS : SP w') (k0 : Cel w' g0 [.bool false, .string { data := #[] }] 24) (h0 : wc.heap.size ≤ g0), wpAnyH Tryz.prog .any ops q SP 1 (ls 11 [0, 1, 2, 3, 4, 5, 6, 7, 8, 9]) (fr (.pointer (some ⟨g0, 0, none⟩)) (.agg #[.bool aN, .string aS]) (.agg #[.bool bN, .string bS]) (.agg #[.bool pN, .string pS])) w') := by
      subst hops hq hSP hfr
      intro g0 w' hS k0 h0
      have bc := bcS.out _ hS
      dsimp only
      have e0_0 := cel2_0' k0
      have f0_0 := Cel.frozen k0 0
      have e0_1 := cel2_1' k0
      have f0_1 := Cel.frozen k0 1
      refine rdy [10] (by kernel_rfl) ?_
      refine AllReadyH.cons (o := _) rfl (fun K hK => ?_) AllReadyH.nil
      simp only [List.getElem_toArray, List.getElem_cons_succ, List.getElem_cons_zero]
      go_simp
      try go_wp2_with fail
      clear e0_0 f0_0 e0_1 f0_1
      refine hK.out _ _ (mkS.out _ (bset (bset bc h0 0 (.bool pN)) h0 1 (.string pS))) (fun hS => ?_)
      clear hK K
      replace k0 := (Cel.set (Cel.set k0 0 (.bool pN)) 1 (.string pS))
      replace bc := (bset (bset bc h0 0 (.bool pN)) h0 1 (.string pS))
      refine wpAnyH_done (by kernel_rfl) ?_ _
      go_wp2_with fail
      go_meet
      exact ⟨_, rfl, h0, k0, bc⟩
    have L3_ : Hid (∀ (w' : World) (hS : SP w'), wpAnyH Tryz.prog .any ops q SP 2 (ls 11 [0, 1, 2, 3, 4, 5, 6, 7, 8]) (fr undef (.agg #[.bool aN, .string aS]) (.agg #[.bool bN, .string bS]) (.agg #[.bool pN, .string pS])) w') := by
      subst hops hq hSP hfr
      intro w' hS
      have bc := bcS.out _ hS
      dsimp only
      refine rdy [9] (by kernel_rfl) ?_
      refine AllReadyH.cons (o := _) rfl (fun K hK => ?_) AllReadyH.nil
      · simp only [List.getElem_toArray, List.getElem_cons_succ, List.getElem_cons_zero]
        go_simp
        try go_wp2_with fail
        refine hK.out _ _ (mkS.out _ (ba bc _)) (fun hS => ?_)
        clear hK K
        exact lst (L3_0.out _ _ hS (Cel.new w' _ _) bc.size) (by kernel_rfl)
    have L2_0 : Hid (∀ (g0 : Nat) (w' : World) (hS : SP w') (k0 : Cel w' g0 [.bool false, .string { data := #[] }] 24) (h0 : wc.heap.size ≤ g0), wpAnyH Tryz.prog .any ops q SP 2 (ls 11 [0, 1, 2, 3, 4, 5, 6, 7, 9]) (fr (.pointer (some ⟨g0, 0, none⟩)) (.agg #[.bool aN, .string aS]) (.agg #[.bool bN, .string bS]) undef) w') := by
      clear L3_
      subst hops hq hSP hfr
      intro g0 w' hS k0 h0
      have bc := bcS.out _ hS
      dsimp only
      refine rdy [8] (by kernel_rfl) ?_
      refine AllReadyH.cons (o := _) rfl (fun K hK => ?_) AllReadyH.nil
      · simp only [List.getElem_toArray, List.getElem_cons_succ, List.getElem_cons_zero]
        go_simp
        go_fit (H5.out _)
        rintro e wn ⟨rfl, bn⟩
        have bcn := Below.after bc bn
        try go_wp2_with fail
        refine hK.out _ _ (mkS.out _ bcn) (fun hS => ?_)
        clear hK K
        exact lst (L3_0.out g0 wn hS (k0.below bn) h0) (by kernel_rfl)
    have L2_ : Hid (∀ (w' : World) (hS : SP w'), wpAnyH Tryz.prog .any ops q SP 3 (ls 11 [0, 1, 2, 3, 4, 5, 6, 7]) (fr undef (.agg #[.bool aN, .string aS]) (.agg #[.bool bN, .string bS]) undef) w') := by
      clear L3_0
      subst hops hq hSP hfr
      intro w' hS
      have bc := bcS.out _ hS
      dsimp only
      refine rdy [8, 9] (by kernel_rfl) ?_
      refine AllReadyH.cons (o := _) rfl (fun K hK => ?_) (AllReadyH.cons (o := _) rfl (fun K hK => ?_) AllReadyH.nil)
      · simp only [List.getElem_toArray, List.getElem_cons_succ, List.getElem_cons_zero]
        go_simp
        go_fit (H5.out _)
        rintro e wn ⟨rfl, bn⟩
        have bcn := Below.after bc bn
        try go_wp2_with fail
        refine hK.out _ _ (mkS.out _ bcn) (fun hS => ?_)
        clear hK K
        exact lst (L3_.out wn hS) (by kernel_rfl)
      · simp only [List.getElem_toArray, List.getElem_cons_succ, List.getElem_cons_zero]
        go_simp
        try go_wp2_with fail
        refine hK.out _ _ (mkS.out _ (ba bc _)) (fun hS => ?_)
        clear hK K
        exact lst (L2_0.out _ _ hS (Cel.new w' _ _) bc.size) (by kernel_rfl)
    have L1_0 : Hid (∀ (g0 : Nat) (w' : World) (hS : SP w') (k0 : Cel w' g0 [.bool false, .string { data := #[] }] 24) (h0 : wc.heap.size ≤ g0), wpAnyH Tryz.prog .any ops q SP 3 (ls 11 [0, 1, 2, 3, 4, 5, 6, 9]) (fr (.pointer (some ⟨g0, 0, none⟩)) (.agg #[.bool aN, .string aS]) undef undef) w') := by
      clear L3_0 L3_ L2_
      subst hops hq hSP hfr
      intro g0 w' hS k0 h0
      have bc := bcS.out _ hS
      dsimp only
      refine rdy [7] (by kernel_rfl) ?_
      refine AllReadyH.cons (o := _) rfl (fun K hK => ?_) AllReadyH.nil
      · simp only [List.getElem_toArray, List.getElem_cons_succ, List.getElem_cons_zero]
        go_simp
        go_fit (H4.out _)
        rintro e wn ⟨rfl, bn⟩
        have bcn := Below.after bc bn
        try go_wp2_with fail
        refine hK.out _ _ (mkS.out _ bcn) (fun hS => ?_)
        clear hK K
        exact lst (L2_0.out g0 wn hS (k0.below bn) h0) (by kernel_rfl)
    have L1_ : Hid (∀ (w' : World) (hS : SP w'), wpAnyH Tryz.prog .any ops q SP 4 (ls 11 [0, 1, 2, 3, 4, 5, 6]) (fr undef (.agg #[.bool aN, .string aS]) undef undef) w') := by
      clear L3_0 L3_ L2_0
      subst hops hq hSP hfr
      intro w' hS
      have bc := bcS.out _ hS
      dsimp only
      refine rdy [7, 9] (by kernel_rfl) ?_
      refine AllReadyH.cons (o := _) rfl (fun K hK => ?_) (AllReadyH.cons (o := _) rfl (fun K hK => ?_) AllReadyH.nil)
      · simp only [List.getElem_toArray, List.getElem_cons_succ, List.getElem_cons_zero]
        go_simp
        go_fit (H4.out _)
        rintro e wn ⟨rfl, bn⟩
        have bcn := Below.after bc bn
        try go_wp2_with fail
        refine hK.out _ _ (mkS.out _ bcn) (fun hS => ?_)
        clear hK K
        exact lst (L2_.out wn hS) (by kernel_rfl)
      · simp only [List.getElem_toArray, List.getElem_cons_succ, List.getElem_cons_zero]
        go_simp
        try go_wp2_with fail
        refine hK.out _ _ (mkS.out _ (ba bc _)) (fun hS => ?_)
        clear hK K
        exact lst (L1_0.out _ _ hS (Cel.new w' _ _) bc.size) (by kernel_rfl)
    have L0_0 : Hid (∀ (g0 : Nat) (w' : World) (hS : SP w') (k0 : Cel w' g0 [.bool false, .string { data := #[] }] 24) (h0 : wc.heap.size ≤ g0), wpAnyH Tryz.prog .any ops q SP 4 (ls 11 [0, 1, 2, 4, 5, 6, 9]) (fr (.pointer (some ⟨g0, 0, none⟩)) undef undef undef) w') := by
      clear L3_0 L3_ L2_0 L2_ L1_
      subst hops hq hSP hfr
      intro g0 w' hS k0 h0
      have bc := bcS.out _ hS
      dsimp only
      refine rdy [3] (by kernel_rfl) ?_
      refine AllReadyH.cons (o := _) rfl (fun K hK => ?_) AllReadyH.nil
      · simp only [List.getElem_toArray, List.getElem_cons_succ, List.getElem_cons_zero]
        go_simp
        go_fit (H3.out _)
        rintro e wn ⟨rfl, bn⟩
        have bcn := Below.after bc bn
        try go_wp2_with fail
        refine hK.out _ _ (mkS.out _ bcn) (fun hS => ?_)
        clear hK K
        exact lst (L1_0.out g0 wn hS (k0.below bn) h0) (by kernel_rfl)
    have L0_ : Hid (∀ (w' : World) (hS : SP w'), wpAnyH Tryz.prog .any ops q SP 5 (ls 11 [0, 1, 2, 4, 5, 6]) (fr undef undef undef undef) w') := by
      clear L3_0 L3_ L2_0 L2_ L1_0
      subst hops hq hSP hfr
      intro w' hS
      have bc := bcS.out _ hS
      dsimp only
      refine rdy [3, 9] (by kernel_rfl) ?_
      refine AllReadyH.cons (o := _) rfl (fun K hK => ?_) (AllReadyH.cons (o := _) rfl (fun K hK => ?_) AllReadyH.nil)
      · simp only [List.getElem_toArray, List.getElem_cons_succ, List.getElem_cons_zero]
        go_simp
        go_fit (H3.out _)
        rintro e wn ⟨rfl, bn⟩
        have bcn := Below.after bc bn
        try go_wp2_with fail
        refine hK.out _ _ (mkS.out _ bcn) (fun hS => ?_)
        clear hK K
        exact lst (L1_.out wn hS) (by kernel_rfl)
      · simp only [List.getElem_toArray, List.getElem_cons_succ, List.getElem_cons_zero]
        go_simp
        try go_wp2_with fail
        refine hK.out _ _ (mkS.out _ (ba bc _)) (fun hS => ?_)
        clear hK K
        exact lst (L0_0.out _ _ hS (Cel.new w' _ _) bc.size) (by kernel_rfl)
    clear L3_0 L3_ L2_0 L2_ L1_0 L1_ L0_0
    subst hops hq hSP hfr
    refine wpAnyH_take (i := 0) (oi := _) (v := ?_) rfl (by kernel_rfl) (by kernel_rfl) (by kernel_rfl) (fun _ _ _ h => h) (Or.inl ⟨by rfl, ?_⟩) (by assumption) ?_
    rotate_left
    · (intro w hSw; (try dsimp only at hSw); go_simp; try with_reducible rfl)
    try simp only [Act.put, List.getElem_toArray, List.getElem_cons_zero, List.setIfInBounds_toArray, List.set_cons_zero, List.set_cons_succ]
    refine wpAnyH_take (i := 1) (oi := _) (v := ?_) rfl (by kernel_rfl) (by kernel_rfl) (by kernel_rfl) (fun _ _ _ h => h) (Or.inl ⟨by rfl, ?_⟩) (by assumption) ?_
    rotate_left
    · (intro w hSw; (try dsimp only at hSw); go_simp; try with_reducible rfl)
    try simp only [Act.put, List.getElem_toArray, List.getElem_cons_succ, List.getElem_cons_zero, List.setIfInBounds_toArray, List.set_cons_zero, List.set_cons_succ]
    refine wpAnyH_take (i := 2) (oi := _) (v := ?_) rfl (by kernel_rfl) (by kernel_rfl) (by kernel_rfl) (fun _ _ _ h => h) (Or.inl ⟨by rfl, ?_⟩) (by assumption) ?_
    rotate_left
    · (intro w hSw; (try dsimp only at hSw); go_simp; try with_reducible rfl)
    try simp only [Act.put, List.getElem_toArray, List.getElem_cons_succ, List.getElem_cons_zero, List.setIfInBounds_toArray, List.set_cons_zero, List.set_cons_succ]
    refine wpAnyH_take (i := 4) (oi := _) (v := ?_) rfl (by kernel_rfl) (by kernel_rfl) (by kernel_rfl) (fun _ _ _ h => h) (Or.inl ⟨by rfl, ?_⟩) (by assumption) ?_
    rotate_left
    · (intro w hSw; (try dsimp only at hSw); go_simp; try with_reducible rfl)
    try simp only [Act.put, List.getElem_toArray, List.getElem_cons_succ, List.getElem_cons_zero, List.setIfInBounds_toArray, List.set_cons_zero, List.set_cons_succ]
    refine wpAnyH_take (i := 5) (oi := _) (v := ?_) rfl (by kernel_rfl) (by kernel_rfl) (by kernel_rfl) (fun _ _ _ h => h) (Or.inl ⟨by rfl, ?_⟩) (by assumption) ?_
    rotate_left
    · (intro w hSw; (try dsimp only at hSw); go_simp; try with_reducible rfl)
    try simp only [Act.put, List.getElem_toArray, List.getElem_cons_succ, List.getElem_cons_zero, List.setIfInBounds_toArray, List.set_cons_zero, List.set_cons_succ]
    refine wpAnyH_take (i := 6) (oi := _) (v := ?_) rfl (by kernel_rfl) (by kernel_rfl) (by kernel_rfl) (fun _ _ _ h => h) (Or.inl ⟨by rfl, ?_⟩) (by assumption) ?_
    rotate_left
    · (intro w hSw; (try dsimp only at hSw); go_simp; try with_reducible rfl)
    try simp only [Act.put, List.getElem_toArray, List.getElem_cons_succ, List.getElem_cons_zero, List.setIfInBounds_toArray, List.set_cons_zero, List.set_cons_succ]
    exact lst (L0_.out _ (mkS.out _ (bdrew _))) (by kernel_rfl)
  case rest =>
  obtain ⟨gp, rfl, lp, kp, b1⟩ := hcut
  clear mkS bcS
  have sz := b1.size
  replace ka := ka.below b1
  replace kb := kb.below b1
  replace kr := kr.below b1
  replace kg := kg.below b1
  replace ke := ke.below b1
  replace bb := Below.after bb b1
  clear b1
  have tp := kp.lt
  go_wp2_with fail
  have mkS : ∀ w', Below wc.heap.size wc w' → (Below wc.heap.size wc w' ∧ w'.cell? ⟨w.heap.size, 0, none⟩ = some (.bool n0) ∧ w'.cell? ⟨w.heap.size, 1, none⟩ = some (.string s0) ∧ w'.cell? ⟨w.heap.size, 2, none⟩ = some (.string d0) ∧ w'.cell? ⟨w.heap.size + 1, 0, none⟩ = some (.bool n1) ∧ w'.cell? ⟨w.heap.size + 1, 1, none⟩ = some (.string s1) ∧ w'.cell? ⟨w.heap.size + 1, 2, none⟩ = some (.string d1) ∧ w'.cell? ⟨gg, 0, none⟩ = some (.bool gN) ∧ w'.cell? ⟨gg, 1, none⟩ = some (.string gS) ∧ w'.cell? ⟨ge, 0, none⟩ = some (.bool eN) ∧ w'.cell? ⟨ge, 1, none⟩ = some (.string eS)) := fun w' h => ⟨h, cel3_0 (ka.below h), cel3_1 (ka.below h), cel3_2 (ka.below h), cel3_0 (kb.below h), cel3_1 (kb.below h), cel3_2 (kb.below h), cel2_0' (kg.below h), cel2_1' (kg.below h), cel2_0' (ke.below h), cel2_1' (ke.below h)⟩
  have bcS : ∀ w', (Below wc.heap.size wc w' ∧ w'.cell? ⟨w.heap.size, 0, none⟩ = some (.bool n0) ∧ w'.cell? ⟨w.heap.size, 1, none⟩ = some (.string s0) ∧ w'.cell? ⟨w.heap.size, 2, none⟩ = some (.string d0) ∧ w'.cell? ⟨w.heap.size + 1, 0, none⟩ = some (.bool n1) ∧ w'.cell? ⟨w.heap.size + 1, 1, none⟩ = some (.string s1) ∧ w'.cell? ⟨w.heap.size + 1, 2, none⟩ = some (.string d1) ∧ w'.cell? ⟨gg, 0, none⟩ = some (.bool gN) ∧ w'.cell? ⟨gg, 1, none⟩ = some (.string gS) ∧ w'.cell? ⟨ge, 0, none⟩ = some (.bool eN) ∧ w'.cell? ⟨ge, 1, none⟩ = some (.string eS)) → Below wc.heap.size wc w' := fun w' h => h.1
  replace mkS := shut mkS
  replace bcS := shut bcS
  go_cut [9] from 29 to 37 (fun v wx => ∃ gc, v = .pointer (some ⟨gc, 0, none⟩) ∧ wc.heap.size ≤ gc ∧ Cel wx gc [.bool qN, .string qS] 24 ∧ Below wc.heap.size wc wx)
  case first =>
    clear H1 H2 H3 H4 H5 kr kp
    refine wp_region_held_drew (S := (fun w' => Below wc.heap.size wc w' ∧ w'.cell? ⟨w.heap.size, 0, none⟩ = some (.bool n0) ∧ w'.cell? ⟨w.heap.size, 1, none⟩ = some (.string s0) ∧ w'.cell? ⟨w.heap.size, 2, none⟩ = some (.string d0) ∧ w'.cell? ⟨w.heap.size + 1, 0, none⟩ = some (.bool n1) ∧ w'.cell? ⟨w.heap.size + 1, 1, none⟩ = some (.string s1) ∧ w'.cell? ⟨w.heap.size + 1, 2, none⟩ = some (.string d1) ∧ w'.cell? ⟨gg, 0, none⟩ = some (.bool gN) ∧ w'.cell? ⟨gg, 1, none⟩ = some (.string gS) ∧ w'.cell? ⟨ge, 0, none⟩ = some (.bool eN) ∧ w'.cell? ⟨ge, 1, none⟩ = some (.string eS))) (by kernel_rfl) (mkS.out _ (bdrew _)) (fun _ => ?_)
    refine absO 11 (by kernel_rfl) (fun ops q SP hops hq hSP => ?_)
    obtain ⟨fr, hfr⟩ : ∃ fr : Value → Value → Value → Value → Value → Value → Act, fr = (fun x9 x30 x32 x34 x36 x37 => { tmps := #[.agg #[.bool n0, .string s0, .string d0], .agg #[.bool n1, .string s1, .string d1], .pointer (some ⟨w.heap.size, 0, none⟩), .pointer (some ⟨w.heap.size + 1, 0, none⟩), .pointer (some ⟨w.heap.size + 1 + 1, 0, none⟩), .int .i64 0, .pointer (some ⟨gg, 0, none⟩), .pointer (some ⟨ge, 0, none⟩), .pointer (some ⟨gp, 0, none⟩), x9, u10, u11, u12, u13, u14, u15, u16, u17, u18, u19, u20, u21, u22, u23, u24, u25, u26, u27, u28, .agg #[.bool n0, .string s0, .string d0], x30, .agg #[.bool eN, .string eS], x32, .agg #[.bool n1, .string s1, .string d1], x34, .agg #[.bool gN, .string gS], x36, x37, undef, undef, undef, undef], defers := [] }) := ⟨_, rfl⟩
    have L5_0 : Hid (∀ (g0 : Nat) (w' : World) (hS : SP w') (k0 : Cel w' g0 [.bool false, .string { data := #[] }] 24) (h0 : wc.heap.size ≤ g0), wpAnyH Tryz.prog .any ops q SP 1 (ls 11 [0, 1, 2, 3, 4, 5, 6, 7, 8, 9]) (fr (.pointer (some ⟨g0, 0, none⟩)) (.agg #[.bool false, .string d0]) (.agg #[.bool cN, .string cS]) (.agg #[.bool false, .string d1]) (.agg #[.bool dN, .string dS]) (.agg #[.bool qN, .string qS])) w') := by
      subst hops hq hSP hfr
      intro g0 w' hS k0 h0
      have bc := bcS.out _ hS
      dsimp only
      have e0_0 := cel2_0' k0
      have f0_0 := Cel.frozen k0 0
      have e0_1 := cel2_1' k0
      have f0_1 := Cel.frozen k0 1
      refine rdy [10] (by kernel_rfl) ?_
      refine AllReadyH.cons (o := _) rfl (fun K hK => ?_) AllReadyH.nil
      simp only [List.getElem_toArray, List.getElem_cons_succ, List.getElem_cons_zero]
      go_simp
      try go_wp2_with fail
      clear e0_0 f0_0 e0_1 f0_1
      refine hK.out _ _ (mkS.out _ (bset (bset bc h0 0 (.bool qN)) h0 1 (.string qS))) (fun hS => ?_)
      clear hK K
      replace k0 := (Cel.set (Cel.set k0 0 (.bool qN)) 1 (.string qS))
      replace bc := (bset (bset bc h0 0 (.bool qN)) h0 1 (.string qS))
      refine wpAnyH_done (by kernel_rfl) ?_ _
      go_wp2_with fail
      go_meet
      exact ⟨_, rfl, h0, k0, bc⟩
    have L5_ : Hid (∀ (w' : World) (hS : SP w'), wpAnyH Tryz.prog .any ops q SP 2 (ls 11 [0, 1, 2, 3, 4, 5, 6, 7, 8]) (fr undef (.agg #[.bool false, .string d0]) (.agg #[.bool cN, .string cS]) (.agg #[.bool false, .string d1]) (.agg #[.bool dN, .string dS]) (.agg #[.bool qN, .string qS])) w') := by
      subst hops hq hSP hfr
      intro w' hS
      have bc := bcS.out _ hS
      dsimp only
      refine rdy [9] (by kernel_rfl) ?_
      refine AllReadyH.cons (o := _) rfl (fun K hK => ?_) AllReadyH.nil
      · simp only [List.getElem_toArray, List.getElem_cons_succ, List.getElem_cons_zero]
        go_simp
        try go_wp2_with fail
        refine hK.out _ _ (mkS.out _ (ba bc _)) (fun hS => ?_)
        clear hK K
        exact lst (L5_0.out _ _ hS (Cel.new w' _ _) bc.size) (by kernel_rfl)
    have L4_0 : Hid (∀ (g0 : Nat) (w' : World) (hS : SP w') (k0 : Cel w' g0 [.bool false, .string { data := #[] }] 24) (h0 : wc.heap.size ≤ g0), wpAnyH Tryz.prog .any ops q SP 2 (ls 11 [0, 1, 2, 3, 4, 5, 6, 7, 9]) (fr (.pointer (some ⟨g0, 0, none⟩)) (.agg #[.bool false, .string d0]) (.agg #[.bool cN, .string cS]) (.agg #[.bool false, .string d1]) (.agg #[.bool dN, .string dS]) undef) w') := by
      clear L5_
      subst hops hq hSP hfr
      intro g0 w' hS k0 h0
      have bc := bcS.out _ hS
      dsimp only
      refine rdy [8] (by kernel_rfl) ?_
      refine AllReadyH.cons (o := _) rfl (fun K hK => ?_) AllReadyH.nil
      · simp only [List.getElem_toArray, List.getElem_cons_succ, List.getElem_cons_zero]
        go_simp
        go_fit (H8.out _)
        rintro e wn ⟨rfl, bn⟩
        have bcn := Below.after bc bn
        try go_wp2_with fail
        refine hK.out _ _ (mkS.out _ bcn) (fun hS => ?_)
        clear hK K
        exact lst (L5_0.out g0 wn hS (k0.below bn) h0) (by kernel_rfl)
    have L4_ : Hid (∀ (w' : World) (hS : SP w'), wpAnyH Tryz.prog .any ops q SP 3 (ls 11 [0, 1, 2, 3, 4, 5, 6, 7]) (fr undef (.agg #[.bool false, .string d0]) (.agg #[.bool cN, .string cS]) (.agg #[.bool false, .string d1]) (.agg #[.bool dN, .string dS]) undef) w') := by
      clear L5_0
      subst hops hq hSP hfr
      intro w' hS
      have bc := bcS.out _ hS
      dsimp only
      refine rdy [8, 9] (by kernel_rfl) ?_
      refine AllReadyH.cons (o := _) rfl (fun K hK => ?_) (AllReadyH.cons (o := _) rfl (fun K hK => ?_) AllReadyH.nil)
      · simp only [List.getElem_toArray, List.getElem_cons_succ, List.getElem_cons_zero]
        go_simp
        go_fit (H8.out _)
        rintro e wn ⟨rfl, bn⟩
        have bcn := Below.after bc bn
        try go_wp2_with fail
        refine hK.out _ _ (mkS.out _ bcn) (fun hS => ?_)
        clear hK K
        exact lst (L5_.out wn hS) (by kernel_rfl)
      · simp only [List.getElem_toArray, List.getElem_cons_succ, List.getElem_cons_zero]
        go_simp
        try go_wp2_with fail
        refine hK.out _ _ (mkS.out _ (ba bc _)) (fun hS => ?_)
        clear hK K
        exact lst (L4_0.out _ _ hS (Cel.new w' _ _) bc.size) (by kernel_rfl)
    have L3_0 : Hid (∀ (g0 : Nat) (w' : World) (hS : SP w') (k0 : Cel w' g0 [.bool false, .string { data := #[] }] 24) (h0 : wc.heap.size ≤ g0), wpAnyH Tryz.prog .any ops q SP 3 (ls 11 [0, 1, 2, 3, 4, 5, 6, 9]) (fr (.pointer (some ⟨g0, 0, none⟩)) (.agg #[.bool false, .string d0]) (.agg #[.bool cN, .string cS]) (.agg #[.bool false, .string d1]) undef undef) w') := by
      clear L5_0 L5_ L4_
      subst hops hq hSP hfr
      intro g0 w' hS k0 h0
      have bc := bcS.out _ hS
      dsimp only
      refine rdy [7] (by kernel_rfl) ?_
      refine AllReadyH.cons (o := _) rfl (fun K hK => ?_) AllReadyH.nil
      · simp only [List.getElem_toArray, List.getElem_cons_succ, List.getElem_cons_zero]
        go_simp
        go_fit (H7.out _)
        rintro e wn ⟨rfl, bn⟩
        have bcn := Below.after bc bn
        try go_wp2_with fail
        refine hK.out _ _ (mkS.out _ bcn) (fun hS => ?_)
        clear hK K
        exact lst (L4_0.out g0 wn hS (k0.below bn) h0) (by kernel_rfl)
    have L3_ : Hid (∀ (w' : World) (hS : SP w'), wpAnyH Tryz.prog .any ops q SP 4 (ls 11 [0, 1, 2, 3, 4, 5, 6]) (fr undef (.agg #[.bool false, .string d0]) (.agg #[.bool cN, .string cS]) (.agg #[.bool false, .string d1]) undef undef) w') := by
      clear L5_0 L5_ L4_0
      subst hops hq hSP hfr
      intro w' hS
      have bc := bcS.out _ hS
      dsimp only
      refine rdy [7, 9] (by kernel_rfl) ?_
      refine AllReadyH.cons (o := _) rfl (fun K hK => ?_) (AllReadyH.cons (o := _) rfl (fun K hK => ?_) AllReadyH.nil)
      · simp only [List.getElem_toArray, List.getElem_cons_succ, List.getElem_cons_zero]
        go_simp
        go_fit (H7.out _)
        rintro e wn ⟨rfl, bn⟩
        have bcn := Below.after bc bn
        try go_wp2_with fail
        refine hK.out _ _ (mkS.out _ bcn) (fun hS => ?_)
        clear hK K
        exact lst (L4_.out wn hS) (by kernel_rfl)
      · simp only [List.getElem_toArray, List.getElem_cons_succ, List.getElem_cons_zero]
        go_simp
        try go_wp2_with fail
        refine hK.out _ _ (mkS.out _ (ba bc _)) (fun hS => ?_)
        clear hK K
        exact lst (L3_0.out _ _ hS (Cel.new w' _ _) bc.size) (by kernel_rfl)
    have L2_0 : Hid (∀ (g0 : Nat) (w' : World) (hS : SP w') (k0 : Cel w' g0 [.bool false, .string { data := #[] }] 24) (h0 : wc.heap.size ≤ g0), wpAnyH Tryz.prog .any ops q SP 4 (ls 11 [0, 1, 2, 3, 4, 6, 9]) (fr (.pointer (some ⟨g0, 0, none⟩)) (.agg #[.bool false, .string d0]) (.agg #[.bool cN, .string cS]) undef undef undef) w') := by
      clear L5_0 L5_ L4_0 L4_ L3_
      subst hops hq hSP hfr
      intro g0 w' hS k0 h0
      have bc := bcS.out _ hS
      dsimp only
      refine rdy [5] (by kernel_rfl) ?_
      refine AllReadyH.cons (o := _) rfl (fun K hK => ?_) AllReadyH.nil
      · simp only [List.getElem_toArray, List.getElem_cons_succ, List.getElem_cons_zero]
        go_simp
        go_fit (den_any n1 s1 d1 _)
        rintro e wn ⟨rfl, bn⟩
        have bcn := Below.after bc bn
        try go_wp2_with fail
        refine hK.out _ _ (mkS.out _ bcn) (fun hS => ?_)
        clear hK K
        exact lst (L3_0.out g0 wn hS (k0.below bn) h0) (by kernel_rfl)
    have L2_ : Hid (∀ (w' : World) (hS : SP w'), wpAnyH Tryz.prog .any ops q SP 5 (ls 11 [0, 1, 2, 3, 4, 6]) (fr undef (.agg #[.bool false, .string d0]) (.agg #[.bool cN, .string cS]) undef undef undef) w') := by
      clear L5_0 L5_ L4_0 L4_ L3_0
      subst hops hq hSP hfr
      intro w' hS
      have bc := bcS.out _ hS
      dsimp only
      refine rdy [5, 9] (by kernel_rfl) ?_
      refine AllReadyH.cons (o := _) rfl (fun K hK => ?_) (AllReadyH.cons (o := _) rfl (fun K hK => ?_) AllReadyH.nil)
      · simp only [List.getElem_toArray, List.getElem_cons_succ, List.getElem_cons_zero]
        go_simp
        go_fit (den_any n1 s1 d1 _)
        rintro e wn ⟨rfl, bn⟩
        have bcn := Below.after bc bn
        try go_wp2_with fail
        refine hK.out _ _ (mkS.out _ bcn) (fun hS => ?_)
        clear hK K
        exact lst (L3_.out wn hS) (by kernel_rfl)
      · simp only [List.getElem_toArray, List.getElem_cons_succ, List.getElem_cons_zero]
        go_simp
        try go_wp2_with fail
        refine hK.out _ _ (mkS.out _ (ba bc _)) (fun hS => ?_)
        clear hK K
        exact lst (L2_0.out _ _ hS (Cel.new w' _ _) bc.size) (by kernel_rfl)
    have L1_0 : Hid (∀ (g0 : Nat) (w' : World) (hS : SP w') (k0 : Cel w' g0 [.bool false, .string { data := #[] }] 24) (h0 : wc.heap.size ≤ g0), wpAnyH Tryz.prog .any ops q SP 5 (ls 11 [0, 1, 2, 4, 6, 9]) (fr (.pointer (some ⟨g0, 0, none⟩)) (.agg #[.bool false, .string d0]) undef undef undef undef) w') := by
      clear L5_0 L5_ L4_0 L4_ L3_0 L3_ L2_
      subst hops hq hSP hfr
      intro g0 w' hS k0 h0
      have bc := bcS.out _ hS
      dsimp only
      refine rdy [3] (by kernel_rfl) ?_
      refine AllReadyH.cons (o := _) rfl (fun K hK => ?_) AllReadyH.nil
      · simp only [List.getElem_toArray, List.getElem_cons_succ, List.getElem_cons_zero]
        go_simp
        go_fit (H6.out _)
        rintro e wn ⟨rfl, bn⟩
        have bcn := Below.after bc bn
        try go_wp2_with fail
        refine hK.out _ _ (mkS.out _ bcn) (fun hS => ?_)
        clear hK K
        exact lst (L2_0.out g0 wn hS (k0.below bn) h0) (by kernel_rfl)
    have L1_ : Hid (∀ (w' : World) (hS : SP w'), wpAnyH Tryz.prog .any ops q SP 6 (ls 11 [0, 1, 2, 4, 6]) (fr undef (.agg #[.bool false, .string d0]) undef undef undef undef) w') := by
      clear L5_0 L5_ L4_0 L4_ L3_0 L3_ L2_0
      subst hops hq hSP hfr
      intro w' hS
      have bc := bcS.out _ hS
      dsimp only
      refine rdy [3, 9] (by kernel_rfl) ?_
      refine AllReadyH.cons (o := _) rfl (fun K hK => ?_) (AllReadyH.cons (o := _) rfl (fun K hK => ?_) AllReadyH.nil)
      · simp only [List.getElem_toArray, List.getElem_cons_succ, List.getElem_cons_zero]
        go_simp
        go_fit (H6.out _)
        rintro e wn ⟨rfl, bn⟩
        have bcn := Below.after bc bn
        try go_wp2_with fail
        refine hK.out _ _ (mkS.out _ bcn) (fun hS => ?_)
        clear hK K
        exact lst (L2_.out wn hS) (by kernel_rfl)
      · simp only [List.getElem_toArray, List.getElem_cons_succ, List.getElem_cons_zero]
        go_simp
        try go_wp2_with fail
        refine hK.out _ _ (mkS.out _ (ba bc _)) (fun hS => ?_)
        clear hK K
        exact lst (L1_0.out _ _ hS (Cel.new w' _ _) bc.size) (by kernel_rfl)
    have L0_0 : Hid (∀ (g0 : Nat) (w' : World) (hS : SP w') (k0 : Cel w' g0 [.bool false, .string { data := #[] }] 24) (h0 : wc.heap.size ≤ g0), wpAnyH Tryz.prog .any ops q SP 6 (ls 11 [0, 2, 4, 6, 9]) (fr (.pointer (some ⟨g0, 0, none⟩)) undef undef undef undef undef) w') := by
      clear L5_0 L5_ L4_0 L4_ L3_0 L3_ L2_0 L2_ L1_
      subst hops hq hSP hfr
      intro g0 w' hS k0 h0
      have bc := bcS.out _ hS
      dsimp only
      refine rdy [1] (by kernel_rfl) ?_
      refine AllReadyH.cons (o := _) rfl (fun K hK => ?_) AllReadyH.nil
      · simp only [List.getElem_toArray, List.getElem_cons_succ, List.getElem_cons_zero]
        go_simp
        go_fit (den_any n0 s0 d0 _)
        rintro e wn ⟨rfl, bn⟩
        have bcn := Below.after bc bn
        try go_wp2_with fail
        refine hK.out _ _ (mkS.out _ bcn) (fun hS => ?_)
        clear hK K
        exact lst (L1_0.out g0 wn hS (k0.below bn) h0) (by kernel_rfl)
    have L0_ : Hid (∀ (w' : World) (hS : SP w'), wpAnyH Tryz.prog .any ops q SP 7 (ls 11 [0, 2, 4, 6]) (fr undef undef undef undef undef undef) w') := by
      clear L5_0 L5_ L4_0 L4_ L3_0 L3_ L2_0 L2_ L1_0
      subst hops hq hSP hfr
      intro w' hS
      have bc := bcS.out _ hS
      dsimp only
      refine rdy [1, 9] (by kernel_rfl) ?_
      refine AllReadyH.cons (o := _) rfl (fun K hK => ?_) (AllReadyH.cons (o := _) rfl (fun K hK => ?_) AllReadyH.nil)
      · simp only [List.getElem_toArray, List.getElem_cons_succ, List.getElem_cons_zero]
        go_simp
        go_fit (den_any n0 s0 d0 _)
        rintro e wn ⟨rfl, bn⟩
        have bcn := Below.after bc bn
        try go_wp2_with fail
        refine hK.out _ _ (mkS.out _ bcn) (fun hS => ?_)
        clear hK K
        exact lst (L1_.out wn hS) (by kernel_rfl)
      · simp only [List.getElem_toArray, List.getElem_cons_succ, List.getElem_cons_zero]
        go_simp
        try go_wp2_with fail
        refine hK.out _ _ (mkS.out _ (ba bc _)) (fun hS => ?_)
        clear hK K
        exact lst (L0_0.out _ _ hS (Cel.new w' _ _) bc.size) (by kernel_rfl)
    clear L5_0 L5_ L4_0 L4_ L3_0 L3_ L2_0 L2_ L1_0 L1_ L0_0
    subst hops hq hSP hfr
    refine wpAnyH_take (i := 0) (oi := _) (v := ?_) rfl (by kernel_rfl) (by kernel_rfl) (by kernel_rfl) (fun _ _ _ h => h) (Or.inl ⟨by rfl, ?_⟩) (by assumption) ?_
    rotate_left
    · (intro w hSw; (try dsimp only at hSw); go_simp; try with_reducible rfl)
    try simp only [Act.put, List.getElem_toArray, List.getElem_cons_zero, List.setIfInBounds_toArray, List.set_cons_zero, List.set_cons_succ]
    refine wpAnyH_take (i := 2) (oi := _) (v := ?_) rfl (by kernel_rfl) (by kernel_rfl) (by kernel_rfl) (fun _ _ _ h => h) (Or.inl ⟨by rfl, ?_⟩) (by assumption) ?_
    rotate_left
    · (intro w hSw; (try dsimp only at hSw); go_simp; try with_reducible rfl)
    try simp only [Act.put, List.getElem_toArray, List.getElem_cons_succ, List.getElem_cons_zero, List.setIfInBounds_toArray, List.set_cons_zero, List.set_cons_succ]
    refine wpAnyH_take (i := 4) (oi := _) (v := ?_) rfl (by kernel_rfl) (by kernel_rfl) (by kernel_rfl) (fun _ _ _ h => h) (Or.inl ⟨by rfl, ?_⟩) (by assumption) ?_
    rotate_left
    · (intro w hSw; (try dsimp only at hSw); go_simp; try with_reducible rfl)
    try simp only [Act.put, List.getElem_toArray, List.getElem_cons_succ, List.getElem_cons_zero, List.setIfInBounds_toArray, List.set_cons_zero, List.set_cons_succ]
    refine wpAnyH_take (i := 6) (oi := _) (v := ?_) rfl (by kernel_rfl) (by kernel_rfl) (by kernel_rfl) (fun _ _ _ h => h) (Or.inl ⟨by rfl, ?_⟩) (by assumption) ?_
    rotate_left
    · (intro w hSw; (try dsimp only at hSw); go_simp; try with_reducible rfl)
    try simp only [Act.put, List.getElem_toArray, List.getElem_cons_succ, List.getElem_cons_zero, List.setIfInBounds_toArray, List.set_cons_zero, List.set_cons_succ]
    exact lst (L0_.out _ (mkS.out _ (bdrew _))) (by kernel_rfl)
  case rest =>
  obtain ⟨gq, rfl, lq, kq, b1⟩ := hcut
  clear mkS bcS
  have sz := b1.size
  replace ka := ka.below b1
  replace kb := kb.below b1
  replace kr := kr.below b1
  replace kg := kg.below b1
  replace ke := ke.below b1
  replace kp := kp.below b1
  replace bb := Below.after bb b1
  clear b1
  have tq := kq.lt
  have cp_0 := cel2_0' kp
  have cp_1 := cel2_1' kp
  have cq_2 := cel2_0' kq
  have cq_3 := cel2_1' kq
  have cr_4 := cel3_0 kr
  have fr_5 := Cel.frozen kr 0
  have cr_6 := cel3_1 kr
  have fr_7 := Cel.frozen kr 1
  have cr_8 := cel3_2 kr
  have fr_9 := Cel.frozen kr 2
  go_wp2
  exact post_q1 (p := 4) (u := 5) (by kernel_rfl) rfl rfl rfl (((kr.set 0 _).set 1 _).set 2 _) ⟨rfl, bset (bset (bset bb (by omega) 0 _) (by omega) 1 _) (by omega) 2 _⟩
end Go.Proofs.YtlihcbeacjimkaaGreatDoor
namespace Go.Proofs.YtlihcbeacjimkaaGreatDoor
open Go.RowKit

/-- Signs and bytes behind names; those of no sign apart. -/
theorem named0 : ∃ (nf : Int → Bool) (sf : Int → ByteArray), (∀ z, zI z = .agg #[.bool (nf z), .string (sf z)]) ∧ (∀ z, OkZ (nf z) (sf z)) ∧ (∀ z k, Bd z k → (sf z).size ≤ k) ∧ (∀ z, zOf (nf z) (sf z) = z) ∧ (∀ z, natOf (sf z) = z.natAbs) ∧ (∀ m : Nat, nf (m : Int) = false) ∧ (∀ m : Nat, sf (m : Int) = strOf m) ∧ (∀ m : Nat, natOf (sf (m : Int)) = m) ∧ (∀ m : Nat, zI (m : Int) = .agg #[.bool false, .string (sf (m : Int))]) := by
  obtain ⟨nf, sf, h1, h2, h3, h4, -, h6, h7, h8⟩ := named
  have hn : ∀ m : Nat, nf (m : Int) = false := fun m => by rw [h7]; simp
  exact ⟨nf, sf, h1, h2, h3, h4, h6, hn, fun m => by rw [h8]; rfl, fun m => by rw [h6]; rfl, fun m => by rw [h1, hn]⟩
theorem bd_nat {s : ByteArray} {k : Nat} (h : s.size ≤ k) : Bd ((natOf s : Nat) : Int) k := bd_zOf (n := false) h
theorem zOf_false (s : ByteArray) : zOf false s = ((natOf s : Nat) : Int) := rfl

theorem sum_ok (n0 n1 : Bool) (s0 d0 s1 d1 : ByteArray) (w : World) (hT : Tab w) (o0 : OkQ n0 s0 d0) (o1 : OkQ n1 s1 d1) {K : Nat} (hK : K ≤ 4000) (z0 : s0.size ≤ K) (y0 : d0.size ≤ K) (z1 : s1.size ≤ K) (y1 : d1.size ≤ K) :
    Calls Tryz.prog 41 #[.agg #[.bool n0, .string s0, .string d0], .agg #[.bool n1, .string s1, .string d1]] w fun e w' => e = .returned (.tuple #[qI (qOf n0 s0 d0 + qOf n1 s1 d1), .int .i64 0]) ∧ Below w.heap.size w w' := by
  obtain ⟨nf, sf, hf, hok, hsz, hz, hnat, hneg, hstr, hnn, hfn⟩ := named0
  obtain ⟨G, hG⟩ : ∃ G, G = Nat.gcd (natOf d0) (natOf d1) := ⟨_, rfl⟩
  obtain ⟨ra, hra⟩ : ∃ x, x = natOf d0 / G := ⟨_, rfl⟩
  obtain ⟨rb, hrb⟩ : ∃ x, x = natOf d1 / G := ⟨_, rfl⟩
  obtain ⟨N, hN⟩ : ∃ x : Int, x = zOf n0 s0 * (rb : Nat) + zOf n1 s1 * (ra : Nat) := ⟨_, rfl⟩
  obtain ⟨C, hC⟩ : ∃ x, x = Nat.gcd N.natAbs G := ⟨_, rfl⟩
  have hGp : 0 < G := by rw [hG]; exact Nat.gcd_pos_of_pos_left _ o0.2.2.1
  have hCp : 0 < C := by rw [hC]; exact Nat.gcd_pos_of_pos_right _ hGp
  have key := Q.add_low (qOf n0 s0 d0) (qOf n1 s1 d1) G ra rb (by rw [o0.low.2, o1.low.2]; exact hG) (by rw [o0.low.2]; exact hra) (by rw [o1.low.2]; exact hrb) N (by rw [o0.low.1, o1.low.1]; exact hN) C hC
  rw [o1.low.2] at key
  have ed0 : OkZ false d0 := ⟨o0.2.1, fun h => by cases h⟩
  have ed1 : OkZ false d1 := ⟨o1.2.1, fun h => by cases h⟩
  have bG : Bd (G : Int) K := (bd_nat y0).nat (by rw [hG]; exact Nat.le_of_dvd o0.2.2.1 (Nat.gcd_dvd_left _ _))
  have bra : Bd (ra : Int) K := (bd_nat y0).nat (by rw [hra]; exact Nat.div_le_self _ _)
  have brb : Bd (rb : Int) K := (bd_nat y1).nat (by rw [hrb]; exact Nat.div_le_self _ _)
  have bx : Bd (zOf n0 s0 * (rb : Nat)) (K + K) := (bd_zOf z0).mul brb
  have bY : Bd (zOf n1 s1 * (ra : Nat)) (K + K) := (bd_zOf z1).mul bra
  have bN : Bd N (K + K + 1) := by rw [hN]; exact bx.add bY
  have bC : Bd (C : Int) K := bG.nat (by rw [hC]; exact Nat.le_of_dvd hGp (Nat.gcd_dvd_right _ _))
  have bq : Bd ((natOf d1 / C : Nat) : Int) K := (bd_nat y1).nat (Nat.div_le_self _ _)
  have eq := qI_of key (hf _) (hstr _).symm.symm
  rw [eq]
  refine sum_walk n0 n1 false false false (nf (zOf n0 s0 * (rb : Nat))) (nf (zOf n1 s1 * (ra : Nat))) (nf N) false (nf (N / (C : Nat))) false false s0 d0 s1 d1 (sf (G : Nat)) (sf (ra : Nat)) (sf (rb : Nat)) (sf (zOf n0 s0 * (rb : Nat))) (sf (zOf n1 s1 * (ra : Nat))) (sf N) (sf (C : Nat)) (sf (N / (C : Nat))) (sf ((natOf d1 / C : Nat) : Int)) (sf ((ra * (natOf d1 / C) : Nat) : Int)) w ?_ ?_ ?_ ?_ ?_ ?_ ?_ ?_ ?_ ?_
  · intro w1 b
    have := divisor_ok false false d0 d1 w1 ed0 ed1 (by omega) (by omega) (hT.below b)
    rwa [← hG, hfn] at this
  · intro w1
    have := cut_ok false d0 (sf (G : Nat)) w1 ed0 (hok _).1 (by omega) (Nat.le_trans (hsz _ _ bG) (by omega)) (by rw [hnn]; exact hGp)
    rwa [hnn, zOf_false, ← Int.natCast_ediv, ← hra, hfn] at this
  · intro w1
    have := cut_ok false d1 (sf (G : Nat)) w1 ed1 (hok _).1 (by omega) (Nat.le_trans (hsz _ _ bG) (by omega)) (by rw [hnn]; exact hGp)
    rwa [hnn, zOf_false, ← Int.natCast_ediv, ← hrb, hfn] at this
  · intro w1
    have := times_ok n0 false s0 (sf (rb : Nat)) w1 o0.1 ⟨(hok _).1, fun h => by cases h⟩ (by omega) (Nat.le_trans (hsz _ _ brb) (by omega))
    rwa [zOf_false, hnn, hf] at this
  · intro w1
    have := times_ok n1 false s1 (sf (ra : Nat)) w1 o1.1 ⟨(hok _).1, fun h => by cases h⟩ (by omega) (Nat.le_trans (hsz _ _ bra) (by omega))
    rwa [zOf_false, hnn, hf] at this
  · intro w1
    have := plus_ok _ _ _ _ w1 (hok (zOf n0 s0 * (rb : Nat))) (hok (zOf n1 s1 * (ra : Nat))) (Nat.le_trans (hsz _ _ bx) (by omega)) (Nat.le_trans (hsz _ _ bY) (by omega))
    rwa [hz, hz, ← hN, hf] at this
  · intro w1 b
    have := divisor_ok _ false _ (sf (G : Nat)) w1 (hok N) ⟨(hok _).1, fun h => by cases h⟩ (Nat.le_trans (hsz _ _ bN) (by omega)) (Nat.le_trans (hsz _ _ bG) (by omega)) (hT.below b)
    rwa [hnat N, hnn, ← hC, hfn] at this
  · intro w1
    have := cut_ok _ _ (sf (C : Nat)) w1 (hok N) (hok _).1 (Nat.le_trans (hsz _ _ bN) (by omega)) (Nat.le_trans (hsz _ _ bC) (by omega)) (by rw [hnn]; exact hCp)
    rwa [hnn, hz, hf] at this
  · intro w1
    have := cut_ok false d1 (sf (C : Nat)) w1 ed1 (hok _).1 (by omega) (Nat.le_trans (hsz _ _ bC) (by omega)) (by rw [hnn]; exact hCp)
    rwa [hnn, zOf_false, ← Int.natCast_ediv, hfn] at this
  · intro w1
    have := times_ok false false (sf (ra : Nat)) (sf ((natOf d1 / C : Nat) : Int)) w1 ⟨(hok _).1, fun h => by cases h⟩ ⟨(hok _).1, fun h => by cases h⟩ (Nat.le_trans (hsz _ _ bra) (by omega)) (Nat.le_trans (hsz _ _ bq) (by omega))
    rwa [zOf_false, zOf_false, hnn, hnn, ← Int.natCast_mul, hfn] at this

theorem product_ok (n0 n1 : Bool) (s0 d0 s1 d1 : ByteArray) (w : World) (hT : Tab w) (o0 : OkQ n0 s0 d0) (o1 : OkQ n1 s1 d1) {K : Nat} (hK : K ≤ 4000) (z0 : s0.size ≤ K) (y0 : d0.size ≤ K) (z1 : s1.size ≤ K) (y1 : d1.size ≤ K) :
    Calls Tryz.prog 43 #[.agg #[.bool n0, .string s0, .string d0], .agg #[.bool n1, .string s1, .string d1]] w fun e w' => e = .returned (.tuple #[qI (qOf n0 s0 d0 * qOf n1 s1 d1), .int .i64 0]) ∧ Below w.heap.size w w' := by
  obtain ⟨nf, sf, hf, hok, hsz, hz, hnat, hneg, hstr, hnn, hfn⟩ := named0
  obtain ⟨A, hA⟩ : ∃ x, x = Nat.gcd (natOf s0) (natOf d1) := ⟨_, rfl⟩
  obtain ⟨B, hB⟩ : ∃ x, x = Nat.gcd (natOf s1) (natOf d0) := ⟨_, rfl⟩
  have hAp : 0 < A := by rw [hA]; exact Nat.gcd_pos_of_pos_right _ o1.2.2.1
  have hBp : 0 < B := by rw [hB]; exact Nat.gcd_pos_of_pos_right _ o0.2.2.1
  have key := Q.mul_low (qOf n0 s0 d0) (qOf n1 s1 d1) A B (by rw [o0.low.1, o1.low.2, natAbs_zOf]; exact hA) (by rw [o1.low.1, o0.low.2, natAbs_zOf]; exact hB)
  rw [o0.low.1, o0.low.2, o1.low.1, o1.low.2] at key
  have ed0 : OkZ false d0 := ⟨o0.2.1, fun h => by cases h⟩
  have ed1 : OkZ false d1 := ⟨o1.2.1, fun h => by cases h⟩
  have dA0 : ((A : Nat) : Int) ∣ zOf n0 s0 := by
    rw [← Int.dvd_natAbs, natAbs_zOf, Int.ofNat_dvd, hA]; exact Nat.gcd_dvd_left _ _
  have dB1 : ((B : Nat) : Int) ∣ zOf n1 s1 := by
    rw [← Int.dvd_natAbs, natAbs_zOf, Int.ofNat_dvd, hB]; exact Nat.gcd_dvd_left _ _
  have bA : Bd (A : Int) K := (bd_nat y1).nat (by rw [hA]; exact Nat.le_of_dvd o1.2.2.1 (Nat.gcd_dvd_right _ _))
  have bB : Bd (B : Int) K := (bd_nat y0).nat (by rw [hB]; exact Nat.le_of_dvd o0.2.2.1 (Nat.gcd_dvd_right _ _))
  have ba : Bd (zOf n0 s0 / (A : Nat)) K := (bd_zOf z0).div A dA0
  have bb : Bd (zOf n1 s1 / (B : Nat)) K := (bd_zOf z1).div B dB1
  have bc : Bd ((natOf d0 / B : Nat) : Int) K := (bd_nat y0).nat (Nat.div_le_self _ _)
  have bd : Bd ((natOf d1 / A : Nat) : Int) K := (bd_nat y1).nat (Nat.div_le_self _ _)
  have eq := qI_of key (hf _) (hstr _).symm.symm
  rw [eq]
  refine product_walk n0 n1 false false (nf (zOf n0 s0 / (A : Nat))) (nf (zOf n1 s1 / (B : Nat))) (nf (zOf n0 s0 / (A : Nat) * (zOf n1 s1 / (B : Nat)))) false false false s0 d0 s1 d1 (sf (A : Nat)) (sf (B : Nat)) (sf (zOf n0 s0 / (A : Nat))) (sf (zOf n1 s1 / (B : Nat))) (sf (zOf n0 s0 / (A : Nat) * (zOf n1 s1 / (B : Nat)))) (sf ((natOf d0 / B : Nat) : Int)) (sf ((natOf d1 / A : Nat) : Int)) (sf ((natOf d0 / B * (natOf d1 / A) : Nat) : Int)) w ?_ ?_ ?_ ?_ ?_ ?_ ?_ ?_
  · intro w1 b
    have := divisor_ok n0 false s0 d1 w1 o0.1 ed1 (by omega) (by omega) (hT.below b)
    rwa [← hA, hfn] at this
  · intro w1 b
    have := divisor_ok n1 false s1 d0 w1 o1.1 ed0 (by omega) (by omega) (hT.below b)
    rwa [← hB, hfn] at this
  · intro w1
    have := cut_ok n0 s0 (sf (A : Nat)) w1 o0.1 (hok _).1 (by omega) (Nat.le_trans (hsz _ _ bA) (by omega)) (by rw [hnn]; exact hAp)
    rwa [hnn, hf] at this
  · intro w1
    have := cut_ok n1 s1 (sf (B : Nat)) w1 o1.1 (hok _).1 (by omega) (Nat.le_trans (hsz _ _ bB) (by omega)) (by rw [hnn]; exact hBp)
    rwa [hnn, hf] at this
  · intro w1
    have := times_ok _ _ _ _ w1 (hok (zOf n0 s0 / (A : Nat))) (hok (zOf n1 s1 / (B : Nat))) (Nat.le_trans (hsz _ _ ba) (by omega)) (Nat.le_trans (hsz _ _ bb) (by omega))
    rwa [hz, hz, hf] at this
  · intro w1
    have := cut_ok false d0 (sf (B : Nat)) w1 ed0 (hok _).1 (by omega) (Nat.le_trans (hsz _ _ bB) (by omega)) (by rw [hnn]; exact hBp)
    rwa [hnn, zOf_false, ← Int.natCast_ediv, hfn] at this
  · intro w1
    have := cut_ok false d1 (sf (A : Nat)) w1 ed1 (hok _).1 (by omega) (Nat.le_trans (hsz _ _ bA) (by omega)) (by rw [hnn]; exact hAp)
    rwa [hnn, zOf_false, ← Int.natCast_ediv, hfn] at this
  · intro w1
    have := times_ok false false (sf ((natOf d0 / B : Nat) : Int)) (sf ((natOf d1 / A : Nat) : Int)) w1 ⟨(hok _).1, fun h => by cases h⟩ ⟨(hok _).1, fun h => by cases h⟩ (Nat.le_trans (hsz _ _ bc) (by omega)) (Nat.le_trans (hsz _ _ bd) (by omega))
    rwa [zOf_false, zOf_false, hnn, hnn, ← Int.natCast_mul, hfn] at this
end Go.Proofs.YtlihcbeacjimkaaGreatDoor
namespace Go.Proofs.YtlihcbeacjimkaaGreatDoor
open Go.RowKit

set_option maxRecDepth 100000 in
set_option maxHeartbeats 4000000 in
theorem difference_some (n0 n1 pN : Bool) (s0 d0 s1 d1 pS qS : ByteArray) (w : World) (hs : s1.toList.isEmpty = false)
    (H1 : Hid (∀ w1, Below w.heap.size w w1 → Calls Tryz.prog 41 #[.agg #[.bool n0, .string s0, .string d0], .agg #[.bool (!n1), .string s1, .string d1]] w1 fun e w' => e = .returned (.tuple #[.agg #[.bool pN, .string pS, .string qS], .int .i64 0]) ∧ Below w1.heap.size w1 w')) :
    Calls Tryz.prog 42 #[.agg #[.bool n0, .string s0, .string d0], .agg #[.bool n1, .string s1, .string d1]] w fun e w' => e = .returned (.tuple #[.agg #[.bool pN, .string pS, .string qS], .int .i64 0]) ∧ Below w.heap.size w w' := by
  go_enter Tryz.func42, Tryz.ntmps42
  go_wp2_with fail
  go_fit (H1.out _ (ba (ba (ba (Below.refl _ _) _) _) _))
  rintro e w1 ⟨rfl, b1⟩
  obtain ⟨ka, kb, kr, b1⟩ := al3 b1
  have sz := b1.size
  have bb := b1
  clear b1
  have ta := ka.lt
  have tb := kb.lt
  have tr := kr.lt
  have cr_0 := cel3_0 kr
  have fr_1 := Cel.frozen kr 0
  have cr_2 := cel3_1 kr
  have fr_3 := Cel.frozen kr 1
  have cr_4 := cel3_2 kr
  have fr_5 := Cel.frozen kr 2
  go_wp2
  exact post_q1 (p := 4) (u := 5) (by kernel_rfl) rfl rfl rfl (((kr.set 0 _).set 1 _).set 2 _) ⟨rfl, bset (bset (bset bb (by omega) 0 _) (by omega) 1 _) (by omega) 2 _⟩
set_option maxRecDepth 100000 in
set_option maxHeartbeats 4000000 in
theorem difference_none (n0 n1 pN : Bool) (s0 d0 d1 pS qS : ByteArray) (w : World)
    (H1 : Hid (∀ w1, Below w.heap.size w w1 → Calls Tryz.prog 41 #[.agg #[.bool n0, .string s0, .string d0], .agg #[.bool false, .string ByteArray.empty, .string d1]] w1 fun e w' => e = .returned (.tuple #[.agg #[.bool pN, .string pS, .string qS], .int .i64 0]) ∧ Below w1.heap.size w1 w')) :
    Calls Tryz.prog 42 #[.agg #[.bool n0, .string s0, .string d0], .agg #[.bool n1, .string ByteArray.empty, .string d1]] w fun e w' => e = .returned (.tuple #[.agg #[.bool pN, .string pS, .string qS], .int .i64 0]) ∧ Below w.heap.size w w' := by
  go_enter Tryz.func42, Tryz.ntmps42
  go_wp2_with fail
  go_fit (H1.out _ (ba (ba (ba (Below.refl _ _) _) _) _))
  rintro e w1 ⟨rfl, b1⟩
  obtain ⟨ka, kb, kr, b1⟩ := al3 b1
  have sz := b1.size
  have bb := b1
  clear b1
  have ta := ka.lt
  have tb := kb.lt
  have tr := kr.lt
  have cr_0 := cel3_0 kr
  have fr_1 := Cel.frozen kr 0
  have cr_2 := cel3_1 kr
  have fr_3 := Cel.frozen kr 1
  have cr_4 := cel3_2 kr
  have fr_5 := Cel.frozen kr 2
  go_wp2
  exact post_q1 (p := 4) (u := 5) (by kernel_rfl) rfl rfl rfl (((kr.set 0 _).set 1 _).set 2 _) ⟨rfl, bset (bset (bset bb (by omega) 0 _) (by omega) 1 _) (by omega) 2 _⟩
set_option maxRecDepth 100000 in
set_option maxHeartbeats 4000000 in
theorem quotient_some (n0 n1 pN : Bool) (s0 d0 s1 d1 pS qS : ByteArray) (w : World) (hs : s1.toList.isEmpty = false)
    (H1 : Hid (∀ w1, Below w.heap.size w w1 → Calls Tryz.prog 43 #[.agg #[.bool n0, .string s0, .string d0], .agg #[.bool n1, .string d1, .string s1]] w1 fun e w' => e = .returned (.tuple #[.agg #[.bool pN, .string pS, .string qS], .int .i64 0]) ∧ Below w1.heap.size w1 w')) :
    Calls Tryz.prog 44 #[.agg #[.bool n0, .string s0, .string d0], .agg #[.bool n1, .string s1, .string d1]] w fun e w' => e = .returned (.tuple #[.agg #[.bool pN, .string pS, .string qS], .int .i64 0]) ∧ Below w.heap.size w w' := by
  go_enter Tryz.func44, Tryz.ntmps44
  go_wp2_with fail
  go_fit (H1.out _ (ba (ba (ba (Below.refl _ _) _) _) _))
  rintro e w1 ⟨rfl, b1⟩
  obtain ⟨ka, kb, kr, b1⟩ := al3 b1
  have sz := b1.size
  have bb := b1
  clear b1
  have ta := ka.lt
  have tb := kb.lt
  have tr := kr.lt
  have cr_0 := cel3_0 kr
  have fr_1 := Cel.frozen kr 0
  have cr_2 := cel3_1 kr
  have fr_3 := Cel.frozen kr 1
  have cr_4 := cel3_2 kr
  have fr_5 := Cel.frozen kr 2
  go_wp2
  exact post_q1 (p := 4) (u := 5) (by kernel_rfl) rfl rfl rfl (((kr.set 0 _).set 1 _).set 2 _) ⟨rfl, bset (bset (bset bb (by omega) 0 _) (by omega) 1 _) (by omega) 2 _⟩
set_option maxRecDepth 100000 in
set_option maxHeartbeats 4000000 in
theorem quotient_none (n0 n1 : Bool) (s0 d0 d1 : ByteArray) (w : World) :
    Calls Tryz.prog 44 #[.agg #[.bool n0, .string s0, .string d0], .agg #[.bool n1, .string ByteArray.empty, .string d1]] w fun e w' => e = .returned (.tuple #[.agg #[.bool false, .string { data := #[] }, .string { data := #[] }], .int .i64 3]) ∧ Below w.heap.size w w' := by
  go_enter Tryz.func44, Tryz.ntmps44
  go_wp2
  obtain ⟨w1, hw, ka, kb, kr, b1⟩ := mk3 w [.bool n0, .string s0, .string d0] [.bool n1, .string ByteArray.empty, .string d1] [.bool false, .string { data := #[] }, .string { data := #[] }] 26 26 26
  rw [← hw]
  clear hw
  have sz := b1.size
  have ta := ka.lt
  have tb := kb.lt
  have tr := kr.lt
  have bb := b1
  clear b1
  exact post_q1 (p := 4) (u := 5) (by kernel_rfl) rfl rfl rfl kr ⟨rfl, bb⟩

theorem qOf_neg {n : Bool} {s d : ByteArray} : qOf (!n) s d = - qOf n s d := by
  unfold qOf
  rw [Rat.neg_mkRat]
  congr 1
  cases n <;> simp [zOf]
theorem difference_ok (n0 n1 : Bool) (s0 d0 s1 d1 : ByteArray) (w : World) (hT : Tab w) (o0 : OkQ n0 s0 d0) (o1 : OkQ n1 s1 d1) {K : Nat} (hK : K ≤ 4000) (z0 : s0.size ≤ K) (y0 : d0.size ≤ K) (z1 : s1.size ≤ K) (y1 : d1.size ≤ K) :
    Calls Tryz.prog 42 #[.agg #[.bool n0, .string s0, .string d0], .agg #[.bool n1, .string s1, .string d1]] w fun e w' => e = .returned (.tuple #[qI (qOf n0 s0 d0 - qOf n1 s1 d1), .int .i64 0]) ∧ Below w.heap.size w w' := by
  have hT' := fun w1 (b : Below w.heap.size w w1) => hT.below b
  by_cases hs : 0 < s1.size
  · have on : OkQ (!n1) s1 d1 := ⟨⟨o1.1.1, fun _ => hs⟩, o1.2⟩
    have h5 : s1.toList.isEmpty = false := by simpa using toList_ne hs
    have e : qOf n0 s0 d0 - qOf n1 s1 d1 = qOf n0 s0 d0 + qOf (!n1) s1 d1 := by rw [qOf_neg, Rat.sub_eq_add_neg]
    rw [e]
    exact difference_some n0 n1 _ s0 d0 s1 d1 _ _ w h5 (fun w1 b => sum_ok n0 (!n1) s0 d0 s1 d1 w1 (hT' w1 b) o0 on hK z0 y0 z1 y1)
  · have g3 : s1 = ByteArray.empty := ByteArray.size_eq_zero_iff.1 (by omega)
    subst g3
    have hn : n1 = false := by
      cases n1 with
      | false => rfl
      | true => exact absurd (o1.1.2 rfl) hs
    subst hn
    have e0 : qOf false ByteArray.empty d1 = 0 := by
      unfold qOf
      rw [show zOf false ByteArray.empty = 0 from rfl, Rat.zero_mkRat]
    have e : qOf n0 s0 d0 - qOf false ByteArray.empty d1 = qOf n0 s0 d0 + qOf false ByteArray.empty d1 := by rw [e0, Rat.sub_eq_add_neg, Rat.neg_zero]
    rw [e]
    exact difference_none n0 false _ s0 d0 d1 _ _ w (fun w1 b => sum_ok n0 false s0 d0 ByteArray.empty d1 w1 (hT' w1 b) o0 o1 hK z0 y0 z1 y1)
theorem qOf_inv {n : Bool} {s d : ByteArray} : qOf n d s = (qOf n s d)⁻¹ := by
  unfold qOf
  rw [← Rat.divInt_ofNat, ← Rat.divInt_ofNat, Rat.inv_divInt]
  cases n with
  | false => rfl
  | true =>
    show Rat.divInt (-(natOf d : Int)) (natOf s : Int) = Rat.divInt (natOf d : Int) (-(natOf s : Int))
    rw [Rat.divInt_neg']
/-- The quotient, or that there is none. -/
theorem quotient_ok (n0 n1 : Bool) (s0 d0 s1 d1 : ByteArray) (w : World) (hT : Tab w) (o0 : OkQ n0 s0 d0) (o1 : OkQ n1 s1 d1) {K : Nat} (hK : K ≤ 4000) (z0 : s0.size ≤ K) (y0 : d0.size ≤ K) (z1 : s1.size ≤ K) (y1 : d1.size ≤ K) (hs : 0 < natOf s1) :
    Calls Tryz.prog 44 #[.agg #[.bool n0, .string s0, .string d0], .agg #[.bool n1, .string s1, .string d1]] w fun e w' => e = .returned (.tuple #[qI (qOf n0 s0 d0 / qOf n1 s1 d1), .int .i64 0]) ∧ Below w.heap.size w w' := by
  have hT' := fun w1 (b : Below w.heap.size w w1) => hT.below b
  have h0 : 0 < s1.size := Nat.pos_of_ne_zero fun e => by have := natOf_empty e; omega
  have h1 : 0 < d1.size := Nat.pos_of_ne_zero fun e => by have := natOf_empty e; have := o1.2.2.1; omega
  have on : OkQ n1 d1 s1 := ⟨⟨o1.2.1, fun _ => h1⟩, o1.1.1, hs, by rw [Nat.gcd_comm]; exact o1.2.2.2⟩
  have h5 : s1.toList.isEmpty = false := by simpa using toList_ne h0
  have e : qOf n0 s0 d0 / qOf n1 s1 d1 = qOf n0 s0 d0 * qOf n1 d1 s1 := by rw [qOf_inv (n := n1) (s := s1) (d := d1), Rat.div_def]
  rw [e]
  exact quotient_some n0 n1 _ s0 d0 s1 d1 _ _ w h5 (fun w1 b => product_ok n0 n1 s0 d0 d1 s1 w1 (hT' w1 b) o0 on hK z0 y0 y1 z1)

end Go.Proofs.YtlihcbeacjimkaaGreatDoor
