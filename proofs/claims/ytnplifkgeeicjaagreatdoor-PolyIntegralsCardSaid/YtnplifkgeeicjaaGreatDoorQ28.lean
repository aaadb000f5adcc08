import Derived.Test.YtnplifkgeeicjaaGreatDoorQ26
import Derived.Test.YtnplifkgeeicjaaGreatDoorQ27
set_option maxRecDepth 100000
set_option maxHeartbeats 4000000
namespace Go.Proofs.YtnplifkgeeicjaaGreatDoor
open Go.RowKit
def Rr (a b c d : Nat) : Value := .agg #[.int .u64 (a : Nat), .int .u64 (b : Nat), .int .u64 (c : Nat), .int .u64 (d : Nat)]
theorem G7 {fn : Func} {p : Tmp} {R : Ending → World → Prop} {a : Act} {w : World} {g : Nat} {x y z u : Value} (h : fn.results = #[.cell p 276]) (hp : a.tmps.getD p undef = .pointer (some ⟨g, 0, none⟩)) (hd : a.defers = [])
  (hc : Be w g [x, y, z, u] 276) (hR : R (.returned (.agg #[x, y, z, u])) w) : bodyPost Tryz.prog fn R .ret a w := by
 refine ⟨hd, .agg #[x, y, z, u], ?_, hR⟩
 exact results_cell_row (P := Tryz.prog) h _ w g 276 #[x, y, z, u] (0, 0) _ hp hc Tryz.underlying276 rfl (by kernel_rfl)
theorem W6 (x y : Nat) (hx : x < Bb) (hyx : y ≤ x) (w : World) :
  Calls Tryz.prog 235 #[.int .u64 (x : Nat), .int .u64 (y : Nat)] w fun e w' => ∃ a b c d p r : Nat, e = .returned (Rr a b c d) ∧ M.Few x y a b c d p r ∧ b < 1073741824 ∧ d < 1073741824 ∧ Below w.heap.size w w' := by
 unfold Rr
 unfold Bb at hx
 go_enter Tryz.func235, Tryz.ntmps235
 go_wp2
 obtain ⟨w0, hw0⟩ : ∃ w0, w0 = (w.alloc (.cells #[.int .u64 0, .int .u64 0, .int .u64 0, .int .u64 0] 276)).alloc (.cells #[.int .u64 1, .int .u64 0, .int .u64 0, .int .u64 1] 276) := ⟨_, rfl⟩
 have k0 : Be w0 w.heap.size [.int .u64 0, .int .u64 0, .int .u64 0, .int .u64 0] 276 := by rw [hw0]; exact (Be.new w _ _).alloc _
 have k1 : Be w0 (w.heap.size + 1) [.int .u64 ((1 : Nat) : Int), .int .u64 ((0 : Nat) : Int), .int .u64 ((0 : Nat) : Int), .int .u64 ((1 : Nat) : Int)] 276 := by
  rw [hw0]
  have := Be.new (w.alloc (.cells #[.int .u64 0, .int .u64 0, .int .u64 0, .int .u64 0] 276)) [.int .u64 1, .int .u64 0, .int .u64 0, .int .u64 1] 276
  simpa using this
 have b0 : Below w.heap.size w w0 := by rw [hw0]; go_grown
 rw [← hw0]
 clear hw0
 go_loopw [0, 1] (fun vx vy wr => ∃ a b c d p r : Nat, vx = .int .u64 p ∧ vy = .int .u64 r ∧ M.Few x y a b c d p r ∧ a < 1073741824 ∧ b < 1073741824 ∧ c < 1073741824 ∧ d < 1073741824 ∧ p ≤ x ∧ r ≤ p ∧
   Be wr w.heap.size [.int .u64 0, .int .u64 0, .int .u64 0, .int .u64 0] 276 ∧ Be wr (w.heap.size + 1) [.int .u64 (a : Nat), .int .u64 (b : Nat), .int .u64 (c : Nat), .int .u64 (d : Nat)] 276 ∧ Below w.heap.size w wr)
  (fun _ vy _ => (intOf vy).toNat)
 case atStart => exact ⟨1, 0, 0, 1, x, y, rfl, rfl, M.Few.zero x y, by omega, by omega, by omega, by omega, by omega, hyx, k0, k1, b0⟩
 case round =>
  clear k0 k1 b0
  obtain ⟨a, b, c, d, p, r, rfl, rfl, few, ha, hb, hc, hd, hp, hr, k0, k1, b0⟩ := hrel
  have e0 := k1.cell 0
  have e1 := k1.cell 1
  have e2 := k1.cell 2
  have e3 := k1.cell 3
  have z0 := k0.cell 0
  have z1 := k0.cell 1
  have z2 := k0.cell 2
  have z3 := k0.cell 3
  have f0 := k0.o 0
  have f1 := k0.o 1
  have f2 := k0.o 2
  have f3 := k0.o 3
  simp only [Jn, Jm] at e0 e1 e2 e3 z0 z1 z2 z3
  have FE := Ba few
  by_cases h0 : r = 0
  ·go_wp2
   exact G7 (p := 4) (by kernel_rfl) rfl rfl ((((k0.set 0 _).set 1 _).set 2 _).set 3 _) ⟨a, b, c, d, p, r, rfl, FE.out, hb, hd, (((b0.setCell (by simp) _).setCell (by simp) _).setCell (by simp) _).setCell (by simp) _⟩
  ·obtain ⟨q, hq⟩ : ∃ q, p / r = q := ⟨_, rfl⟩
   obtain ⟨t, ht⟩ : ∃ t, p % r = t := ⟨_, rfl⟩
   have iq : IntKind.u64.wrap (Int.tdiv (p : Int) (r : Int)) = (q : Nat) := by
    rw [Int.tdiv_eq_ediv_of_nonneg (by omega), ← Int.natCast_ediv, hq]
    exact Cs q (by have := Nat.div_le_self p r; omega)
   have it : Int.tmod (p : Int) (r : Int) = (t : Nat) := by
    rw [Int.tmod_eq_emod_of_nonneg (by omega), ← Int.natCast_emod, ht]
   have hdm : p = q * r + t := by rw [← hq, ← ht, Nat.mul_comm]; exact (Nat.div_add_mod p r).symm
   have htr : t < r := by rw [← ht]; exact Nat.mod_lt _ (by omega)
   have HD := Ba hdm
   have hr1 : ¬ (r : Int) = 0 := by omega
   have hr2 : ((r : Int) != 0) = true := by simpa using hr1
   clear hq ht hdm few
   have A := Ba ha
   have B := Ba hb
   have C := Ba hc
   have D := Ba hd
   have P := Ba hp
   have X := Ba hx
   have R := Ba hr
   have T := Ba htr
   have HYX := Ba hyx
   clear ha hb hc hd hp hx hr htr hyx h0
   obtain ⟨qc, hqc⟩ : ∃ z, q * c = z := ⟨_, rfl⟩
   obtain ⟨qd, hqd⟩ : ∃ z, q * d = z := ⟨_, rfl⟩
   have iqc : (q : Int) * (c : Int) = (qc : Nat) := by rw [← hqc, Int.natCast_mul]
   have iqd : (q : Int) * (d : Int) = (qd : Nat) := by rw [← hqd, Int.natCast_mul]
   have QC := Ba hqc
   have QD := Ba hqd
   clear hqc hqd
   have kk : Be wr (w.heap.size + 1) [.int .u64 (a : Nat), .int .u64 (b : Nat), .int .u64 (c : Nat), .int .u64 (d : Nat)] 276 := k1
   clear k1
   generalize hA : (a : Int) = aI at *
   generalize hB : (b : Int) = bI at *
   generalize hC : (c : Int) = cI at *
   generalize hD : (d : Int) = dI at *
   generalize hP : (p : Int) = pI at *
   generalize hR : (r : Int) = rI at *
   generalize hQ : (q : Int) = qI at *
   generalize hT : (t : Int) = tI at *
   generalize hQC : (qc : Int) = qcI at *
   generalize hQD : (qd : Int) = qdI at *
   have HA := Ba hA
   have HB := Ba hB
   have HC := Ba hC
   have HD' := Ba hD
   have HR := Ba hR
   have HQ := Ba hQ
   have HT := Ba hT
   have HQC := Ba hQC
   have HQD := Ba hQD
   clear hA hB hC hD hP hR hQ hT hQC hQD
   by_cases hq1 : (1073741824 : Int) ≤ qI
   ·go_wp2
    go_region
    go_wp2
    exact G7 (p := 4) (by kernel_rfl) rfl rfl ((((k0.drew.set 0 _).set 1 _).set 2 _).set 3 _) ⟨a, b, c, d, p, r, by rw [HA.out, HB.out, HC.out, HD'.out], FE.out, B.out, D.out, (((b0.drew.setCell (by simp) _).setCell (by simp) _).setCell (by simp) _).setCell (by simp) _⟩
   ·have M1 : qcI ≤ 1152921502459363329 := by
     have m : q * c ≤ 1073741823 * 1073741823 := Nat.mul_le_mul (by have := HQ.out; omega) (by have := C.out; omega)
     rw [QC.out] at m
     have := HQC.out
     omega
    have M2 : qdI ≤ 1152921502459363329 := by
     have m : q * d ≤ 1073741823 * 1073741823 := Nat.mul_le_mul (by have := HQ.out; omega) (by have := D.out; omega)
     rw [QD.out] at m
     have := HQD.out
     omega
    have M3 : 0 ≤ qcI := by have := HQC.out; omega
    have M4 : 0 ≤ qdI := by have := HQD.out; omega
    have A1 : aI < 1073741824 := by have := A.out; have := HA.out; omega
    have A2 : 0 ≤ aI := by have := HA.out; omega
    have B1 : bI < 1073741824 := by have := B.out; have := HB.out; omega
    have B2 : 0 ≤ bI := by have := HB.out; omega
    have D1 : dI < 1073741824 := by have := D.out; have := HD'.out; omega
    have D2 : 0 ≤ dI := by have := HD'.out; omega
    have T1 : tI < rI := by have := T.out; have := HT.out; have := HR.out; omega
    have T2 : 0 ≤ tI := by have := HT.out; omega
    have R1 : rI ≤ 18446744073709551615 := by have := R.out; have := P.out; have := X.out; have := HR.out; omega
    have g0 := kk.o 0
    have g1 := kk.o 1
    have g2 := kk.o 2
    have g3 := kk.o 3
    by_cases hd' : 1073741824 ≤ bI + qdI
    ·-- a factor too great
     go_wp2
     go_region
     go_wp2
     go_region
     go_wp2
     exact G7 (p := 4) (by kernel_rfl) rfl rfl ((((k0.set 0 _).set 1 _).set 2 _).set 3 _).drew.drew ⟨a, b, c, d, p, r, by rw [HA.out, HB.out, HC.out, HD'.out], FE.out, B.out, D.out, ((((b0.setCell (by simp) _).setCell (by simp) _).setCell (by simp) _).setCell (by simp) _).drew.drew⟩
    by_cases ht' : tI < 2 * (bI + qdI)
    ·-- the rest is not sure
     go_wp2
     go_region
     go_wp2
     go_region
     go_wp2
     exact G7 (p := 4) (by kernel_rfl) rfl rfl ((((k0.set 0 _).set 1 _).set 2 _).set 3 _).drew.drew ⟨a, b, c, d, p, r, by rw [HA.out, HB.out, HC.out, HD'.out], FE.out, B.out, D.out, ((((b0.setCell (by simp) _).setCell (by simp) _).setCell (by simp) _).setCell (by simp) _).drew.drew⟩
    by_cases hy' : rI - tI < 2 * (dI + (bI + qdI))
    ·-- the quotient is not sure
     go_wp2
     go_region
     go_wp2
     go_region
     go_wp2
     exact G7 (p := 4) (by kernel_rfl) rfl rfl ((((k0.set 0 _).set 1 _).set 2 _).set 3 _).drew.drew ⟨a, b, c, d, p, r, by rw [HA.out, HB.out, HC.out, HD'.out], FE.out, B.out, D.out, ((((b0.setCell (by simp) _).setCell (by simp) _).setCell (by simp) _).setCell (by simp) _).drew.drew⟩
    have FS : Hid (M.Few x y c d (a + q * c) (b + q * d) r t) := by
     have e1 := HB.out
     have e2 := HQD.out
     have e3 := HD'.out
     have e4 := HT.out
     have e5 := HR.out
     refine FE.out.step HYX.out HD.out T.out ?_ ?_
     ·rw [QD.out]; omega
     ·rw [QD.out]; omega
    have N1 : Hid (a + q * c < 1073741824) := by
     have e1 := HB.out
     have e2 := HQD.out
     show _ < _
     have le : a + q * c ≤ b + q * d ∨ (a + q * c = 1 ∧ b = 0) := by
      rcases FE.out with ⟨h1, h2, h3, h4, -⟩ | ⟨-, h2, h3, h4, -⟩
      ·right; rw [h1, h3]; exact ⟨by simp, h2⟩
      ·left
       have := Nat.mul_le_mul_left q h3
       omega
     rw [QD.out] at le
     omega
    have N2 : Hid (b + q * d < 1073741824) := by
     have e1 := HB.out
     have e2 := HQD.out
     show _ < _
     rw [QD.out]
     omega
    go_wp2
    go_region
    go_wp2
    go_region
    go_wp2
    have ec : [Value.int .u64 cI, Value.int .u64 dI, Value.int .u64 (aI + qcI), Value.int .u64 (bI + qdI)] = [Value.int .u64 (c : Nat), Value.int .u64 (d : Nat), Value.int .u64 ((a + q * c : Nat) : Int), Value.int .u64 ((b + q * d : Nat) : Int)] := by
     rw [QC.out, QD.out, Int.natCast_add, Int.natCast_add, HA.out, HB.out, HC.out, HD'.out, HQC.out, HQD.out]
    refine ⟨⟨c, d, a + q * c, b + q * d, r, t, by rw [HR.out], by rw [HT.out], FS.out, C.out, D.out, N1.out, N2.out, Jf R.out P.out, Nat.le_of_lt T.out,
     ((((k0.w (by omega) _ _).w (by omega) _ _).w (by omega) _ _).w (by omega) _ _).drew.drew, ?_, ((((b0.setCell (by simp) _).setCell (by simp) _).setCell (by simp) _).setCell (by simp) _).drew.drew⟩, by simp only [intOf]; omega⟩
    rw [← ec]
    exact ((((kk.set 0 _).set 1 _).set 2 _).set 3 _).drew.drew
theorem Rc (w : World) (m : Nat) : ∃ w0, w0 = (w.alloc (.cells #[Iz false, .string { data := #[] }] 24)).alloc (.cells #[.int .u64 (m : Nat)] 170) ∧
  Be w0 w.heap.size [Iz false, .string { data := #[] }] 24 ∧ Rd w0 (.slice (some ⟨w.heap.size + 1, 0, none⟩) 1 1) [m] ∧ Below w.heap.size w w0 := by
 refine ⟨_, rfl, (Be.new w _ 24).alloc _, rd1 _ (by simp) m, by go_grown⟩
theorem Vs (n : Int) (h1 : -9223372036854775808 ≤ n) (h2 : n < 9223372036854775808) (w : World) :
  Calls Tryz.prog 123 #[.int .i64 n] w (Re w (zI n)) := by
 obtain ⟨m, hm⟩ : ∃ m : Nat, m = n.natAbs := ⟨_, rfl⟩
 have hT : ∀ (neg : Bool) (v : Value) (wx : World), neg = decide (n < 0) → Rd wx v [m] → Calls Tryz.prog 170 #[.agg #[Iz neg, v]] wx (Re wx (zI n)) := fun neg v wx hn hr => by
  have := Nl neg v [m] wx hr (Ky (by simp; unfold Bb; omega)) (by simp)
  have e : C4 neg (M.val Bb [m]) = n := by
   rw [hn, M.val_cons, M.val_nil]
   unfold C4
   by_cases h : n < 0
   ·simp [h]; omega
   ·simp [h]; omega
  rwa [e] at this
 have HT := Ba hT
 clear hT
 generalize hR : zI n = R at *
 obtain ⟨za, zb, rfl⟩ : ∃ a b, R = .agg #[Iz a, I b] := ⟨_, _, hR.symm⟩
 clear hR
 by_cases hn : n < 0
 ·have g1 : IntKind.u64.wrap n = n + 18446744073709551616 := by simp only [IntKind.wrap_u64]; omega
  have g2 : IntKind.u64.wrap (-(n + 18446744073709551616)) = (m : Int) := by simp only [IntKind.wrap_u64]; omega
  go_enter Tryz.func123, Tryz.ntmps123
  go_wp2_with fail
  rw [← hm]
  obtain ⟨w0, hw0, k0, r0, hb0⟩ := Rc w m
  rw [← hw0]
  clear hw0
  refine (HT.out true _ w0 (by simp [hn]) r0).mono ?_
  rintro e w1 ⟨rfl, hb⟩
  have m2 := k0.b hb
  have bb := Ia hb0 hb
  obtain ⟨e0, e1⟩ := B7 m2
  have f0 := m2.o 0
  have f1 := m2.o 1
  go_wp2
  exact Dg (p := 2) (by kernel_rfl) rfl rfl ((m2.set 0 _).set 1 _) ⟨rfl, (bb.setCell (by simp) _).setCell (by simp) _⟩
 ·have g0 : n = (m : Int) := by omega
  clear hm
  subst g0
  have g1 : IntKind.u64.wrap (m : Int) = (m : Int) := by simp only [IntKind.wrap_u64]; omega
  go_enter Tryz.func123, Tryz.ntmps123
  go_wp2_with fail
  obtain ⟨w0, hw0, k0, r0, hb0⟩ := Rc w m
  rw [← hw0]
  clear hw0
  refine (HT.out false _ w0 (by simp) r0).mono ?_
  rintro e w1 ⟨rfl, hb⟩
  have m2 := k0.b hb
  have bb := Ia hb0 hb
  obtain ⟨e0, e1⟩ := B7 m2
  have f0 := m2.o 0
  have f1 := m2.o 1
  go_wp2
  exact Dg (p := 2) (by kernel_rfl) rfl rfl ((m2.set 0 _).set 1 _) ⟨rfl, (bb.setCell (by simp) _).setCell (by simp) _⟩
theorem Sp (a b c d : Nat) (w : World) :
  Calls Tryz.prog 205 #[Rr a b c d] w (Re w (Iz (decide (b = 0)))) := by
 unfold Rr
 have HB : Hid ((((b : Nat) : Int) == 0) = decide (b = 0)) := by show _ = _; rw [Bool.eq_iff_iff]; simp
 go_enter Tryz.func205, Tryz.ntmps205
 go_wp2
 go_ret
 exact ⟨by show Ending.returned (Iz ((b : Int) == 0)) = _; rw [HB.out], by go_grown⟩
theorem Gk {a b : Nat} (ha : a < 1073741824) (hb : b < 1073741824) : a * b ≤ 1152921502459363329 := Jf (Nat.mul_le_mul (show a ≤ 1073741823 by omega) (show b ≤ 1073741823 by omega)) (by decide)
theorem Zg (a b c d a' b' c' d' : Nat) (w : World) (ha : a < 1073741824) (hb : b < 1073741824) (hc : c < 1073741824) (hd : d < 1073741824) (ha' : a' < 1073741824) (hb' : b' < 1073741824) (hc' : c' < 1073741824) (hd' : d' < 1073741824) :
  Calls Tryz.prog 236 #[Rr a b c d, Rr a' b' c' d'] w (Re w (Rr (a * a' + b * c') (a * b' + b * d') (c * a' + d * c') (c * b' + d * d'))) := by
 unfold Rr
 have p1 := Gk ha ha'
 have p2 := Gk hb hc'
 have p3 := Gk ha hb'
 have p4 := Gk hb hd'
 have p5 := Gk hc ha'
 have p6 := Gk hd hc'
 have p7 := Gk hc hb'
 have p8 := Gk hd hd'
 simp only [Int.natCast_add, Int.natCast_mul]
 have q : ∀ x y : Nat, x * y ≤ 1152921502459363329 → (x : Int) * (y : Int) ≤ 1152921502459363329 ∧ 0 ≤ (x : Int) * (y : Int) := fun x y h => by rw [← Int.natCast_mul]; omega
 replace p1 := q _ _ p1
 replace p2 := q _ _ p2
 replace p3 := q _ _ p3
 replace p4 := q _ _ p4
 replace p5 := q _ _ p5
 replace p6 := q _ _ p6
 replace p7 := q _ _ p7
 replace p8 := q _ _ p8
 clear q ha hb hc hd ha' hb' hc' hd'
 generalize (a : Int) = A at *
 generalize (b : Int) = B at *
 generalize (c : Int) = C at *
 generalize (d : Int) = D at *
 generalize (a' : Int) = A' at *
 generalize (b' : Int) = B' at *
 generalize (c' : Int) = C' at *
 generalize (d' : Int) = D' at *
 generalize h1 : A * A' = m1 at *
 generalize h2 : B * C' = m2 at *
 generalize h3 : A * B' = m3 at *
 generalize h4 : B * D' = m4 at *
 generalize h5 : C * A' = m5 at *
 generalize h6 : D * C' = m6 at *
 generalize h7 : C * B' = m7 at *
 generalize h8 : D * D' = m8 at *
 obtain ⟨p1, r1⟩ := p1
 obtain ⟨p2, r2⟩ := p2
 obtain ⟨p3, r3⟩ := p3
 obtain ⟨p4, r4⟩ := p4
 obtain ⟨p5, r5⟩ := p5
 obtain ⟨p6, r6⟩ := p6
 obtain ⟨p7, r7⟩ := p7
 obtain ⟨p8, r8⟩ := p8
 go_enter Tryz.func236, Tryz.ntmps236
 go_wp2
 refine G7 (p := 4) (g := w.heap.size + 1 + 1) (by kernel_rfl) rfl rfl (x := .int .u64 (m1 + m2)) (y := .int .u64 (m3 + m4)) (z := .int .u64 (m5 + m6)) (u := .int .u64 (m7 + m8)) ?_ ⟨rfl, by go_grown⟩
 have := Be.new ((w.alloc (.cells #[.int .u64 A, .int .u64 B, .int .u64 C, .int .u64 D] 276)).alloc (.cells #[.int .u64 A', .int .u64 B', .int .u64 C', .int .u64 D'] 276)) [.int .u64 (m1 + m2), .int .u64 (m3 + m4), .int .u64 (m5 + m6), .int .u64 (m7 + m8)] 276
 simpa using this
theorem Pi (neg : Bool) (va : Value) (xs : List Nat) (w : World) (ha : Rd w va xs) (la : M.Low Bm xs) (hx : xs.length ≤ 100000) :
  Calls Tryz.prog 115 #[Iz neg, va] w (Re w (zI (C4 neg (M.val Bm xs)))) := by
 rw [Zn]
 have H := Ba (fun w0 h0 => Sa va xs w0 h0 la hx)
 have HE := Ba (Gf (M.val Bm xs))
 generalize Bf (M.val Bm xs) = s at *
 have ha0 := ha
 obtain ⟨a, ca, rfl, -, -⟩ := ha
 go_enter Tryz.func115, Tryz.ntmps115
 go_wp2_with fail
 obtain ⟨w0, hw0⟩ : ∃ w0, w0 = w.alloc (.cells #[Iz false, .string { data := #[] }] 24) := ⟨_, rfl⟩
 have k2 : Be w0 w.heap.size [Iz false, .string { data := #[] }] 24 := by rw [hw0]; exact Be.new w _ _
 have hb0 : Below w.heap.size w w0 := by rw [hw0]; exact (Jg _ _).alloc (Jb _) _
 rw [← hw0]
 clear hw0
 refine (H.out w0 (ha0.b hb0)).mono ?_
 rintro e w1 ⟨rfl, hb⟩
 have k2' := k2.b hb
 have bb := Ia hb0 hb
 obtain ⟨c1, c2⟩ := B7 k2'
 have f1 := k2'.o 0
 have f2 := k2'.o 1
 clear H HE
 cases neg
 ·go_wp2
  exact Dg (p := 4) (by kernel_rfl) rfl rfl ((k2'.set 0 _).set 1 _) ⟨rfl, (bb.setCell (by simp) _).setCell (by simp) _⟩
 ·go_wp2
  exact Dg (p := 4) (by kernel_rfl) rfl rfl ((k2'.set 0 _).set 1 _) ⟨rfl, (bb.setCell (by simp) _).setCell (by simp) _⟩
theorem Xq {m : Nat} (hm : m < Bb) (v : Value) (w : World) (h : Rd w v [m]) :
  Calls Tryz.prog 116 #[v] w fun e w' => ∃ v, e = .returned v ∧ Rd w' v (M.digs Bm m) ∧ Below w.heap.size w w' := by
 have := Xr v [m] w h (Ky (by simpa using hm)) (by simp)
 rwa [show M.val Bb [m] = m from by simp [M.val_cons, M.val_nil]] at this
theorem Ph (neg : Bool) (m : Nat) (hm : m < Bb) (v : Value) (w : World) (h : Rd w v (M.digs Bm m)) :
  Calls Tryz.prog 115 #[Iz neg, v] w (Re w (zI (C4 neg m))) := by
 have hl : (M.digs Bm m).length ≤ 2 := M.digs_len_of_lt Bj (by rw [show Bm ^ 2 = Bb from by rw [Nat.pow_two, Vp]]; exact hm)
 have := Pi neg v _ w h (M.Low.digs Bj _) (by omega)
 rwa [M.val_digs Bj] at this
theorem Lg (n : Int) (h1 : -9223372036854775808 ≤ n) (h2 : n < 9223372036854775808) (w : World) :
  Calls Tryz.prog 58 #[.int .i64 n] w (Re w (zI n)) := by
 obtain ⟨m, hm⟩ : ∃ m : Nat, m = n.natAbs := ⟨_, rfl⟩
 have hmB : m < Bb := by unfold Bb; omega
 have HS := Ba (fun v w h => Xq hmB v w h)
 by_cases hn : n < 0
 ·have HM := Ba (fun v w h => Ph true m hmB v w h)
  rw [show C4 true m = n from by simp [C4]; omega] at HM
  generalize hR : zI n = R at *
  obtain ⟨za, zb, rfl⟩ : ∃ a b, R = .agg #[Iz a, I b] := ⟨_, _, hR.symm⟩
  clear hR hmB
  have g1 : IntKind.i64.wrap (n + 1) = n + 1 := by simp only [IntKind.wrap_i64]; omega
  have g2 : IntKind.i64.wrap (-(n + 1)) = -(n + 1) := by simp only [IntKind.wrap_i64]; omega
  have g3 : IntKind.u64.wrap (-(n + 1)) = -(n + 1) := by simp only [IntKind.wrap_u64]; omega
  have g4 : IntKind.u64.wrap (-(n + 1) + 1) = (m : Int) := by simp only [IntKind.wrap_u64]; omega
  clear hm
  go_enter Tryz.func58, Tryz.ntmps58
  go_wp2_with fail
  obtain ⟨w0, hw0, k0, r0, hb0⟩ := Rc w m
  rw [← hw0]
  clear hw0
  refine (HS.out _ w0 r0).mono ?_
  rintro e w1 ⟨v, rfl, rv, hb1⟩
  obtain ⟨av, cv, rfl, -, -⟩ := id rv
  go_wp2_with fail
  refine (HM.out _ w1 rv).mono ?_
  rintro e w2 ⟨rfl, hb2⟩
  have bb2 := Ia hb1 hb2
  have m2 := k0.b bb2
  have bb := Ia hb0 bb2
  obtain ⟨e0, e1⟩ := B7 m2
  have f0 := m2.o 0
  have f1 := m2.o 1
  go_wp2
  exact Dg (p := 2) (by kernel_rfl) rfl rfl ((m2.set 0 _).set 1 _) ⟨rfl, (bb.setCell (by simp) _).setCell (by simp) _⟩
 ·have g0 : n = (m : Int) := by omega
  have HM := Ba (fun v w h => Ph false m hmB v w h)
  rw [show C4 false m = n from by simp [C4]; omega] at HM
  generalize hR : zI n = R at *
  obtain ⟨za, zb, rfl⟩ : ∃ a b, R = .agg #[Iz a, I b] := ⟨_, _, hR.symm⟩
  clear hR hmB hm
  subst g0
  have g1 : IntKind.u64.wrap (m : Int) = (m : Int) := by simp only [IntKind.wrap_u64]; omega
  go_enter Tryz.func58, Tryz.ntmps58
  go_wp2_with fail
  obtain ⟨w0, hw0, k0, r0, hb0⟩ := Rc w m
  rw [← hw0]
  clear hw0
  refine (HS.out _ w0 r0).mono ?_
  rintro e w1 ⟨v, rfl, rv, hb1⟩
  obtain ⟨av, cv, rfl, -, -⟩ := id rv
  go_wp2_with fail
  refine (HM.out _ w1 rv).mono ?_
  rintro e w2 ⟨rfl, hb2⟩
  have bb2 := Ia hb1 hb2
  have m2 := k0.b bb2
  have bb := Ia hb0 bb2
  obtain ⟨e0, e1⟩ := B7 m2
  have f0 := m2.o 0
  have f1 := m2.o 1
  go_wp2
  exact Dg (p := 2) (by kernel_rfl) rfl rfl ((m2.set 0 _).set 1 _) ⟨rfl, (bb.setCell (by simp) _).setCell (by simp) _⟩
theorem Nv (n : Bool) (s : ByteArray) (w : World) :
  Calls Tryz.prog 181 #[.agg #[Iz n, I s]] w (Re w (.int .i64 (Lp n s : Nat))) := by
 by_cases h1 : 32000 < s.size
 ·have HC : Hid (Lp n s = 5) := by show _ = _; unfold Lp; rw [if_pos h1]
  go_enter Tryz.func181, Tryz.ntmps181
  go_wp2
  go_ret
  exact ⟨by rw [HC.out]; rfl, by go_grown⟩
 ·by_cases hs : 0 < s.size
  ·have g4 := Dp hs
   have g5 : s.toList.isEmpty = false := by simpa using g4
   by_cases h0 : lm (B9 s) 0 = 0
   ·have HC : Hid (Lp n s = 1) := by show _ = _; unfold Lp; rw [if_neg h1, if_pos (Or.inr ⟨hs, h0⟩)]
    have HI := Ba (fun w => Sy s w hs h0)
    clear h0
    go_enter Tryz.func181, Tryz.ntmps181
    go_wp2_with fail
    refine (HI.out _).mono ?_
    rintro e w1 ⟨rfl, hw⟩
    subst hw
    go_wp2
    go_ret
    exact ⟨by rw [HC.out]; rfl, by go_grown⟩
   ·have HC : Hid (Lp n s = 0) := by
     show _ = _
     unfold Lp
     rw [if_neg h1, if_neg (by rintro (⟨a, _⟩ | ⟨_, b⟩); · omega
                               ·exact h0 b)]
    have HI := Ba (fun w => Kf s w (fun _ => h0))
    clear h0
    cases n <;>
    ·go_enter Tryz.func181, Tryz.ntmps181
     go_wp2_with fail
     refine (HI.out _).mono ?_
     rintro e w1 ⟨rfl, hw⟩
     subst hw
     go_wp2
     go_ret
     exact ⟨by rw [HC.out]; rfl, by go_grown⟩
  ·have g3 : s = ByteArray.empty := ByteArray.size_eq_zero_iff.1 (by omega)
   subst g3
   have HI := Ba (fun w => Kf ByteArray.empty w (fun h => absurd h hs))
   cases n with
   | true =>
    have HC : Hid (Lp true ByteArray.empty = 1) := by show _ = _; rfl
    go_enter Tryz.func181, Tryz.ntmps181
    go_wp2_with fail
    refine (HI.out _).mono ?_
    rintro e w1 ⟨rfl, hw⟩
    subst hw
    go_wp2
    go_ret
    exact ⟨by rw [HC.out]; rfl, by go_grown⟩
   | false =>
    have HC : Hid (Lp false ByteArray.empty = 0) := by show _ = _; rfl
    go_enter Tryz.func181, Tryz.ntmps181
    go_wp2_with fail
    refine (HI.out _).mono ?_
    rintro e w1 ⟨rfl, hw⟩
    subst hw
    go_wp2
    go_ret
    exact ⟨by rw [HC.out]; rfl, by go_grown⟩
theorem rb2 (w : World) (x0 x1 y0 y1 : Value) : ∃ w0, w0 = (w.alloc (.cells #[x0, x1] 24)).alloc (.cells #[y0, y1] 24) ∧
  Be w0 w.heap.size [x0, x1] 24 ∧ Be w0 (w.heap.size + 1) [y0, y1] 24 ∧ Below w.heap.size w w0 := by
 refine ⟨_, rfl, (Be.new w [x0, x1] _).alloc _, ?_, by go_grown⟩
 have := Be.new (w.alloc (.cells #[x0, x1] 24)) [y0, y1] 24
 simpa using this
theorem rb3 (w : World) (x0 x1 y0 y1 : Value) : ∃ w0, w0 = ((w.alloc (.cells #[x0, x1] 24)).alloc (.cells #[y0, y1] 24)).alloc (.cells #[Iz false, .string { data := #[] }] 24) ∧
  Be w0 w.heap.size [x0, x1] 24 ∧ Be w0 (w.heap.size + 1) [y0, y1] 24 ∧ Be w0 (w.heap.size + 1 + 1) [Iz false, .string { data := #[] }] 24 ∧ Below w.heap.size w w0 := by
 refine ⟨_, rfl, ((Be.new w [x0, x1] _).alloc _).alloc _, ?_, ?_, by go_grown⟩
 ·have := (Be.new (w.alloc (.cells #[x0, x1] 24)) [y0, y1] 24).alloc (.cells #[Iz false, .string { data := #[] }] 24)
  simpa using this
 ·have := Be.new ((w.alloc (.cells #[x0, x1] 24)).alloc (.cells #[y0, y1] 24)) [Iz false, .string { data := #[] }] 24
  simpa using this
theorem Be8 (k : Nat) : Bm ^ k = 256 ^ (4 * k) := by rw [Nat.pow_mul]; rfl
theorem Cj {s : ByteArray} (k : Nat) (h : s.size ≤ 4 * k) : Bc s < Bm ^ k := Jl (Ew s) (by rw [Be8]; exact Nat.pow_le_pow_right (by omega) h)
theorem O4 {V K : Nat} (h : V < Bm ^ K) : (M.digs Bm V).length ≤ K := M.digs_len_of_lt Bj h
theorem Ba2 {X Y K : Nat} (hK : K ≤ 50000) (hx : X < Bm ^ K) (hy : Y < Bm ^ K) (v0 v1 : Value) (w : World) (r0 : Rd w v0 (M.digs Bm X)) (r1 : Rd w v1 (M.digs Bm Y)) :
  Calls Tryz.prog 141 #[v0, v1] w fun e w' => ∃ v, e = .returned v ∧ Rd w' v (M.digs Bm (X + Y)) ∧ Below w.heap.size w w' := by
 have := Ba3 v0 v1 _ _ w r0 r1 (M.Low.digs Bj _) (M.Low.digs Bj _) (Jf (O4 hx) (by omega)) (Jf (O4 hy) (by omega))
 rwa [M.val_digs Bj, M.val_digs Bj] at this
theorem Kg {b X Y : Nat} (hb : 2 ≤ b) (h : Y ≤ X) : (M.digs b Y).length ≤ (M.digs b X).length := by
 refine M.digs_len_of_lt hb (Nat.lt_of_le_of_lt h ?_)
 have := M.val_lt (by omega) (M.Low.digs hb X)
 rwa [M.val_digs hb] at this
theorem Gs {X Y K : Nat} (hK : K ≤ 50000) (hx : X < Bm ^ K) (hle : Y ≤ X) (v0 v1 : Value) (w : World) (r0 : Rd w v0 (M.digs Bm X)) (r1 : Rd w v1 (M.digs Bm Y)) :
  Calls Tryz.prog 143 #[v0, v1] w fun e w' => ∃ v, e = .returned v ∧ Rd w' v (M.digs Bm (X - Y)) ∧ Below w.heap.size w w' := by
 have := Bak v0 v1 _ _ w r0 r1 (M.Low.digs Bj _) (M.Low.digs Bj _) (Jf (O4 hx) (by omega)) (Kg Bj hle) (by rw [M.val_digs Bj, M.val_digs Bj]; exact hle)
 rwa [M.val_digs Bj, M.val_digs Bj] at this
theorem Nt {X Y K : Nat} (hK : K ≤ 50000) (hx : X < Bm ^ K) (v0 v1 : Value) (w : World) (r0 : Rd w v0 (M.digs Bm X)) (r1 : Rd w v1 (M.digs Bm Y)) :
  Calls Tryz.prog 142 #[v0, v1] w (Re w (.int .i64 (Dj X Y))) := by
 have := Sf Bm Bv v0 v1 _ _ w r0 r1 (M.Low.digs Bj _) (M.Low.digs Bj _) (M.trim_digs Bj _) (M.trim_digs Bj _) (Jf (O4 hx) (by omega))
 rwa [M.val_digs Bj, M.val_digs Bj] at this
theorem Bao {X Y K : Nat} (hK : K ≤ 50000) (hx : X < Bm ^ K) (hy : Y < Bm ^ K) (v0 v1 : Value) (w : World) (r0 : Rd w v0 (M.digs Bm X)) (r1 : Rd w v1 (M.digs Bm Y)) :
  Calls Tryz.prog 135 #[v0, v1] w fun e w' => ∃ v, e = .returned v ∧ Rd w' v (M.digs Bm (X * Y)) ∧ Below w.heap.size w w' := by
 have := Bap v0 v1 _ _ w r0 r1 (M.Low.digs Bj _) (M.Low.digs Bj _) (Jf (O4 hx) (by omega)) (Jf (O4 hy) (by omega))
 rwa [M.val_digs Bj, M.val_digs Bj] at this
theorem Bay {X Y K : Nat} (hK : K ≤ 50000) (hx : X < Bm ^ K) (hy : Y < Bm ^ K) (h0 : 0 < Y) (v0 v1 : Value) (w : World) (r0 : Rd w v0 (M.digs Bm X)) (r1 : Rd w v1 (M.digs Bm Y)) :
  Calls Tryz.prog 112 #[v0, v1] w fun e w' => ∃ q r, e = .returned (.tuple #[q, r]) ∧ Rd w' q (M.digs Bm (X / Y)) ∧ Rd w' r (M.digs Bm (X % Y)) ∧ Below w.heap.size w w' := by
 have := Baz v0 v1 _ _ w r0 r1 (M.Low.digs Bj _) (M.Low.digs Bj _) (M.trim_digs Bj _) (digs_pos Bj (by omega)) (Jf (O4 hx) (by omega)) (Jf (O4 hy) (by omega))
 rwa [M.val_digs Bj, M.val_digs Bj] at this
theorem Gt (neg : Bool) {V K : Nat} (hK : K ≤ 100000) (hV : V < Bm ^ K) (v : Value) (w : World) (h : Rd w v (M.digs Bm V)) :
  Calls Tryz.prog 115 #[Iz neg, v] w (Re w (zI (C4 neg V))) := by
 have := Pi neg v _ w h (M.Low.digs Bj _) (Jf (O4 hV) hK)
 rwa [M.val_digs Bj] at this
theorem Wa (a b : Bool) (X Y : Nat) : C4 (a != b) (X * Y) = C4 a X * C4 b Y := by
 cases a <;> cases b <;> simp [C4, Int.natCast_mul, Int.neg_mul, Int.mul_neg]
theorem Qy {x y j k : Nat} (hx : x < Bb ^ j) (hy : y < Bb ^ k) : (M.digs Bb (x * y)).length ≤ j + k := by
 refine M.digs_len_of_lt Bg ?_
 rw [Nat.pow_add]
 exact Nat.mul_lt_mul'' hx hy
theorem Cg {s : ByteArray} (k : Nat) (h : s.size ≤ 8 * k) : Bc s < Bb ^ k := Jl (Ew s) (by rw [Kk]; exact Nat.pow_le_pow_right (by omega) h)
theorem Bbr {s0 s1 : ByteArray} (j k : Nat) (h0 : s0.size ≤ 8 * j) (h1 : s1.size ≤ 8 * k) : (M.digs Bb (Bc s0 * Bc s1)).length ≤ j + k := Qy (Cg j h0) (Cg k h1)
theorem Vt (n0 n1 : Bool) (s0 s1 : ByteArray) (w : World) (o0 : Kj n0 s0) (o1 : Kj n1 s1) (z0 : s0.size ≤ 16000) (z1 : s1.size ≤ 16000) :
  Calls Tryz.prog 126 #[.agg #[Iz n0, I s0], .agg #[Iz n1, I s1]] w (Re w (.tuple #[zI (Cq n0 s0 * Cq n1 s1), .int .i64 0])) := by
 have hM : ∀ (v0 v1 : Value) (wx : World), Rd wx v0 (M.digs Bb (Bc s0)) → Rd wx v1 (M.digs Bb (Bc s1)) → Calls Tryz.prog 132 #[v0, v1] wx fun e w' => ∃ v, e = .returned (.tuple #[v, .int .i64 0]) ∧ Rd w' v (M.digs Bb (Bc s0 * Bc s1)) ∧ Below wx.heap.size wx w' := fun v0 v1 wx r0 r1 => by
  have := Wv v0 v1 _ _ wx r0 r1 (M.Low.digs Bg _) (M.Low.digs Bg _) (Jf (Hz 2000 (by omega)) (by omega)) (Jf (Hz 2000 (by omega)) (by omega))
  rwa [M.val_digs Bg, M.val_digs Bg] at this
 have hT : ∀ (v : Value) (wx : World), Rd wx v (M.digs Bb (Bc s0 * Bc s1)) → Calls Tryz.prog 170 #[.agg #[Iz (n0 != n1), v]] wx (Re wx (zI (Cq n0 s0 * Cq n1 s1))) := fun v wx hr => by
  have := Nl (n0 != n1) v _ wx hr (M.Low.digs Bg _) (by have := Bbr 2000 2000 (s0 := s0) (s1 := s1) (by omega) (by omega); omega)
  rwa [M.val_digs Bg, Wa, D5, D5] at this
 have HM := Ba hM
 have HT := Ba hT
 clear hM hT
 generalize hR : zI (Cq n0 s0 * Cq n1 s1) = R at *
 obtain ⟨za, zb, rfl⟩ : ∃ a b, R = .agg #[Iz a, I b] := ⟨_, _, hR.symm⟩
 clear hR
 go_enter Tryz.func126, Tryz.ntmps126
 go_wp2_with fail
 obtain ⟨w0, hw0, k0, k1, k2, k3, hb0⟩ := Bco w (Iz n0) (I s0) (Iz n1) (I s1)
 rw [← hw0]
 clear hw0
 refine (Ns _ n0 n1 s0 s1 w0 k3 o0 o1 (by omega) (by omega)).mono ?_
 rintro e w1 ⟨g, v0, v1, rfl, kg, r0, r1, hg, hb⟩
 have c0 := kg.cell 0
 have c1 := kg.cell 1
 have c2 := kg.cell 2
 have c3 := kg.cell 3
 simp only [Jn, Jm] at c0 c1 c2 c3
 have m0 := k0.b hb
 have m1 := k1.b hb
 have m2 := k2.b hb
 have bb := Ia hb0 hb
 have H31 := Ba (HM.out v0 v1 w1.drew (show Rd w1 _ _ from r0.rd) (show Rd w1 _ _ from r1.rd))
 clear HM k0 k1 k2 k3 kg
 obtain ⟨a0, p0, rfl, -, -⟩ := id r0
 obtain ⟨a1, p1, rfl, -, -⟩ := id r1
 go_wp2
 go_region_held3 (fun w' => w'.cell? ⟨g, 1, none⟩ = some (.slice a0 (M.digs Bb (Bc s0)).length p0) ∧ w'.cell? ⟨g, 3, none⟩ = some (.slice a1 (M.digs Bb (Bc s1)).length p1)) (first | exact ⟨c1, c3⟩ | exact ⟨Bh c1 b31, Bh c3 b31⟩) (first | (go_at_call 132; refine (H31.out).mono ?_; rintro e w2 ⟨v, rfl, rv, b31'⟩; have b31 : Below w1.heap.size w1 w2 := ⟨b31'.os, b31'.tape, b31'.output, b31'.size, b31'.block⟩; obtain ⟨av, cv, rfl, -, -⟩ := id rv))
 have q0 := m0.b b31
 have q1 := m1.b b31
 have q2 := m2.b b31
 have bb2 := Ia bb b31
 have d0 := Dy q0
 have d1 := Dy q1
 clear m0 m1 m2 c0 c1 c2 c3 r0 r1 H31
 go_wp2_with fail
 refine (HT.out _ _ rv).mono ?_
 rintro e w4 ⟨rfl, hb4⟩
 have p2 := q2.b hb4
 have bb4 := Ia bb2 hb4
 obtain ⟨e0, e1⟩ := B7 p2
 have f0 := p2.o 0
 have f1 := p2.o 1
 go_wp2
 exact Wl (p := 4) (u := 5) (by kernel_rfl) rfl rfl rfl ((p2.set 0 _).set 1 _) ⟨rfl, (bb4.setCell (by simp; omega) _).setCell (by simp; omega) _⟩
theorem Bcn (w : World) (x0 x1 y0 y1 : Value) : ∃ w0, w0 = ((((w.alloc (.cells #[x0, x1] 24)).alloc (.cells #[y0, y1] 24)).alloc (.cells #[Iz false, .string { data := #[] }] 24)).alloc (.cells #[Iz false, .string { data := #[] }] 24)).alloc (.cells #[x0, x1, y0, y1] 24) ∧
  Be w0 w.heap.size [x0, x1] 24 ∧ Be w0 (w.heap.size + 1) [y0, y1] 24 ∧ Be w0 (w.heap.size + 1 + 1) [Iz false, .string { data := #[] }] 24 ∧ Be w0 (w.heap.size + 1 + 1 + 1) [Iz false, .string { data := #[] }] 24 ∧ Be w0 (w.heap.size + 1 + 1 + 1 + 1) [x0, x1, y0, y1] 24 ∧ Below w.heap.size w w0 := by
 refine ⟨_, rfl, ((((Be.new w [x0, x1] 24).alloc _).alloc _).alloc _).alloc _, ?_, ?_, ?_, ?_, by go_grown⟩
 ·have := (((Be.new (w.alloc (.cells #[x0, x1] 24)) [y0, y1] 24).alloc (.cells #[Iz false, .string { data := #[] }] 24)).alloc (.cells #[Iz false, .string { data := #[] }] 24)).alloc (.cells #[x0, x1, y0, y1] 24)
  simpa using this
 ·have := ((Be.new ((w.alloc (.cells #[x0, x1] 24)).alloc (.cells #[y0, y1] 24)) [Iz false, .string { data := #[] }] 24).alloc (.cells #[Iz false, .string { data := #[] }] 24)).alloc (.cells #[x0, x1, y0, y1] 24)
  simpa using this
 ·have := (Be.new (((w.alloc (.cells #[x0, x1] 24)).alloc (.cells #[y0, y1] 24)).alloc (.cells #[Iz false, .string { data := #[] }] 24)) [Iz false, .string { data := #[] }] 24).alloc (.cells #[x0, x1, y0, y1] 24)
  simpa using this
 ·have := Be.new ((((w.alloc (.cells #[x0, x1] 24)).alloc (.cells #[y0, y1] 24)).alloc (.cells #[Iz false, .string { data := #[] }] 24)).alloc (.cells #[Iz false, .string { data := #[] }] 24)) [x0, x1, y0, y1] 24
  simpa using this
theorem Qw (X Y : Nat) (hY : 0 < Y) : (-(X : Int)) / (Y : Int) = (if X % Y = 0 then -((X / Y : Nat) : Int) else -((X / Y + 1 : Nat) : Int)) ∧ (-(X : Int)) % (Y : Int) = (if X % Y = 0 then 0 else ((Y - X % Y : Nat) : Int)) := by
 have hd := Nat.div_add_mod X Y
 have hl := Nat.mod_lt X hY
 refine (Int.ediv_emod_unique (by omega)).2 ?_
 generalize X / Y = q at *
 generalize X % Y = r at *
 have e : (X : Int) = (Y : Int) * (q : Int) + (r : Int) := by rw [← hd]; simp
 by_cases h : r = 0
 ·subst h
  simp only [if_true]
  refine ⟨?_, by omega, by omega⟩
  rw [e, Int.mul_neg]; simp
 ·rw [if_neg h, if_neg h]
  refine ⟨?_, by omega, by omega⟩
  rw [e, Int.natCast_add, Int.mul_neg, Int.mul_add]
  have : ((Y - r : Nat) : Int) = (Y : Int) - (r : Int) := by omega
  rw [this]
  simp
  omega
theorem Ru (a b : Bool) (X Y : Nat) (hY : 0 < Y) : C4 a X / C4 b Y = C4 (a != b) (if a = true ∧ X % Y ≠ 0 then X / Y + 1 else X / Y) ∧ C4 a X % C4 b Y = C4 false (if a = true ∧ X % Y ≠ 0 then Y - X % Y else X % Y) := by
 have h := Qw X Y hY
 cases a <;> cases b
 ·simp [C4]
 ·simp [C4, Int.ediv_neg]
 ·rw [show C4 true X = -(X : Int) from rfl, show C4 false Y = (Y : Int) from rfl, h.1, h.2]
  by_cases h0 : X % Y = 0
  ·simp [C4, h0]
  ·simp [C4, h0]
 ·rw [show C4 true X = -(X : Int) from rfl, show C4 true Y = -(Y : Int) from rfl, Int.ediv_neg, Int.emod_neg, h.1, h.2]
  by_cases h0 : X % Y = 0
  ·simp [C4, h0]
  ·simp [C4, h0]
theorem Tg (n0 n1 : Bool) (s0 s1 : ByteArray) (w : World) (o0 : Kj n0 s0) (o1 : Kj n1 s1) (z0 : s0.size ≤ 16000) (z1 : s1.size ≤ 16000) (hY : 0 < Bc s1) (hp : n0 = false ∨ (M.digs Bb (Bc s0 % Bc s1)).length = 0) :
  Calls Tryz.prog 125 #[.agg #[Iz n0, I s0], .agg #[Iz n1, I s1]] w (Re w (.tuple #[zI (C4 (n0 != n1) (Bc s0 / Bc s1)), zI (C4 false (Bc s0 % Bc s1)), .int .i64 0])) := by
 have HM := Ba (fun v0 v1 wx r0 r1 => Of (X := Bc s0) (Y := Bc s1) (K := 2000) hY (by omega) (Cg 2000 (by omega)) (Cg 2000 (by omega)) v0 v1 wx r0 r1)
 have HQ := Ba (fun v wx hr => Ho (n0 != n1) (K := 2000) (V := Bc s0 / Bc s1) (by omega) (Nat.lt_of_le_of_lt (Nat.div_le_self _ _) (Cg 2000 (by omega))) v wx hr)
 have HR := Ba (fun v wx hr => Ho false (K := 2000) (V := Bc s0 % Bc s1) (by omega) (Nat.lt_of_le_of_lt (Nat.mod_le _ _) (Cg 2000 (by omega))) v wx hr)
 have HP := Ba hp
 clear hp hY
 generalize hR1 : zI (C4 (n0 != n1) (Bc s0 / Bc s1)) = R1 at *
 generalize hR2 : zI (C4 false (Bc s0 % Bc s1)) = R2 at *
 obtain ⟨za, zb, rfl⟩ : ∃ a b, R1 = .agg #[Iz a, I b] := ⟨_, _, hR1.symm⟩
 obtain ⟨zc, zd, rfl⟩ : ∃ a b, R2 = .agg #[Iz a, I b] := ⟨_, _, hR2.symm⟩
 clear hR1 hR2
 go_enter Tryz.func125, Tryz.ntmps125
 go_wp2_with fail
 obtain ⟨w0, hw0, k0, k1, k2, k4, k3, hb0⟩ := Bcn w (Iz n0) (I s0) (Iz n1) (I s1)
 rw [← hw0]
 clear hw0
 refine (Ns _ n0 n1 s0 s1 w0 k3 o0 o1 (by omega) (by omega)).mono ?_
 rintro e w1 ⟨g, v0, v1, rfl, kg, r0, r1, hg, hb⟩
 have c0 := kg.cell 0
 have c1 := kg.cell 1
 have c2 := kg.cell 2
 have c3 := kg.cell 3
 simp only [Jn, Jm] at c0 c1 c2 c3
 have m0 := k0.b hb
 have m1 := k1.b hb
 have m2 := k2.b hb
 have m4 := k4.b hb
 have bb := Ia hb0 hb
 have H31 := Ba (HM.out v0 v1 w1.drew (show Rd w1 _ _ from r0.rd) (show Rd w1 _ _ from r1.rd))
 clear HM k0 k1 k2 k3 k4 kg
 obtain ⟨a0, p0, rfl, -, -⟩ := id r0
 obtain ⟨a1, p1, rfl, -, -⟩ := id r1
 go_wp2
 go_region_held3 (fun w' => w'.cell? ⟨g, 1, none⟩ = some (.slice a0 (M.digs Bb (Bc s0)).length p0) ∧ w'.cell? ⟨g, 3, none⟩ = some (.slice a1 (M.digs Bb (Bc s1)).length p1)) (first | exact ⟨c1, c3⟩ | exact ⟨Bh c1 b31, Bh c3 b31⟩) (first | (go_at_call 173; refine (H31.out).mono ?_; rintro e w2 ⟨vq, vr, rfl, rq, rr, b31'⟩; have b31 : Below w1.heap.size w1 w2 := ⟨b31'.os, b31'.tape, b31'.output, b31'.size, b31'.block⟩; obtain ⟨aq, cq, rfl, -, -⟩ := id rq; obtain ⟨ar, cr, rfl, -, -⟩ := id rr))
 have q0 := m0.b b31
 have q1 := m1.b b31
 have q2 := m2.b b31
 have q4 := m4.b b31
 have bb2 := Ia bb b31
 have d0 := Dy q0
 have d1 := Dy q1
 clear m0 m1 m2 m4 c0 c1 c2 c3 r0 r1 H31
 have hQ := HQ.out _ _ rq
 rcases HP.out with rfl | hp
 ·rw [Bool.false_bne] at hQ
  clear HQ HP
  go_wp2_with fail
  refine hQ.mono ?_
  rintro e w4 ⟨rfl, hb4⟩
  go_wp2_with fail
  refine (HR.out _ _ (rr.b hb4)).mono ?_
  rintro e w5 ⟨rfl, hb5⟩
  have bb5 := Ia hb4 hb5
  have p2 := q2.b bb5
  have p4 := q4.b bb5
  have bbb := Ia bb2 bb5
  obtain ⟨e0, e1⟩ := B7 p2
  have f0 := p2.o 0
  have f1 := p2.o 1
  obtain ⟨e2, e3⟩ := B7 p4
  have f2 := p4.o 0
  have f3 := p4.o 1
  go_wp2
  exact Nw (p := 4) (q := 5) (u := 6) (by kernel_rfl) rfl rfl rfl rfl ((((p2.set 0 _).set 1 _).w (by omega) _ _).w (by omega) _ _) ((((p4.w (by omega) _ _).w (by omega) _ _).set 0 _).set 1 _) ⟨rfl, (((bbb.setCell (by simp; omega) _).setCell (by simp; omega) _).setCell (by simp; omega) _).setCell (by simp; omega) _⟩
 ·rw [hp] at rr
  clear HP HQ
  cases n0 <;>
  ·first | rw [Bool.false_bne] at hQ | rw [Bool.true_bne] at hQ
   go_wp2_with fail
   refine hQ.mono ?_
   rintro e w4 ⟨rfl, hb4⟩
   go_wp2_with fail
   refine (HR.out _ _ (rr.b hb4)).mono ?_
   rintro e w5 ⟨rfl, hb5⟩
   have bb5 := Ia hb4 hb5
   have p2 := q2.b bb5
   have p4 := q4.b bb5
   have bbb := Ia bb2 bb5
   obtain ⟨e0, e1⟩ := B7 p2
   have f0 := p2.o 0
   have f1 := p2.o 1
   obtain ⟨e2, e3⟩ := B7 p4
   have f2 := p4.o 0
   have f3 := p4.o 1
   go_wp2
   exact Nw (p := 4) (q := 5) (u := 6) (by kernel_rfl) rfl rfl rfl rfl ((((p2.set 0 _).set 1 _).w (by omega) _ _).w (by omega) _ _) ((((p4.w (by omega) _ _).w (by omega) _ _).set 0 _).set 1 _) ⟨rfl, (((bbb.setCell (by simp; omega) _).setCell (by simp; omega) _).setCell (by simp; omega) _).setCell (by simp; omega) _⟩
theorem Be4 {V K : Nat} (hK : K ≤ 4000) (hV : V < Bb ^ K) (v0 v1 : Value) (wx : World) (r0 : Rd wx v0 (M.digs Bb V)) (r1 : Rd wx v1 [1]) :
  Calls Tryz.prog 127 #[v0, v1] wx fun e w' => ∃ v, e = .returned (.tuple #[v, .int .i64 0]) ∧ Rd w' v (M.digs Bb (V + 1)) ∧ Below wx.heap.size wx w' := by
 have := Xg v0 v1 _ _ wx r0 r1 (M.Low.digs Bg _) (Ky (by simp; unfold Bb; omega)) (Nat.le_trans (M.digs_len_of_lt Bg hV) hK) (by simp)
 rwa [M.val_digs Bg, show M.val Bb [1] = 1 from by rw [M.val_cons, M.val_nil]; omega] at this
theorem Bc6 {X Y K : Nat} (hK : K ≤ 4000) (hx : X < Bb ^ K) (hy : Y < Bb ^ K) (hle : Y ≤ X) (v0 v1 : Value) (wx : World) (r0 : Rd wx v0 (M.digs Bb X)) (r1 : Rd wx v1 (M.digs Bb Y)) :
  Calls Tryz.prog 128 #[v0, v1] wx fun e w' => ∃ v, e = .returned (.tuple #[v, .int .i64 0]) ∧ Rd w' v (M.digs Bb (X - Y)) ∧ Below wx.heap.size wx w' := by
 have := Mz v0 v1 _ _ wx r0 r1 (M.Low.digs Bg _) (M.Low.digs Bg _) (Jf (M.digs_len_of_lt Bg hx) hK) (Jf (M.digs_len_of_lt Bg hy) hK)
 rw [M.val_digs Bg, M.val_digs Bg] at this
 refine this.mono ?_
 rintro e w' ⟨h, -, hb⟩
 obtain ⟨v, rfl, hr⟩ := h hle
 exact ⟨v, rfl, hr, hb⟩
theorem Xj (n1 : Bool) (s0 s1 : ByteArray) (w : World) (o0 : Kj true s0) (o1 : Kj n1 s1) (z0 : s0.size ≤ 16000) (z1 : s1.size ≤ 16000) (hY : 0 < Bc s1) (hp : 0 < (M.digs Bb (Bc s0 % Bc s1)).length) :
  Calls Tryz.prog 125 #[.agg #[Iz true, I s0], .agg #[Iz n1, I s1]] w (Re w (.tuple #[zI (C4 (!n1) (Bc s0 / Bc s1 + 1)), zI (C4 false (Bc s1 - Bc s0 % Bc s1)), .int .i64 0])) := by
 have HM := Ba (fun v0 v1 wx r0 r1 => Of (X := Bc s0) (Y := Bc s1) (K := 2000) hY (by omega) (Cg 2000 (by omega)) (Cg 2000 (by omega)) v0 v1 wx r0 r1)
 have HA := Ba (fun v0 v1 wx r0 r1 => Be4 (V := Bc s0 / Bc s1) (K := 2000) (by omega) (Nat.lt_of_le_of_lt (Nat.div_le_self _ _) (Cg 2000 (by omega))) v0 v1 wx r0 r1)
 have HS := Ba (fun v0 v1 wx r0 r1 => Bc6 (X := Bc s1) (Y := Bc s0 % Bc s1) (K := 2000) (by omega) (Cg 2000 (by omega)) (Nat.lt_of_le_of_lt (Nat.mod_le _ _) (Cg 2000 (by omega))) (Nat.le_of_lt (Nat.mod_lt _ hY)) v0 v1 wx r0 r1)
 have HQ := Ba (fun v wx hr => Ho (!n1) (K := 2000 + 1) (V := Bc s0 / Bc s1 + 1) (by omega) (Rq Bg (Nat.lt_of_le_of_lt (Nat.div_le_self _ _) (Cg 2000 (by omega)))) v wx hr)
 have HR := Ba (fun v wx hr => Ho false (K := 2000) (V := Bc s1 - Bc s0 % Bc s1) (by omega) (Nat.lt_of_le_of_lt (Nat.sub_le _ _) (Cg 2000 (by omega))) v wx hr)
 have HP := Ba hp
 clear hp hY
 generalize hR1 : zI (C4 (!n1) (Bc s0 / Bc s1 + 1)) = R1 at *
 generalize hR2 : zI (C4 false (Bc s1 - Bc s0 % Bc s1)) = R2 at *
 obtain ⟨za, zb, rfl⟩ : ∃ a b, R1 = .agg #[Iz a, I b] := ⟨_, _, hR1.symm⟩
 obtain ⟨zc, zd, rfl⟩ : ∃ a b, R2 = .agg #[Iz a, I b] := ⟨_, _, hR2.symm⟩
 clear hR1 hR2
 go_enter Tryz.func125, Tryz.ntmps125
 go_wp2_with fail
 obtain ⟨w0, hw0, k0, k1, k2, k4, k3, hb0⟩ := Bcn w (Iz true) (I s0) (Iz n1) (I s1)
 rw [← hw0]
 clear hw0
 refine (Ns _ true n1 s0 s1 w0 k3 o0 o1 (by omega) (by omega)).mono ?_
 rintro e w1 ⟨g, v0, v1, rfl, kg, r0, r1, hg, hb⟩
 have c0 := kg.cell 0
 have c1 := kg.cell 1
 have c2 := kg.cell 2
 have c3 := kg.cell 3
 simp only [Jn, Jm] at c0 c1 c2 c3
 have m0 := k0.b hb
 have m1 := k1.b hb
 have m2 := k2.b hb
 have m4 := k4.b hb
 have bb := Ia hb0 hb
 have H31 := Ba (HM.out v0 v1 w1.drew (show Rd w1 _ _ from r0.rd) (show Rd w1 _ _ from r1.rd))
 clear HM k0 k1 k2 k3 k4
 obtain ⟨a0, p0, rfl, -, -⟩ := id r0
 obtain ⟨a1, p1, rfl, -, -⟩ := id r1
 go_wp2
 go_region_held3 (fun w' => w'.cell? ⟨g, 1, none⟩ = some (.slice a0 (M.digs Bb (Bc s0)).length p0) ∧ w'.cell? ⟨g, 3, none⟩ = some (.slice a1 (M.digs Bb (Bc s1)).length p1)) (first | exact ⟨c1, c3⟩ | exact ⟨Bh c1 b31, Bh c3 b31⟩) (first | (go_at_call 173; refine (H31.out).mono ?_; rintro e w2 ⟨vq, vr, rfl, rq, rr, b31'⟩; have b31 : Below w1.heap.size w1 w2 := ⟨b31'.os, b31'.tape, b31'.output, b31'.size, b31'.block⟩; obtain ⟨aq, cq, rfl, -, -⟩ := id rq; obtain ⟨ar, cr, rfl, -, -⟩ := id rr))
 have q0 := m0.b b31
 have q1 := m1.b b31
 have q2 := m2.b b31
 have q4 := m4.b b31
 have qg := kg.b b31
 have qr1 := r1.rd.b b31
 have bb2 := Ia bb b31
 have d0 := Dy q0
 clear m0 m1 m2 m4 c0 c1 c2 c3 r0 r1 H31 kg
 have hp := HP.out
 go_wp2_with fail
 obtain ⟨w3, hw3⟩ : ∃ w3, w3 = w2.alloc (.cells #[.int .u64 1] 170) := ⟨_, rfl⟩
 have hb3 : Below w2.heap.size w2 w3 := by rw [hw3]; exact (Jg _ _).alloc (Jb _) _
 have ro : Rd w3 (.slice (some ⟨w2.heap.size, 0, none⟩) 1 1) [1] := by rw [hw3]; exact rd1 w2 rfl 1
 rw [← hw3]
 clear hw3
 refine (HA.out _ _ w3 (rq.b hb3) ro).mono ?_
 rintro e w4 ⟨vq', rfl, rq', hb4⟩
 obtain ⟨aq', cq', rfl, -, -⟩ := id rq'
 have bb4 := Ia hb3 hb4
 have g3 := (qg.b bb4).cell 3
 simp only [Jn, Jm] at g3
 go_wp2_with fail
 refine (HS.out _ _ w4 (qr1.b bb4) (rr.b bb4)).mono ?_
 rintro e w5 ⟨vr', rfl, rr', hb5⟩
 obtain ⟨ar', cr', rfl, -, -⟩ := id rr'
 have bb5 := Ia bb4 hb5
 have d0 := Dy (q0.b bb5)
 have d1 := Dy (q1.b bb5)
 have hQ := HQ.out _ _ (rq'.b hb5)
 go_wp2_with fail
 refine hQ.mono ?_
 rintro e w6 ⟨rfl, hb6⟩
 go_wp2_with fail
 refine (HR.out _ _ (rr'.b hb6)).mono ?_
 rintro e w7 ⟨rfl, hb7⟩
 have bb7 := Ia (Ia bb5 hb6) hb7
 have p2 := q2.b bb7
 have p4 := q4.b bb7
 have bbb := Ia bb2 bb7
 obtain ⟨e0, e1⟩ := B7 p2
 have f0 := p2.o 0
 have f1 := p2.o 1
 obtain ⟨e2, e3⟩ := B7 p4
 have f2 := p4.o 0
 have f3 := p4.o 1
 go_wp2
 exact Nw (p := 4) (q := 5) (u := 6) (by kernel_rfl) rfl rfl rfl rfl ((((p2.set 0 _).set 1 _).w (by omega) _ _).w (by omega) _ _) ((((p4.w (by omega) _ _).w (by omega) _ _).set 0 _).set 1 _) ⟨rfl, (((bbb.setCell (by simp; omega) _).setCell (by simp; omega) _).setCell (by simp; omega) _).setCell (by simp; omega) _⟩
theorem Pq (n0 n1 : Bool) (s0 s1 : ByteArray) (w : World) (o0 : Kj n0 s0) (o1 : Kj n1 s1) (z0 : s0.size ≤ 16000) (z1 : s1.size ≤ 16000) (hY : 0 < Bc s1) :
  Calls Tryz.prog 125 #[.agg #[Iz n0, I s0], .agg #[Iz n1, I s1]] w (Re w (.tuple #[zI (Cq n0 s0 / Cq n1 s1), zI (Cq n0 s0 % Cq n1 s1), .int .i64 0])) := by
 rw [← D5, ← D5, (Ru n0 n1 _ _ hY).1, (Ru n0 n1 _ _ hY).2]
 by_cases h : n0 = true ∧ Bc s0 % Bc s1 ≠ 0
 ·rw [if_pos h, if_pos h]
  obtain ⟨rfl, h⟩ := h
  rw [Bool.true_bne]
  exact Xj n1 s0 s1 w o0 o1 z0 z1 hY (digs_pos Bg h)
 ·rw [if_neg h, if_neg h]
  refine Tg n0 n1 s0 s1 w o0 o1 z0 z1 hY ?_
  cases n0 with
  | false => exact Or.inl rfl
  | true =>
   refine Or.inr (digs_zero ?_)
   exact Classical.not_not.1 fun h0 => h ⟨rfl, h0⟩
structure Bz (g g' : Nat) (w w' : World) : Prop where
 os : w'.os = w.os
 tape : w'.tape = w.tape
 output : w'.output = w.output
 size : w.heap.size ≤ w'.heap.size
 block : ∀ k, k < w.heap.size → k ≠ g → k ≠ g' → w'.heap[k]? = w.heap[k]?
theorem Bz.trans {g g' : Nat} {a b c : World} (h : Bz g g' a b) (k : Bz g g' b c) : Bz g g' a c :=
 ⟨k.os.trans h.os, k.tape.trans h.tape, k.output.trans h.output, Jf h.size k.size, fun i hl hi hj => (k.block i (Jl hl h.size) hi hj).trans (h.block i hl hi hj)⟩
theorem Bz.left {g g' : Nat} {a b : World} (h : Ca g a b) : Bz g g' a b := ⟨h.os, h.tape, h.output, by rw [h.size]; exact Jb _, fun i _ hi _ => h.block i hi⟩
theorem Bz.right {g g' : Nat} {a b : World} (h : Ca g' a b) : Bz g g' a b := ⟨h.os, h.tape, h.output, by rw [h.size]; exact Jb _, fun i _ _ hi => h.block i hi⟩
theorem Bz.of {g g' : Nat} {a b : World} (h : Below a.heap.size a b) : Bz g g' a b := ⟨h.os, h.tape, h.output, h.size, fun i hl _ _ => h.block i hl⟩
theorem Bz.set0 {g g' : Nat} {a w : World} (h : Bz g g' a w) (j : Nat) (u : Value) : Bz g g' a (w.setCell ⟨g, j, none⟩ u) := h.trans (Bz.left ((Ca.refl _ _).setCell _ _))
theorem Bz.set1 {g g' : Nat} {a w : World} (h : Bz g g' a w) (j : Nat) (u : Value) : Bz g g' a (w.setCell ⟨g', j, none⟩ u) := h.trans (Bz.right ((Ca.refl _ _).setCell _ _))
theorem Bz.b {g g' B : Nat} {a w w' : World} (h : Below B a w) (k : Bz g g' w w') (hB : B ≤ w.heap.size) (h0 : B ≤ g) (h1 : B ≤ g') : Below B a w' :=
 ⟨k.os.trans h.os, k.tape.trans h.tape, k.output.trans h.output, Jf h.size k.size, fun i hi => (k.block i (by omega) (by omega) (by omega)).trans (h.block i hi)⟩
theorem Be.grew2 {w w' : World} {g a b : Nat} {cs : List Value} {t : TypeId} (h : Be w g cs t) (k : Bz a b w w') (ha : g ≠ a) (hb : g ≠ b) : Be w' g cs t := by
 have := h.lt
 unfold Be at h ⊢
 rw [k.block g this ha hb]; exact h
def Bcw (xs ys d : List Nat) (a b k p m l : Nat) : Prop :=
 d.length = k ∧ M.Low Bb d ∧ p < Bb ∧ m < Bb ∧ l ≤ 1 ∧ M.val Bb d + b * M.val Bb (ys.take k) + Bb ^ k * p = a * M.val Bb (xs.take k) + Bb ^ k * (m + l)
theorem Bc4 {B P V X Y a b x y o lx hx ly hy p m l l' : Nat} (h : V + b * Y + P * p = a * X + P * (m + l)) (h1 : lx + B * hx = x * a + p) (h2 : ly + B * hy = y * b + m) (h3 : o + ly + l = lx + B * l') :
  (V + P * o) + b * (Y + P * y) + P * B * hx = a * (X + P * x) + P * B * (hy + l') := by
 have e1 : P * (lx + B * hx) = P * (x * a + p) := by rw [h1]
 have e2 : P * (ly + B * hy) = P * (y * b + m) := by rw [h2]
 have e3 : P * (o + ly + l) = P * (lx + B * l') := by rw [h3]
 grind
theorem Bcw.step {xs ys d : List Nat} {a b k p m l : Nat} (lx : M.Low Bb xs) (ly : M.Low Bb ys) (ha : a < Bb) (hb : b < Bb) (h : Bcw xs ys d a b k p m l) :
  Bcw xs ys (d ++ [Co (Kq (lm xs k) a p) (Kq (lm ys k) b m) l]) a b (k + 1) (tHi (lm xs k) a p) (tHi (lm ys k) b m) (D3 (Kq (lm xs k) a p) (Kq (lm ys k) b m) l) := by
 obtain ⟨h1, h2, h3, h4, h5, h6⟩ := h
 obtain ⟨f1, f2, f3⟩ := P7 (By Bl lx k) ha h3
 obtain ⟨g1, g2, g3⟩ := P7 (By Bl ly k) hb h4
 generalize Kq (lm xs k) a p = u at *
 generalize Kq (lm ys k) b m = v at *
 have k1 : Co u v l < Bb := by unfold Co Bb; omega
 have k2 : D3 u v l ≤ 1 := by unfold D3; split <;> omega
 have k3 : Co u v l + v + l = u + Bb * D3 u v l := by
  unfold Co D3
  unfold Bb at *
  split <;> omega
 refine ⟨by simp [h1], h2.snoc k1, f1, g1, k2, ?_⟩
 rw [M.val_snoc, h1, M.val_take_succ, M.val_take_succ, Nat.pow_succ]
 exact Bc4 h6 f3 g3 k3
theorem Zw {P V A C p m l N : Nat} (h : V + C + P * p = A + P * (m + l)) (hV : V < P) (hN : N < P) (hl : l ≤ 1) (hA : A = C + N ∨ C = A + N) :
  (¬ (p < m ∨ (p = m ∧ l ≠ 0)) ∧ V = N) ∨ ((p < m ∨ (p = m ∧ l ≠ 0)) ∧ V ≠ 0 ∧ ∀ V', V' + V = P → V' = N) := by
 rcases hA with rfl | rfl
 ·left
  have h' : V + P * p = N + P * (m + l) := by omega
  have e : p = m + l := by
   rcases Nat.lt_trichotomy p (m + l) with g | g | g
   ·have := Nat.mul_le_mul_left P (show p + 1 ≤ m + l from g)
    rw [Nat.mul_add, Nat.mul_one] at this
    omega
   ·exact g
   ·have := Nat.mul_le_mul_left P (show m + l + 1 ≤ p from g)
    rw [Nat.mul_add, Nat.mul_one] at this
    omega
  rw [e] at h'
  exact ⟨by omega, by omega⟩
 ·have h' : V + N + P * p = P * (m + l) := by omega
  by_cases h0 : N = 0
  ·left
   subst h0
   have e : p = m + l := by
    rcases Nat.lt_trichotomy p (m + l) with g | g | g
    ·have := Nat.mul_le_mul_left P (show p + 1 ≤ m + l from g)
     rw [Nat.mul_add, Nat.mul_one] at this
     omega
    ·exact g
    ·have := Nat.mul_le_mul_left P (show m + l + 1 ≤ p from g)
     rw [Nat.mul_add, Nat.mul_one] at this
     omega
   rw [e] at h'
   exact ⟨by omega, by omega⟩
  ·right
   have e : m + l = p + 1 := by
    rcases Nat.lt_trichotomy (m + l) (p + 1) with g | g | g
    ·have := Nat.mul_le_mul_left P (show m + l ≤ p by omega)
     omega
    ·exact g
    ·have := Nat.mul_le_mul_left P (show p + 2 ≤ m + l from g)
     rw [Nat.mul_add] at this
     omega
   rw [e, Nat.mul_add, Nat.mul_one] at h'
   refine ⟨by omega, by omega, fun V' hV' => by omega⟩
theorem L7 (a b c d g0 g1 : Nat) (t : TypeId) (xs ys q0 q1 : List Nat) (c0 n1 c1 : Nat) (w : World) (h0 : Bk w g0 (xs ++ q0) t) (h1 : Bk w g1 (ys ++ q1) t) (hg : g0 ≠ g1) (hxy : ys.length = xs.length)
  (ha : a < Bb) (hb : b < Bb) (hc : c < Bb) (hd : d < Bb) (lx : M.Low Bb xs) (ly : M.Low Bb ys) (hc1 : xs.length ≤ c1) (hm : xs.length ≤ 1000000)
  (X' Y' : Nat) (eX : a * M.val Bb xs = b * M.val Bb ys + X' ∨ b * M.val Bb ys = a * M.val Bb xs + X') (eY : c * M.val Bb xs = d * M.val Bb ys + Y' ∨ d * M.val Bb ys = c * M.val Bb xs + Y')
  (bX : X' < Bb ^ xs.length) (bY : Y' < Bb ^ xs.length) :
  Calls Tryz.prog 207 #[.agg #[.int .u64 (a : Nat), .int .u64 (b : Nat), .int .u64 (c : Nat), .int .u64 (d : Nat)], .slice (some ⟨g0, 0, none⟩) xs.length c0, .slice (some ⟨g1, 0, none⟩) n1 c1] w fun e w' =>
   ∃ xs' ys' : List Nat, e = .returned (.tuple #[]) ∧ Bk w' g0 (xs' ++ q0) t ∧ Bk w' g1 (ys' ++ q1) t ∧ xs'.length = xs.length ∧ ys'.length = xs.length ∧ M.Low Bb xs' ∧ M.Low Bb ys' ∧ M.val Bb xs' = X' ∧ M.val Bb ys' = Y' ∧ Bz g0 g1 w w' := by
 have hcc1 : (xs.length : Int) ≤ c1 := by omega
 have EX := Ba eX
 have EY := Ba eY
 have BX := Ba bX
 have BY := Ba bY
 clear eX eY bX bY
 go_enter Tryz.func207, Tryz.ntmps207
 go_wp2
 have kS := Be.new w [.int .u64 (a : Nat), .int .u64 (b : Nat), .int .u64 (c : Nat), .int .u64 (d : Nat)] 276
 have gS : Bz g0 g1 w (w.alloc (.cells #[.int .u64 (a : Nat), .int .u64 (b : Nat), .int .u64 (c : Nat), .int .u64 (d : Nat)] 276)) := Bz.of ((Jg _ _).alloc (Jb _) _)
 have lt0 := h0.lt
 have lt1 := h1.lt
 go_loopw [6, 7, 8, 9, 10, 11, 23] (fun va vb vc vd vl vl' i wr => ∃ (k p m p' m' l l' : Nat) (u v : List Nat), k ≤ xs.length ∧ i = .int .i64 k ∧ va = .int .u64 p ∧ vb = .int .u64 m ∧ vc = .int .u64 p' ∧ vd = .int .u64 m' ∧ vl = .int .u64 l ∧ vl' = .int .u64 l' ∧
   Bcw xs ys u a b k p m l ∧ Bcw xs ys v c d k p' m' l' ∧ Bk wr g0 ([] ++ u ++ xs.drop k ++ q0) t ∧ Bk wr g1 ([] ++ v ++ ys.drop k ++ q1) t ∧ Be wr w.heap.size [.int .u64 (a : Nat), .int .u64 (b : Nat), .int .u64 (c : Nat), .int .u64 (d : Nat)] 276 ∧ Bz g0 g1 w wr)
  (fun _ _ _ _ _ _ i _ => xs.length - (intOf i).toNat)
 case atStart => exact ⟨0, 0, 0, 0, 0, 0, 0, [], [], by omega, rfl, rfl, rfl, rfl, rfl, rfl, rfl, ⟨rfl, M.Low.nil _, Bl, Bl, by omega, by simp [M.val]⟩, ⟨rfl, M.Low.nil _, Bl, Bl, by omega, by simp [M.val]⟩,
   by simpa using h0.b ((Below.refl _ _).alloc (Nat.le_refl _) _), by simpa using h1.b ((Below.refl _ _).alloc (Nat.le_refl _) _), kS, gS⟩
 case round =>
  clear kS gS
  obtain ⟨k, p, m, p', m', l, l', u, v, hk, rfl, rfl, rfl, rfl, rfl, rfl, rfl, at1, at2, k0, k1, kS, gS⟩ := hrel
  have hul : u.length = k := at1.1
  have hvl : v.length = k := at2.1
  obtain ⟨-, -, ip, im, il, -⟩ := id at1
  obtain ⟨-, -, ip', im', il', -⟩ := id at2
  by_cases hlt : k < xs.length
  ·rw [Eg xs k hlt] at k0
   rw [Eg ys k (by omega)] at k1
   have x1 := k0.cell (j := k) (by simp; omega)
   have em := Fl [] u (xs.drop (k + 1)) q0 (lm xs k)
   rw [List.length_nil, Nat.zero_add, hul] at em
   rw [em] at x1
   have y1 := k1.cell (j := k) (by simp; omega)
   have em := Fl [] v (ys.drop (k + 1)) q1 (lm ys k)
   rw [List.length_nil, Nat.zero_add, hvl] at em
   rw [em] at y1
   have f0 := k0.o k
   have s0 := kS.cell 0
   have s1 := kS.cell 1
   have s2 := kS.cell 2
   have s3 := kS.cell 3
   simp only [Jn, Jm] at s0 s1 s2 s3
   have hks : (k : Int) < xs.length := by omega
   have hky : (k : Int) < ys.length := by omega
   have ixl := By Bl lx k
   have iyl := By Bl ly k
   have T1 := Ba (at1.step lx ly ha hb)
   have T2 := Ba (at2.step lx ly hc hd)
   have M1 := Ba (fun w => Kb (lm xs k) a p ixl ha ip w)
   have M2 := Ba (fun w => Kb (lm ys k) b m iyl hb im w)
   have M3 := Ba (fun w => Kb (lm xs k) c p' ixl hc ip' w)
   have M4 := Ba (fun w => Kb (lm ys k) d m' iyl hd im' w)
   clear ixl iyl at1 at2 em
   go_wp2_with fail
   refine (M1.out _).mono ?_
   rintro e w1 ⟨rfl, rfl⟩
   go_wp2_with fail
   refine (M2.out _).mono ?_
   rintro e w1 ⟨rfl, rfl⟩
   obtain ⟨o, ho⟩ : ∃ o, o = Co (Kq (lm xs k) a p) (Kq (lm ys k) b m) l := ⟨_, rfl⟩
   have HS1 := Ba (fun w => Nm (Kq (lm xs k) a p) (Kq (lm ys k) b m) l il w)
   obtain ⟨w2, hw2⟩ : ∃ w2, w2 = w1.setCell ⟨g0, k, none⟩ (.int .u64 (o : Nat)) := ⟨_, rfl⟩
   have j0 : Bk w2 g0 ([] ++ (u ++ [o]) ++ xs.drop (k + 1) ++ q0) t := by
    have hset := k0.set k o
    have es := Ec [] u (xs.drop (k + 1)) q0 (lm xs k) o
    rw [List.length_nil, Nat.zero_add, hul] at es
    rw [es, ← hw2] at hset
    exact hset
   have j1 : Bk w2 g1 ([] ++ v ++ (lm ys k :: ys.drop (k + 1)) ++ q1) t := by rw [hw2]; exact k1.w (Ne.symm hg) _ _
   have jS : Be w2 w.heap.size [.int .u64 (a : Nat), .int .u64 (b : Nat), .int .u64 (c : Nat), .int .u64 (d : Nat)] 276 := by rw [hw2]; exact kS.w (by omega) _ _
   have jG : Bz g0 g1 w w2 := by rw [hw2]; exact gS.set0 _ _
   have s2' := jS.cell 2
   have s3' := jS.cell 3
   have f1 := j1.o k
   have y2 := j1.cell (j := k) (by simp; omega)
   simp only [Jn, Jm] at s2' s3'
   rw [hw2, ho] at s2' s3' f1 y2
   go_wp2_with (first | simp only [HS1.out])
   rw [← ho, ← hw2]
   rw [← ho, ← hw2] at s2' s3' f1 y2
   have j0' := j0
   rw [ho] at j0'
   clear hw2 ho
   clear s0 s1 s2 s3 HS1 k0 k1 kS gS x1 y1 f0
   refine (M3.out _).mono ?_
   rintro e w3 ⟨rfl, rfl⟩
   go_wp2_with fail
   refine (M4.out _).mono ?_
   rintro e w3 ⟨rfl, rfl⟩
   have HS2 := Ba (fun w => Nm (Kq (lm xs k) c p') (Kq (lm ys k) d m') l' il' w)
   have z1 : Bk (w3.setCell ⟨g1, k, none⟩ (.int .u64 (Co (Kq (lm xs k) c p') (Kq (lm ys k) d m') l' : Nat))) g1 ([] ++ (v ++ [Co (Kq (lm xs k) c p') (Kq (lm ys k) d m') l']) ++ ys.drop (k + 1) ++ q1) t := by
    have hset := j1.set k (Co (Kq (lm xs k) c p') (Kq (lm ys k) d m') l')
    have es := Ec [] v (ys.drop (k + 1)) q1 (lm ys k) (Co (Kq (lm xs k) c p') (Kq (lm ys k) d m') l')
    rw [List.length_nil, Nat.zero_add, hvl] at es
    rw [es] at hset
    exact hset
   have Z1 := Ba z1
   have Z0 := Ba (j0'.w hg k (.int .u64 (Co (Kq (lm xs k) c p') (Kq (lm ys k) d m') l' : Nat)))
   have ZS := Ba (jS.w (show w.heap.size ≠ g1 by omega) k (.int .u64 (Co (Kq (lm xs k) c p') (Kq (lm ys k) d m') l' : Nat)))
   have ZG := Ba (jG.set1 k (.int .u64 (Co (Kq (lm xs k) c p') (Kq (lm ys k) d m') l' : Nat)))
   clear z1
   go_wp2_with (first | simp only [HS2.out])
   exact ⟨⟨k + 1, _, _, _, _, _, _, _, _, by omega, by go_num, rfl, rfl, rfl, rfl, rfl, rfl, T1.out, T2.out, Z0.out, Z1.out, ZS.out, ZG.out⟩, by simp [intOf]; omega⟩
  ·have hke : k = xs.length := by omega
   rw [List.drop_of_length_le (by omega), List.append_nil, List.nil_append] at k0 k1
   obtain ⟨-, lu, -, -, -, e1⟩ := at1
   obtain ⟨-, lv, -, -, -, e2⟩ := at2
   rw [M.val_take_all _ _ _ (by omega), M.val_take_all _ _ _ (by omega), hke] at e1 e2
   have lu' := M.val_lt Bl lu
   have lv' := M.val_lt Bl lv
   rw [hul, hke] at lu'
   rw [hvl, hke] at lv'
   have F1 := Ba (Zw e1 lu' BX.out il EX.out)
   have F2 := Ba (Zw e2 lv' BY.out il' EY.out)
   have HU : Hid (u.length = xs.length) := by show _ = _; omega
   have HV : Hid (v.length = xs.length) := by show _ = _; omega
   have A1 : (p < m) ∨ (p = m ∧ l = 1) ∨ (p = m ∧ l = 0) ∨ (m < p) := by omega
   have A2 : (p' < m') ∨ (p' = m' ∧ l' = 1) ∨ (p' = m' ∧ l' = 0) ∨ (m' < p') := by omega
   clear e1 e2 lu' lv' hke hul hvl ip im il ip' im' il' ha hb hc hd lx ly h0 h1
   rcases A1 with h1 | ⟨rfl, rfl⟩ | ⟨rfl, rfl⟩ | h1
   ·have nz : M.val Bb u ≠ 0 ∧ ∀ V', V' + M.val Bb u = Bb ^ xs.length → V' = X' := by
     rcases F1.out with ⟨h, -⟩ | ⟨-, h⟩
     ·exact absurd (by first | exact Or.inl h1 | exact Or.inr ⟨rfl, by omega⟩) h
     ·exact h
    have NZ1 := Ba nz
    have HT1 := Ba (fun wx (hx : Bk wx g0 (u ++ q0) t) => El g0 t u q0 c0 wx hx lu (by rw [HU.out]; exact hm) nz.1)
    rw [HU.out] at HT1
    clear nz
    go_wp2_with fail
    refine (HT1.out _ k0).mono ?_
    rintro e w5 ⟨u', rfl, k0', lv1, lu', lv3, ov⟩
    replace k1 := k1.only ov (by omega)
    replace gS := gS.trans (Bz.left ov)
    have V1 := Ba (NZ1.out.2 _ lv3)
    replace HU : Hid (u'.length = xs.length) := lv1
    clear lv3 lv1 HT1 NZ1 k0 lu F1 ov
    have k0 := k0'
    have lu := lu'
    clear k0' lu'
    rcases A2 with h2 | ⟨rfl, rfl⟩ | ⟨rfl, rfl⟩ | h2
    ·have nz : M.val Bb v ≠ 0 ∧ ∀ V', V' + M.val Bb v = Bb ^ xs.length → V' = Y' := by
      rcases F2.out with ⟨h, -⟩ | ⟨-, h⟩
      ·exact absurd (by first | exact Or.inl h2 | exact Or.inr ⟨rfl, by omega⟩) h
      ·exact h
     have NZ := Ba nz
     have HT2 := Ba (fun wx (hx : Bk wx g1 (v ++ q1) t) => El g1 t v q1 c1 wx hx lv (by rw [HV.out]; exact hm) nz.1)
     rw [HV.out] at HT2
     clear nz
     go_wp2_with fail
     refine (HT2.out _ k1).mono ?_
     rintro e w5 ⟨v', rfl, k1', lv1, lv2, lv3, ov⟩
     have k0' := k0.only ov (by omega)
     have gS' := gS.trans (Bz.right ov)
     have LV := Ba (NZ.out.2 _ lv3)
     have LV1 := Ba lv1
     clear lv3 lv1 HT2 NZ
     go_wp2
     go_end0
     exact ⟨_, v', rfl, k0', k1', HU.out, LV1.out, lu, lv2, V1.out, LV.out, gS'⟩
    ·have nz : M.val Bb v ≠ 0 ∧ ∀ V', V' + M.val Bb v = Bb ^ xs.length → V' = Y' := by
      rcases F2.out with ⟨h, -⟩ | ⟨-, h⟩
      ·exact absurd (by first | exact Or.inl h2 | exact Or.inr ⟨rfl, by omega⟩) h
      ·exact h
     have NZ := Ba nz
     have HT2 := Ba (fun wx (hx : Bk wx g1 (v ++ q1) t) => El g1 t v q1 c1 wx hx lv (by rw [HV.out]; exact hm) nz.1)
     rw [HV.out] at HT2
     clear nz
     go_wp2_with fail
     refine (HT2.out _ k1).mono ?_
     rintro e w5 ⟨v', rfl, k1', lv1, lv2, lv3, ov⟩
     have k0' := k0.only ov (by omega)
     have gS' := gS.trans (Bz.right ov)
     have LV := Ba (NZ.out.2 _ lv3)
     have LV1 := Ba lv1
     clear lv3 lv1 HT2 NZ
     go_wp2
     go_end0
     exact ⟨_, v', rfl, k0', k1', HU.out, LV1.out, lu, lv2, V1.out, LV.out, gS'⟩
    ·have V2 : Hid (M.val Bb v = Y') := by
      rcases F2.out with ⟨-, h⟩ | ⟨h, -⟩
      ·exact h
      ·exact absurd h (by omega)
     go_wp2_with fail
     go_end0
     first | exact ⟨_, v, rfl, k0, k1, HU.out, HV.out, lu, lv, V1.out, V2.out, gS⟩ | exact ⟨rfl, _, v, k0, k1, HU.out, HV.out, lu, lv, V1.out, V2.out, gS⟩ | exact ⟨rfl, _, k0, v, k1, HU.out, HV.out, lu, lv, V1.out, V2.out, gS⟩
    ·have V2 : Hid (M.val Bb v = Y') := by
      rcases F2.out with ⟨-, h⟩ | ⟨h, -⟩
      ·exact h
      ·exact absurd h (by omega)
     go_wp2_with fail
     go_end0
     first | exact ⟨_, v, rfl, k0, k1, HU.out, HV.out, lu, lv, V1.out, V2.out, gS⟩ | exact ⟨rfl, _, v, k0, k1, HU.out, HV.out, lu, lv, V1.out, V2.out, gS⟩ | exact ⟨rfl, _, k0, v, k1, HU.out, HV.out, lu, lv, V1.out, V2.out, gS⟩
   ·have nz : M.val Bb u ≠ 0 ∧ ∀ V', V' + M.val Bb u = Bb ^ xs.length → V' = X' := by
     rcases F1.out with ⟨h, -⟩ | ⟨-, h⟩
     ·exact absurd (by first | exact Or.inl h1 | exact Or.inr ⟨rfl, by omega⟩) h
     ·exact h
    have NZ1 := Ba nz
    have HT1 := Ba (fun wx (hx : Bk wx g0 (u ++ q0) t) => El g0 t u q0 c0 wx hx lu (by rw [HU.out]; exact hm) nz.1)
    rw [HU.out] at HT1
    clear nz
    go_wp2_with fail
    refine (HT1.out _ k0).mono ?_
    rintro e w5 ⟨u', rfl, k0', lv1, lu', lv3, ov⟩
    replace k1 := k1.only ov (by omega)
    replace gS := gS.trans (Bz.left ov)
    have V1 := Ba (NZ1.out.2 _ lv3)
    replace HU : Hid (u'.length = xs.length) := lv1
    clear lv3 lv1 HT1 NZ1 k0 lu F1 ov
    have k0 := k0'
    have lu := lu'
    clear k0' lu'
    rcases A2 with h2 | ⟨rfl, rfl⟩ | ⟨rfl, rfl⟩ | h2
    ·have nz : M.val Bb v ≠ 0 ∧ ∀ V', V' + M.val Bb v = Bb ^ xs.length → V' = Y' := by
      rcases F2.out with ⟨h, -⟩ | ⟨-, h⟩
      ·exact absurd (by first | exact Or.inl h2 | exact Or.inr ⟨rfl, by omega⟩) h
      ·exact h
     have NZ := Ba nz
     have HT2 := Ba (fun wx (hx : Bk wx g1 (v ++ q1) t) => El g1 t v q1 c1 wx hx lv (by rw [HV.out]; exact hm) nz.1)
     rw [HV.out] at HT2
     clear nz
     go_wp2_with fail
     refine (HT2.out _ k1).mono ?_
     rintro e w5 ⟨v', rfl, k1', lv1, lv2, lv3, ov⟩
     have k0' := k0.only ov (by omega)
     have gS' := gS.trans (Bz.right ov)
     have LV := Ba (NZ.out.2 _ lv3)
     have LV1 := Ba lv1
     clear lv3 lv1 HT2 NZ
     go_wp2
     go_end0
     exact ⟨_, v', rfl, k0', k1', HU.out, LV1.out, lu, lv2, V1.out, LV.out, gS'⟩
    ·have nz : M.val Bb v ≠ 0 ∧ ∀ V', V' + M.val Bb v = Bb ^ xs.length → V' = Y' := by
      rcases F2.out with ⟨h, -⟩ | ⟨-, h⟩
      ·exact absurd (by first | exact Or.inl h2 | exact Or.inr ⟨rfl, by omega⟩) h
      ·exact h
     have NZ := Ba nz
     have HT2 := Ba (fun wx (hx : Bk wx g1 (v ++ q1) t) => El g1 t v q1 c1 wx hx lv (by rw [HV.out]; exact hm) nz.1)
     rw [HV.out] at HT2
     clear nz
     go_wp2_with fail
     refine (HT2.out _ k1).mono ?_
     rintro e w5 ⟨v', rfl, k1', lv1, lv2, lv3, ov⟩
     have k0' := k0.only ov (by omega)
     have gS' := gS.trans (Bz.right ov)
     have LV := Ba (NZ.out.2 _ lv3)
     have LV1 := Ba lv1
     clear lv3 lv1 HT2 NZ
     go_wp2
     go_end0
     exact ⟨_, v', rfl, k0', k1', HU.out, LV1.out, lu, lv2, V1.out, LV.out, gS'⟩
    ·have V2 : Hid (M.val Bb v = Y') := by
      rcases F2.out with ⟨-, h⟩ | ⟨h, -⟩
      ·exact h
      ·exact absurd h (by omega)
     go_wp2_with fail
     go_end0
     first | exact ⟨_, v, rfl, k0, k1, HU.out, HV.out, lu, lv, V1.out, V2.out, gS⟩ | exact ⟨rfl, _, v, k0, k1, HU.out, HV.out, lu, lv, V1.out, V2.out, gS⟩ | exact ⟨rfl, _, k0, v, k1, HU.out, HV.out, lu, lv, V1.out, V2.out, gS⟩
    ·have V2 : Hid (M.val Bb v = Y') := by
      rcases F2.out with ⟨-, h⟩ | ⟨h, -⟩
      ·exact h
      ·exact absurd h (by omega)
     go_wp2_with fail
     go_end0
     first | exact ⟨_, v, rfl, k0, k1, HU.out, HV.out, lu, lv, V1.out, V2.out, gS⟩ | exact ⟨rfl, _, v, k0, k1, HU.out, HV.out, lu, lv, V1.out, V2.out, gS⟩ | exact ⟨rfl, _, k0, v, k1, HU.out, HV.out, lu, lv, V1.out, V2.out, gS⟩
   ·have V1 : Hid (M.val Bb u = X') := by
     rcases F1.out with ⟨-, h⟩ | ⟨h, -⟩
     ·exact h
     ·exact absurd h (by omega)
    clear F1
    rcases A2 with h2 | ⟨rfl, rfl⟩ | ⟨rfl, rfl⟩ | h2
    ·have nz : M.val Bb v ≠ 0 ∧ ∀ V', V' + M.val Bb v = Bb ^ xs.length → V' = Y' := by
      rcases F2.out with ⟨h, -⟩ | ⟨-, h⟩
      ·exact absurd (by first | exact Or.inl h2 | exact Or.inr ⟨rfl, by omega⟩) h
      ·exact h
     have NZ := Ba nz
     have HT2 := Ba (fun wx (hx : Bk wx g1 (v ++ q1) t) => El g1 t v q1 c1 wx hx lv (by rw [HV.out]; exact hm) nz.1)
     rw [HV.out] at HT2
     clear nz
     go_wp2_with fail
     refine (HT2.out _ k1).mono ?_
     rintro e w5 ⟨v', rfl, k1', lv1, lv2, lv3, ov⟩
     have k0' := k0.only ov (by omega)
     have gS' := gS.trans (Bz.right ov)
     have LV := Ba (NZ.out.2 _ lv3)
     have LV1 := Ba lv1
     clear lv3 lv1 HT2 NZ
     go_wp2
     go_end0
     exact ⟨_, v', rfl, k0', k1', HU.out, LV1.out, lu, lv2, V1.out, LV.out, gS'⟩
    ·have nz : M.val Bb v ≠ 0 ∧ ∀ V', V' + M.val Bb v = Bb ^ xs.length → V' = Y' := by
      rcases F2.out with ⟨h, -⟩ | ⟨-, h⟩
      ·exact absurd (by first | exact Or.inl h2 | exact Or.inr ⟨rfl, by omega⟩) h
      ·exact h
     have NZ := Ba nz
     have HT2 := Ba (fun wx (hx : Bk wx g1 (v ++ q1) t) => El g1 t v q1 c1 wx hx lv (by rw [HV.out]; exact hm) nz.1)
     rw [HV.out] at HT2
     clear nz
     go_wp2_with fail
     refine (HT2.out _ k1).mono ?_
     rintro e w5 ⟨v', rfl, k1', lv1, lv2, lv3, ov⟩
     have k0' := k0.only ov (by omega)
     have gS' := gS.trans (Bz.right ov)
     have LV := Ba (NZ.out.2 _ lv3)
     have LV1 := Ba lv1
     clear lv3 lv1 HT2 NZ
     go_wp2
     go_end0
     exact ⟨_, v', rfl, k0', k1', HU.out, LV1.out, lu, lv2, V1.out, LV.out, gS'⟩
    ·have V2 : Hid (M.val Bb v = Y') := by
      rcases F2.out with ⟨-, h⟩ | ⟨h, -⟩
      ·exact h
      ·exact absurd h (by omega)
     go_wp2_with fail
     go_end0
     first | exact ⟨_, v, rfl, k0, k1, HU.out, HV.out, lu, lv, V1.out, V2.out, gS⟩ | exact ⟨rfl, _, v, k0, k1, HU.out, HV.out, lu, lv, V1.out, V2.out, gS⟩ | exact ⟨rfl, _, k0, v, k1, HU.out, HV.out, lu, lv, V1.out, V2.out, gS⟩
    ·have V2 : Hid (M.val Bb v = Y') := by
      rcases F2.out with ⟨-, h⟩ | ⟨h, -⟩
      ·exact h
      ·exact absurd h (by omega)
     go_wp2_with fail
     go_end0
     first | exact ⟨_, v, rfl, k0, k1, HU.out, HV.out, lu, lv, V1.out, V2.out, gS⟩ | exact ⟨rfl, _, v, k0, k1, HU.out, HV.out, lu, lv, V1.out, V2.out, gS⟩ | exact ⟨rfl, _, k0, v, k1, HU.out, HV.out, lu, lv, V1.out, V2.out, gS⟩
   ·have V1 : Hid (M.val Bb u = X') := by
     rcases F1.out with ⟨-, h⟩ | ⟨h, -⟩
     ·exact h
     ·exact absurd h (by omega)
    clear F1
    rcases A2 with h2 | ⟨rfl, rfl⟩ | ⟨rfl, rfl⟩ | h2
    ·have nz : M.val Bb v ≠ 0 ∧ ∀ V', V' + M.val Bb v = Bb ^ xs.length → V' = Y' := by
      rcases F2.out with ⟨h, -⟩ | ⟨-, h⟩
      ·exact absurd (by first | exact Or.inl h2 | exact Or.inr ⟨rfl, by omega⟩) h
      ·exact h
     have NZ := Ba nz
     have HT2 := Ba (fun wx (hx : Bk wx g1 (v ++ q1) t) => El g1 t v q1 c1 wx hx lv (by rw [HV.out]; exact hm) nz.1)
     rw [HV.out] at HT2
     clear nz
     go_wp2_with fail
     refine (HT2.out _ k1).mono ?_
     rintro e w5 ⟨v', rfl, k1', lv1, lv2, lv3, ov⟩
     have k0' := k0.only ov (by omega)
     have gS' := gS.trans (Bz.right ov)
     have LV := Ba (NZ.out.2 _ lv3)
     have LV1 := Ba lv1
     clear lv3 lv1 HT2 NZ
     go_wp2
     go_end0
     exact ⟨_, v', rfl, k0', k1', HU.out, LV1.out, lu, lv2, V1.out, LV.out, gS'⟩
    ·have nz : M.val Bb v ≠ 0 ∧ ∀ V', V' + M.val Bb v = Bb ^ xs.length → V' = Y' := by
      rcases F2.out with ⟨h, -⟩ | ⟨-, h⟩
      ·exact absurd (by first | exact Or.inl h2 | exact Or.inr ⟨rfl, by omega⟩) h
      ·exact h
     have NZ := Ba nz
     have HT2 := Ba (fun wx (hx : Bk wx g1 (v ++ q1) t) => El g1 t v q1 c1 wx hx lv (by rw [HV.out]; exact hm) nz.1)
     rw [HV.out] at HT2
     clear nz
     go_wp2_with fail
     refine (HT2.out _ k1).mono ?_
     rintro e w5 ⟨v', rfl, k1', lv1, lv2, lv3, ov⟩
     have k0' := k0.only ov (by omega)
     have gS' := gS.trans (Bz.right ov)
     have LV := Ba (NZ.out.2 _ lv3)
     have LV1 := Ba lv1
     clear lv3 lv1 HT2 NZ
     go_wp2
     go_end0
     exact ⟨_, v', rfl, k0', k1', HU.out, LV1.out, lu, lv2, V1.out, LV.out, gS'⟩
    ·have V2 : Hid (M.val Bb v = Y') := by
      rcases F2.out with ⟨-, h⟩ | ⟨h, -⟩
      ·exact h
      ·exact absurd h (by omega)
     go_wp2_with fail
     go_end0
     first | exact ⟨_, v, rfl, k0, k1, HU.out, HV.out, lu, lv, V1.out, V2.out, gS⟩ | exact ⟨rfl, _, v, k0, k1, HU.out, HV.out, lu, lv, V1.out, V2.out, gS⟩ | exact ⟨rfl, _, k0, v, k1, HU.out, HV.out, lu, lv, V1.out, V2.out, gS⟩
    ·have V2 : Hid (M.val Bb v = Y') := by
      rcases F2.out with ⟨-, h⟩ | ⟨h, -⟩
      ·exact h
      ·exact absurd h (by omega)
     go_wp2_with fail
     go_end0
     first | exact ⟨_, v, rfl, k0, k1, HU.out, HV.out, lu, lv, V1.out, V2.out, gS⟩ | exact ⟨rfl, _, v, k0, k1, HU.out, HV.out, lu, lv, V1.out, V2.out, gS⟩ | exact ⟨rfl, _, k0, v, k1, HU.out, HV.out, lu, lv, V1.out, V2.out, gS⟩
end Go.Proofs.YtnplifkgeeicjaaGreatDoor
