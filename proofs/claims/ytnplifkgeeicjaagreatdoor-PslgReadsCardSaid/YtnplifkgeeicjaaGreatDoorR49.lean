/-
  gussetref08: its reader.
  gussetref08: its reader's numbers and points.
  gussetref08: its reader's counts.
  gussetref08: its reader's points.
  gussetref08: its reader's six numbers.
  gussetref08: its Parse.
  gussetref08: its reader's segments.
  gussetref08: its Parse.
  gussetref08: its Parse of any text.
-/
import Derived.Test.YtnplifkgeeicjaaGreatDoorR47
set_option maxRecDepth 100000
set_option maxHeartbeats 8000000
namespace Go.Proofs.YtnplifkgeeicjaaGreatDoor
open Go.RowKit
def TL (R : Nat) (w : World) (v : Value) (l : List ByteArray) : Prop :=
 (l = [] ∧ ∃ a c, v = .slice a 0 c) ∨ ∃ (A o c : Nat), v = .slice (some ⟨A, o, none⟩) l.length c ∧ l.length ≤ c ∧ A < R ∧ (∀ j, j < l.length → w.cell? ⟨A, o + j, none⟩ = some (.string (nt l j))) ∧ l.length ≤ 100000
def RfR (w : World) (R : Nat) (s : RS) : Prop := ∃ v, Cel w R [v, .bool s.2] 94 ∧ TL R w v s.1 ∧ ∀ t, t ∈ s.1 → t.size ≤ 100000
theorem TL.grew {R : Nat} {w w' : World} {v : Value} {l : List ByteArray} (h : TL R w v l) (k : Grew R w w') (hR : R < w.heap.size) : TL R w' v l := by
 rcases h with h | ⟨A, o, c, h1, h2, h3, h4, h5⟩
 ·exact Or.inl h
 ·exact Or.inr ⟨A, o, c, h1, h2, h3, fun j hj => by rw [k.oldc hR (by exact h3)]; exact h4 j hj, h5⟩
theorem rnext_any (R : Nat) (st : RS) (w : World) (h : RfR w R st) :
  Calls Tryz.prog 94 #[.pointer (some ⟨R, 0, none⟩)] w fun e w' => e = .returned (.string (nxR st).1) ∧ RfR w' R (nxR st).2 ∧ Only R w w' := by
 obtain ⟨l, b⟩ := st
 obtain ⟨v, kr, hv, hz⟩ := h
 cases l with
 | nil =>
  have : ∃ a c, v = .slice a 0 c := by
   rcases hv with ⟨-, h⟩ | ⟨A, o, c, h, -⟩
   ·exact h
   ·exact ⟨_, _, h⟩
  obtain ⟨a, c, rfl⟩ := this
  have c0 := kr.cell 0
  have c1 := kr.cell 1
  have f1 := Cel.frozen kr 1
  go_enter Tryz.func94, Tryz.ntmps94
  go_wp2
  go_ret
  exact ⟨rfl, ⟨_, kr.set 1 (.bool true), Or.inl ⟨rfl, _, _, rfl⟩, hz⟩, (Only.refl R w).setCell 1 _⟩
 | cons t l =>
  rcases hv with ⟨h, -⟩ | ⟨A, o, c, rfl, h2, h3, h4, h5⟩
  ·cases h
  ·have c0 := kr.cell 0
   have f0 := Cel.frozen kr 0
   have ct : w.cell? ⟨A, o, none⟩ = some (.string t) := h4 0 (by simp)
   have hl : (l.length : Int) + 1 ≠ 0 := by omega
   simp only [List.length_cons] at h2 h5 c0
   go_enter Tryz.func94, Tryz.ntmps94
   go_wp2
   ·have hl0 : l = [] := List.eq_nil_of_length_eq_zero (by omega)
    subst hl0
    go_ret
    exact ⟨rfl, ⟨_, kr.set 0 _, Or.inl ⟨rfl, _, _, rfl⟩, fun u hu => by cases hu⟩, (Only.refl R w).setCell 0 _⟩
   ·go_ret
    show _ = Ending.returned (.string t) ∧ RfR _ R (l, b) ∧ _
    refine ⟨rfl, ⟨_, kr.set 0 _, Or.inr ⟨A, o + 1, c - 1, rfl, (show l.length ≤ c - 1 by omega), h3, fun j hj => ?_, (show l.length ≤ 100000 by omega)⟩, fun u hu => hz u (List.mem_cons_of_mem _ hu)⟩, (Only.refl R w).setCell 0 _⟩
    rw [World.cell?_of_block (((Only.refl R w).setCell 0 _).block A (by omega)), show o + 1 + j = o + (j + 1) by omega]
    exact h4 (j + 1) (by simpa using hj)
theorem RfR.grew {R : Nat} {st : RS} {w w' : World} (h : RfR w R st) (hR : R < w.heap.size) (k : Below w.heap.size w w') : RfR w' R st := by
 obtain ⟨v, kr, hv, hz⟩ := h
 exact ⟨v, kr.below k, hv.grew (Below.grew k) hR, hz⟩
def QC (R f : Nat) (xs : Array Value) (w : World) (st : RS) (v : Value) (st' : RS) : Prop :=
 R < w.heap.size → RfR w R st → Calls Tryz.prog f xs w fun e w' => e = .returned v ∧ RfR w' R st' ∧ Grew R w w'
theorem rnext_qc (R : Nat) (st : RS) (w : World) : QC R 94 #[.pointer (some ⟨R, 0, none⟩)] w st (.string (nxR st).1) (nxR st).2 :=
 fun _ h => (rnext_any R st w h).mono (by rintro e w' ⟨rfl, h1, h2⟩; exact ⟨rfl, h1, h2.grew⟩)
theorem nxR_size {R : Nat} {st : RS} {w : World} (h : RfR w R st) : (nxR st).1.size ≤ 100000 := by
 obtain ⟨l, b⟩ := st
 obtain ⟨v, -, -, hz⟩ := h
 cases l with
 | nil => exact Nat.zero_le _
 | cons t l => exact hz t List.mem_cons_self
theorem RfR.bad {R : Nat} {st : RS} {w : World} (h : RfR w R st) : RfR (w.setCell ⟨R, 1, none⟩ (.bool true)) R (st.1, true) ∧ Grew R w (w.setCell ⟨R, 1, none⟩ (.bool true)) := by
 obtain ⟨v, kr, hv, hz⟩ := h
 have k := ((Only.refl R w).setCell 1 (.bool true)).grew
 exact ⟨⟨v, kr.set 1 (.bool true), hv.grew k kr.lt, hz⟩, k⟩
theorem rword_qc (R : Nat) (st : RS) (c : ByteArray) (w : World) : QC R 45 #[.pointer (some ⟨R, 0, none⟩), .string c] w st (.tuple #[]) (wdR c st) := by
 intro hR h
 have HN := shut (rnext_qc R st w hR h)
 unfold wdR
 obtain ⟨t, ht⟩ : ∃ t, t = (nxR st).1 := ⟨_, rfl⟩
 obtain ⟨s1, hs1⟩ : ∃ t, t = (nxR st).2 := ⟨_, rfl⟩
 rw [← ht, ← hs1] at HN
 rw [← ht, ← hs1]
 clear ht hs1 h
 by_cases hc : t = c
 ·have e : ((s1.1, s1.2 || decide (t ≠ c)) : RS) = s1 := by simp [hc]
  rw [e]
  subst hc
  go_enter Tryz.func45, Tryz.ntmps45
  go_wp2_with (go_at_call 94; refine HN.out.mono ?_; rintro e w1 ⟨rfl, k1, g1⟩)
  go_end0
  exact ⟨rfl, k1, g1⟩
 ·have e : ((s1.1, s1.2 || decide (t ≠ c)) : RS) = (s1.1, true) := by simp [hc]
  rw [e]
  have hq : (t.toList == c.toList) = false := by rw [toList_eq_iff]; simp [hc]
  go_enter Tryz.func45, Tryz.ntmps45
  go_wp2_with (go_at_call 94; refine HN.out.mono ?_; rintro e w1 ⟨rfl, k1, g1⟩; have f1 : w1.frozen? ⟨R, 1, none⟩ = false := k1.elim fun v hv => Cel.frozen hv.1 1; have c1 : w1.cell? ⟨R, 1, none⟩ = some (.bool s1.2) := k1.elim fun v hv => hv.1.cell 1)
  go_end0
  exact ⟨rfl, k1.bad.1, g1.trans k1.bad.2⟩
def PR3 (P : ByteArray → Q3) (E : ByteArray → Int) : Prop := ∀ (t : ByteArray) (w : World), t.size ≤ 100000 → Calls Tryz.prog 153 #[.string t] w fun e w' => e = .returned (.tuple #[vQ (P t), .int .i64 (E t)]) ∧ Below w.heap.size w w'
theorem RfR.other {R : Nat} {st : RS} {w w' : World} {g : Nat} (h : RfR w R st) (k : Only g w w') (hg : R < g) : RfR w' R st := by
 obtain ⟨v, kr, hv, hz⟩ := h
 refine ⟨v, k.cel kr (by omega), ?_, hz⟩
 rcases hv with h | ⟨A, o, c, h1, h2, h3, h4, h5⟩
 ·exact Or.inl h
 ·exact Or.inr ⟨A, o, c, h1, h2, h3, fun j hj => by rw [World.cell?_of_block (k.block A (by omega))]; exact h4 j hj, h5⟩
theorem rnumber_qc (P : ByteArray → Q3) (E : ByteArray → Int) (hP : PR3 P E) (R : Nat) (st : RS) (w : World) : QC R 95 #[.pointer (some ⟨R, 0, none⟩)] w st (vQ (nuR P E st).1) (nuR P E st).2 := by
 intro hR h
 have hz := nxR_size h
 have HN := shut (fun w1 (b : Below w.heap.size w w1) => rnext_qc R st w1 (Nat.lt_of_lt_of_le hR b.size) (h.grew hR b))
 have HT := shut (fun w1 => hP (nxR st).1 w1 hz)
 unfold nuR
 obtain ⟨t, ht⟩ : ∃ t, t = (nxR st).1 := ⟨_, rfl⟩
 obtain ⟨s1, hs1⟩ : ∃ t, t = (nxR st).2 := ⟨_, rfl⟩
 rw [← ht, ← hs1] at HN
 rw [← ht] at HT
 rw [← ht, ← hs1]
 generalize P t = q at *
 obtain ⟨qn, qs, qd⟩ := q
 generalize E t = c at *
 obtain ⟨u, hu⟩ : ∃ u, u = ((s1.1, s1.2 || decide (c ≠ 0)) : RS) := ⟨_, rfl⟩
 have HU := shut hu
 simp only [← hu]
 clear h hu ht hs1 hz
 go_enter Tryz.func95, Tryz.ntmps95
 go_wp2_with fail
 obtain ⟨w0, hq, kr, b0⟩ := mk1 w (ql1 false eS eS) 26
 rw [← hq]
 clear hq
 have hR0 := Nat.lt_of_lt_of_le hR b0.size
 go_upto_region 3 with (first | (go_at_call 94; refine (HN.out _ b0).mono ?_; rintro e w1 ⟨rfl, k1, g1⟩) | (go_at_call 153; refine (HT.out _).mono ?_; rintro e w2 ⟨rfl, b2⟩))
 obtain ⟨w3, hq, kx, b3⟩ := mk1 w2 (ql1 qn qs qd) 26
 rw [← hq]
 clear hq
 have G3 : Grew R w w3 := ((Below.grew b0).trans g1).trans (Below.grew (Below.after b2 b3))
 have k3 := RfR.grew k1 (Nat.lt_of_lt_of_le hR0 g1.size) (Below.after b2 b3)
 have kr3 := (Grew.cel g1 kr (by omega)).below (Below.after b2 b3)
 have hg2 : w.heap.size < w2.heap.size := Nat.lt_of_lt_of_le (Nat.lt_of_lt_of_le kr.lt g1.size) b2.size
 clear kr b0 g1 k1 b2 b3 HN HT
 by_cases hc : c = 0
 ·have HQ : Hid (u = s1) := by show u = s1; rw [HU.out]; simp [hc]
  go_wp2_with (first | (refine wpList_load_row rfl 26 _ rfl _ rfl 26 _ (0, 0) _ kx Tryz.underlying26 rfl (by kernel_rfl) ?_) | (refine wpList_store_row rfl 26 _ _ rfl _ (qv1 qn qs qd) rfl rfl 26 _ kr3 (by kernel_rfl) rfl (by kernel_rfl) ?_))
  exact post_q (p := 2) (by kernel_rfl) rfl rfl (kr3.rowS _) ⟨rfl, by rw [HQ.out]; exact k3.other ((Only.refl _ _).setRow _) hR, G3.row (Nat.le_refl _) _⟩
 ·have HQ : Hid (u = (s1.1, true)) := by show u = (s1.1, true); rw [HU.out]; simp [hc]
  have f1 : w3.frozen? ⟨R, 1, none⟩ = false := k3.elim fun v hv => Cel.frozen hv.1 1
  have c1 : w3.cell? ⟨R, 1, none⟩ = some (.bool s1.2) := k3.elim fun v hv => hv.1.cell 1
  go_upto_region 5 with fail
  have kb := k3.bad
  have kr4 := Grew.cel kb.2 kr3 (by omega)
  have kx4 := Grew.cel kb.2 kx (by omega)
  clear kr3 kx f1 c1 k3
  generalize w3.setCell _ _ = w4 at *
  go_wp2_with (first | (refine wpList_load_row rfl 26 _ rfl _ rfl 26 _ (0, 0) _ kx4 Tryz.underlying26 rfl (by kernel_rfl) ?_) | (refine wpList_store_row rfl 26 _ _ rfl _ (qv1 qn qs qd) rfl rfl 26 _ kr4 (by kernel_rfl) rfl (by kernel_rfl) ?_))
  exact post_q (p := 2) (by kernel_rfl) rfl rfl (kr4.rowS _) ⟨rfl, by rw [HQ.out]; exact kb.1.other ((Only.refl _ _).setRow _) hR, (G3.trans kb.2).row (Nat.le_refl _) _⟩
theorem lm_at (t : ByteArray) (k : Nat) (h : k < t.size) : ((t[k]'h).toNat : Int) = (lm (byts t) k : Nat) := by rw [byts_at t k h]
theorem dg3_bad : ∀ (l : List Nat) (k n : Nat), k < l.length → (lm l k < 48 ∨ 57 < lm l k) → dg3 l n = none
 | [], k, n, h, _ => by simp at h
 | c :: l, 0, n, _, hb => by rw [dg3, if_pos (by simpa [lm] using hb)]
 | c :: l, k + 1, n, h, hb => by
  rw [dg3]
  split
  ·rfl
  ·exact dg3_bad l k _ (by simpa using h) (by simpa [lm] using hb)
theorem cof_bad (t : ByteArray) (k : Nat) (h : k < t.size) (hb : lm (byts t) k < 48 ∨ 57 < lm (byts t) k) : cof t = none := by
 unfold cof
 split
 ·rfl
 ·exact dg3_bad _ k _ (by rw [byts_length]; exact h) hb
theorem rcount_qc (R : Nat) (st : RS) (m : Int) (w : World) : QC R 47 #[.pointer (some ⟨R, 0, none⟩), .int .i64 m] w st (.int .i64 (ctR m st).1) (ctR m st).2 := by
 intro hR h
 have hz := nxR_size h
 have HN := shut (rnext_qc R st w hR h)
 obtain ⟨t, ht⟩ : ∃ t, t = (nxR st).1 := ⟨_, rfl⟩
 obtain ⟨s1, hs1⟩ : ∃ t, t = (nxR st).2 := ⟨_, rfl⟩
 rw [← ht, ← hs1] at HN
 rw [← ht] at hz
 obtain ⟨V, hV⟩ : ∃ V : Nat × RS, V = ctR m st := ⟨_, rfl⟩
 rw [← hV]
 have HB2 : Hid (cof2 m t = none → V = (0, (s1.1, true))) := fun e => by rw [hV]; unfold ctR; rw [← ht, e, ← hs1]
 have HG : Hid (∀ n, cof2 m t = some n → V = (n, s1)) := fun n e => by rw [hV]; unfold ctR; rw [← ht, e, ← hs1]
 have HB : Hid (cof t = none → V = (0, (s1.1, true))) := fun e => HB2.out (by unfold cof2; rw [e]; rfl)
 clear h ht hs1 hV
 go_enter Tryz.func47, Tryz.ntmps47
 go_upto_region 2 with (go_at_call 94; refine HN.out.mono ?_; rintro e w1 ⟨rfl, k1, g1⟩)
 have f1 : w1.frozen? ⟨R, 1, none⟩ = false := k1.elim fun v hv => Cel.frozen hv.1 1
 have c1 : w1.cell? ⟨R, 1, none⟩ = some (.bool s1.2) := k1.elim fun v hv => hv.1.cell 1
 have kb := k1.bad
 have G2 := g1.trans kb.2
 have gl : Hid ((byts t).length = t.size) := byts_length t
 go_wp2_with fail
 go_loop [6, 7] (fun n i => ∃ k x : Nat, k ≤ t.size ∧ k ≤ 3 ∧ i = .int .i64 (k : Nat) ∧ n = .int .i64 (x : Nat) ∧ x < 10 ^ k ∧ Hid (dg3 (byts t) 0 = dg3 ((byts t).drop k) x)) (fun _ i => t.size - (intOf i).toNat)
 case atStart => exact ⟨0, 0, Nat.zero_le _, by omega, rfl, rfl, by decide, rfl⟩
 case round =>
  obtain ⟨k, x, hk, hk3, rfl, rfl, hx, HA⟩ := hrel
  by_cases hlt : k < t.size
  ·have hlt' : (k : Int) < (t.size : Int) := by omega
   have q1 := lm_at t k hlt
   by_cases hok : lm (byts t) k < 48 ∨ 57 < lm (byts t) k
   ·have HQ : Hid (V = (0, (s1.1, true))) := HB.out (cof_bad t k hlt hok)
    generalize lm (byts t) k = z at q1 hok
    clear HA hx HN
    by_cases y1 : z < 48
    ·have y1' : (z : Int) < 48 := by omega
     go_wp2
     go_ret
     exact ⟨by rw [HQ.out]; rfl, by rw [HQ.out]; exact kb.1, G2⟩
    ·have y1' : ¬ (z : Int) < 48 := by omega
     have y2' : (z : Int) > 57 := by omega
     go_wp2
     go_ret
     exact ⟨by rw [HQ.out]; rfl, by rw [HQ.out]; exact kb.1, G2⟩
   ·by_cases h3 : k = 3
    ·have HQ : Hid (V = (0, (s1.1, true))) := HB.out (by unfold cof; rw [if_pos (Or.inr (Or.inl (by omega)))])
     subst h3
     generalize lm (byts t) 3 = z at q1 hok
     have y1 : ¬ (z : Int) < 48 := by omega
     have y2 : ¬ (z : Int) > 57 := by omega
     clear HA hx HN
     go_wp2
     go_ret
     exact ⟨by rw [HQ.out]; rfl, by rw [HQ.out]; exact kb.1, G2⟩
    ·have hD := dg3_at t k x (by rw [gl.out]; exact hlt)
     rw [if_neg hok, ← HA.out] at hD
     have HD := shut hD
     have hp : 10 * x + (lm (byts t) k - 48) < 10 ^ (k + 1) := by rw [Nat.pow_succ]; omega
     have HP := shut hp
     have hm3 : x < 1000 := Nat.lt_of_lt_of_le hx (Nat.pow_le_pow_right (by decide) hk3)
     clear hD HA HN hp hx
     generalize lm (byts t) k = z at q1 hok HD HP
     have y1 : ¬ (z : Int) < 48 := by omega
     have y2 : ¬ (z : Int) > 57 := by omega
     have y3 : ¬ (k : Int) > 2 := by omega
     clear hok
     go_wp2
     go_round
     case rel => exact ⟨k + 1, 10 * x + (z - 48), by omega, by omega, by go_num, by congr 1; omega, HP.out, HD⟩
     case measure => simp [intOf]; omega
  ·have hke : k = t.size := by omega
   have hd : Hid (dg3 (byts t) 0 = some x) := by
    show dg3 (byts t) 0 = some x
    rw [HA.out, List.drop_of_length_le (by rw [gl.out]; omega)]
    rfl
   have hx3 : x < 1000 := Nat.lt_of_lt_of_le hx (Nat.pow_le_pow_right (by decide) hk3)
   clear HA hx HN
   by_cases h0 : t = eS
   ·have HQ : Hid (V = (0, (s1.1, true))) := HB.out (by rw [h0]; decide)
    subst h0
    go_wp2
    go_ret
    exact ⟨by rw [HQ.out]; rfl, by rw [HQ.out]; exact kb.1, G2⟩
   ·have hq : (t.toList == []) = false := neL h0
    have hs0 : 0 < t.size := by
     rcases Nat.eq_zero_or_pos t.size with h | h
     ·refine absurd ?_ h0
      obtain ⟨⟨l⟩⟩ := t
      have : l.length = 0 := h
      rw [List.eq_nil_of_length_eq_zero this]
     ·exact h
    have q0 := byts_at t 0 hs0
    by_cases hb : t.size > 1 ∧ lm (byts t) 0 = 48
    ·have HQ : Hid (V = (0, (s1.1, true))) := HB.out (by unfold cof; rw [if_pos (Or.inr (Or.inr ⟨hb.2, hb.1⟩))])
     obtain ⟨h1, h2⟩ := hb
     have g1 : (t.size : Int) > 1 := by omega
     rw [h2] at q0
     have g2 : t[0]'hs0 = 48 := UInt8.toNat.inj q0
     clear q0 h2
     go_wp2
     go_ret
     exact ⟨by rw [HQ.out]; rfl, by rw [HQ.out]; exact kb.1, G2⟩
    ·have hc : cof t = some x := by unfold cof; rw [if_neg (by omega)]; exact hd.out
     have hcase : ¬ (t.size : Int) > 1 ∨ ((t.size : Int) > 1 ∧ ¬ ((t[0]'hs0).toNat : Int) = 48 ∧ ¬ t[0]'hs0 = 48) := by
      by_cases h : (t.size : Int) > 1
      ·refine Or.inr ⟨h, ?_, ?_⟩
       ·intro e; exact hb ⟨by omega, by omega⟩
       ·intro e; rw [e] at q0; exact hb ⟨by omega, q0.symm⟩
      ·exact Or.inl h
     by_cases hm : (x : Int) ≤ m
     ·have HQ : Hid (V = (x, s1)) := HG.out x (by unfold cof2; rw [hc]; simp [Option.filter, hm])
      have hm' : ¬ (x : Int) > m := by omega
      clear q0 hb hc hd
      rcases hcase with h1 | ⟨h1, h2, h3⟩
      all_goals
       go_wp2
       go_ret
       exact ⟨by rw [HQ.out]; rfl, by rw [HQ.out]; exact k1, g1⟩
     ·have HQ : Hid (V = (0, (s1.1, true))) := HB2.out (by unfold cof2; rw [hc]; simp [Option.filter, hm])
      have hm' : (x : Int) > m := by omega
      clear q0 hb hc hd
      rcases hcase with h1 | ⟨h1, h2, h3⟩
      all_goals
       go_wp2
       go_ret
       exact ⟨by rw [HQ.out]; rfl, by rw [HQ.out]; exact kb.1, G2⟩
def RpI {α : Type} (f : RS → α × RS) (n : Nat) (st : RS) (k : Nat) (D : List α) (s1 : RS) : Prop := repR f n st = (D ++ (repR f (n - k) s1).1, (repR f (n - k) s1).2)
theorem RpI.step {α : Type} {f : RS → α × RS} {n : Nat} {st : RS} {k : Nat} {D : List α} {s1 : RS} (h : RpI f n st k D s1) (hk : k < n) (hb : s1.2 = false) : RpI f n st (k + 1) (D ++ [(f s1).1]) (f s1).2 := by
 unfold RpI at h ⊢
 rw [h, show n - k = (n - (k + 1)) + 1 by omega, repR, if_neg (by rw [hb]; decide)]
 simp
theorem RpI.stop {α : Type} {f : RS → α × RS} {n : Nat} {st : RS} {k : Nat} {D : List α} {s1 : RS} (h : RpI f n st k D s1) (hk : n ≤ k ∨ s1.2 = true) : repR f n st = (D, s1) := by
 unfold RpI at h
 rw [h]
 rcases hk with hk | hk
 ·rw [show n - k = 0 by omega]; simp [repR]
 ·cases n - k with
  | zero => simp [repR]
  | succ m => simp [repR, hk]
theorem RfR.grown {R : Nat} {st : RS} {w w' : World} (h : RfR w R st) {B : Nat} {row : Option Nat} (hB : R < B) (hg : w.grownBy w' row) (hr : ∀ k, row = some k → B ≤ k) : RfR w' R st := by
 obtain ⟨v, kr, hv, hz⟩ := h
 have kk : ∀ b, b ≤ R → b < w.heap.size → w'.heap[b]? = w.heap[b]? := fun b hb hl => hg.block b hl (fun e => by have := hr b e.symm; omega)
 refine ⟨v, ?_, ?_, hz⟩
 ·unfold Cel at kr ⊢; rw [kk R (Nat.le_refl _) (Cel.lt kr)]; exact kr
 ·rcases hv with h | ⟨A, o, c, h1, h2, h3, h4, h5⟩
  ·exact Or.inl h
  ·exact Or.inr ⟨A, o, c, h1, h2, h3, fun j hj => by rw [World.cell?_of_block (kk A (by omega) (by have := Cel.lt kr; omega))]; exact h4 j hj, h5⟩
theorem rpoints_qc (P : ByteArray → Q3) (E : ByteArray → Int) (hP : PR3 P E) (R : Nat) (st : RS) (n : Nat) (hn : n ≤ 1000) (w : World) (hR : R < w.heap.size) (h : RfR w R st) :
  Calls Tryz.prog 46 #[.pointer (some ⟨R, 0, none⟩), .int .i64 (n : Nat)] w fun e w' => ∃ v, e = .returned v ∧
   w'.ownsRow w.heap.size 30 6 v (repR (ptR P E) n st).1.length ((repR (ptR P E) n st).1.flatMap cP) ∧ RfR w' R (repR (ptR P E) n st).2 ∧ Grew R w w' := by
 have HN := shut (fun w1 st1 => rnumber_qc P E hP R st1 w1)
 go_enter Tryz.func46, Tryz.ntmps46
 go_wp2_with fail
 go_loopw [5, 6] (fun v i wr => ∃ (k : Nat) (D : List (Q3 × Q3)) (s1 : RS), k ≤ n ∧ i = .int .i64 (k : Nat) ∧ wr.ownsRow w.heap.size 30 6 v D.length (D.flatMap cP) ∧ D.length ≤ k ∧ RfR wr R s1 ∧ Grew R w wr ∧ Hid (RpI (ptR P E) n st k D s1)) (fun _ i _ => n - (intOf i).toNat)
 case atStart => exact ⟨0, [], st, Nat.zero_le _, rfl, World.ownsRow_nil _ _ _ _, Nat.le_refl _, h, Grew.refl _ _, rfl⟩
 case round =>
  obtain ⟨k, D, s1, hk, rfl, ho, hD, kr, G, HI⟩ := hrel
  have c1 : wr.cell? ⟨R, 1, none⟩ = some (.bool s1.2) := kr.elim fun v hv => hv.1.cell 1
  by_cases hgo : k < n ∧ s1.2 = false
  ·obtain ⟨hlt, hb⟩ := hgo
   have hlt' : (k : Int) < (n : Int) := by omega
   have HS := shut (HI.out.step hlt hb)
   rw [hb] at c1
   obtain ⟨q, hq⟩ : ∃ q, q = (nuR P E s1).1 := ⟨_, rfl⟩
   obtain ⟨s2, hs2⟩ : ∃ q, q = (nuR P E s1).2 := ⟨_, rfl⟩
   obtain ⟨r, hr⟩ : ∃ q, q = (nuR P E s2).1 := ⟨_, rfl⟩
   obtain ⟨s3, hs3⟩ : ∃ q, q = (nuR P E s2).2 := ⟨_, rfl⟩
   have hp : ptR P E s1 = ((q, r), s3) := by unfold ptR; rw [← hq, ← hs2, ← hr, ← hs3]
   rw [hp] at HS
   have N1 := HN.out wr s1 (Nat.lt_of_lt_of_le hR G.size) kr
   rw [← hq, ← hs2] at N1
   have N2 := shut (fun w1 (hl : R < w1.heap.size) (k2 : RfR w1 R s2) => HN.out w1 s2 hl k2)
   rw [← hr, ← hs3] at N2
   obtain ⟨qn, qs, qd⟩ := q
   obtain ⟨rn, rs, rd⟩ := r
   clear hq hs2 hr hs3 hp HI hb
   go_upto_region 6 with (go_at_call 95; refine N1.mono ?_; rintro e w3 ⟨rfl, k3, g3⟩)
   obtain ⟨w4, hq, kx, b4⟩ := mk1 w3 (ql1 qn qs qd) 26
   rw [← hq]
   clear hq
   have hR3 := Nat.lt_of_lt_of_le hR (Nat.le_trans G.size g3.size)
   have k4 := RfR.grew k3 hR3 b4
   have hR4 := Nat.lt_of_lt_of_le hR3 b4.size
   go_upto_region 7 with (go_at_call 95; refine (N2.out _ hR4 k4).mono ?_; rintro e w5 ⟨rfl, k5, g5⟩)
   obtain ⟨w6, hq, ky, b6⟩ := mk1 w5 (ql1 rn rs rd) 26
   rw [← hq]
   clear hq
   have kx6 := (Grew.cel g5 kx (by omega)).below b6
   have k6 := RfR.grew k5 (Nat.lt_of_lt_of_le hR4 g5.size) b6
   have G6 := (((G.trans g3).trans (Below.grew b4)).trans g5).trans (Below.grew b6)
   have ho6 := own_grew ho (((g3.trans (Below.grew b4)).trans g5).trans (Below.grew b6)) hR
   clear N1 N2 k3 k4 k5 g3 g5 b4 b6 kx ho G kr c1
   go_wp2_with (first | (refine wpList_load_row rfl 26 _ rfl _ rfl 26 _ (0, 0) _ kx6 Tryz.underlying26 rfl (by kernel_rfl) ?_) | (refine wpList_load_row rfl 26 _ rfl _ rfl 26 _ (0, 0) _ ky Tryz.underlying26 rfl (by kernel_rfl) ?_) | (refine wpList_ap1 43 30 ((qa2 false eS eS false eS eS)) 6 80 Tryz.underlying43 (by kernel_rfl) rfl (by decide) (by decide) rfl (.tmp 25) (.tmp 29) rfl _ D.length _ rfl w.heap.size (ho6.alloc _) (Nat.le_trans G6.size (by simp)) w6.heap.size 1 rfl (ql2 qn qs qd rn rs rd) 30 (Cel.new _ _ _) rfl (by simp [Value.oneCell']) (by omega) ?_; intro v' w7 h7 g7))
   go_roundw
   case rel =>
    have ho3 := ho6.alloc (.cells (qv2 qn qs qd rn rs rd) 30)
    have b7 := (Below.refl w6.heap.size w6).alloc (Nat.le_refl _) (.cells (qv2 qn qs qd rn rs rd) 30)
    refine ⟨k + 1, D ++ [((qn, qs, qd), rn, rs, rd)], s3, by omega, by go_num, ?_, by simp; omega, ?_, (G6.trans (Below.grew b7)).grown g7 (fun g hg => (ho3.lt g hg).1), HS⟩
    ·rw [List.length_append, List.flatMap_append]
     exact h7
    ·exact (k6.grew (Nat.lt_of_lt_of_le hR G6.size) b7).grown hR g7 (fun g hg => (ho3.lt g hg).1)
   case measure => simp [intOf]; omega
  ·have hst := HI.out.stop (show n ≤ k ∨ s1.2 = true by
    cases hb : s1.2 with
    | true => exact Or.inr rfl
    | false => exact Or.inl (Nat.le_of_not_lt fun h => hgo ⟨h, hb⟩))
   have HST := shut hst
   have hcase : (k : Int) < (n : Int) ∧ s1.2 = true ∨ ¬ (k : Int) < (n : Int) := by
    by_cases h : k < n
    ·refine Or.inl ⟨by omega, ?_⟩
     cases hb : s1.2 with
     | true => rfl
     | false => exact absurd ⟨h, hb⟩ hgo
    ·exact Or.inr (by omega)
   clear hst HI hgo HN
   rcases hcase with ⟨h1, h2⟩ | h1
   ·rw [h2] at c1
    go_wp2
    go_ret
    exact ⟨_, rfl, by rw [HST.out]; exact ho, by rw [HST.out]; exact kr, G⟩
   ·go_wp2
    go_ret
    exact ⟨_, rfl, by rw [HST.out]; exact ho, by rw [HST.out]; exact kr, G⟩
theorem rep6A (f : RS → Q3 × RS) (s : RS) : ∃ (x : Nat → Q3) (t : Nat → RS), t 0 = s ∧ (∀ k, k < 6 → f (t k) = (x k, t (k + 1))) ∧ (repA f 6 s).1 = [x 0, x 1, x 2, x 3, x 4, x 5] ∧ (repA f 6 s).2 = t 6 :=
 ⟨fun k => (f (repA f k s).2).1, fun k => (repA f k s).2, rfl, fun k _ => by show _ = (_, (repA f (k + 1) s).2); rw [repA_snoc], rfl, rfl⟩
theorem RfR.only {R g : Nat} {st : RS} {w w' : World} (h : RfR w R st) (hg : R < g) (k : Only g w w') : RfR w' R st := by
 obtain ⟨v, kr, hv, hz⟩ := h
 have kk : ∀ b, b ≤ R → b < w.heap.size → w'.heap[b]? = w.heap[b]? := fun b hb _ => k.block b (by omega)
 refine ⟨v, ?_, ?_, hz⟩
 ·unfold Cel at kr ⊢; rw [kk R (Nat.le_refl _) (Cel.lt kr)]; exact kr
 ·rcases hv with h | ⟨A, o, c, h1, h2, h3, h4, h5⟩
  ·exact Or.inl h
  ·exact Or.inr ⟨A, o, c, h1, h2, h3, fun j hj => by rw [World.cell?_of_block (kk A (by omega) (by have := Cel.lt kr; omega))]; exact h4 j hj, h5⟩
theorem rpoly_qc (P : ByteArray → Q3) (E : ByteArray → Int) (hP : PR3 P E) (R : Nat) (w : World) (x : Nat → Q3) (t : Nat → RS) (ht : ∀ k, k < 6 → nuR P E (t k) = (x k, t (k + 1))) :
  QC R 49 #[.pointer (some ⟨R, 0, none⟩)] w (t 0) (vF x) (t 6) := by
 intro hR h
 have HN := shut (fun (k : Nat) (hk : k < 6) w1 (hl : R < w1.heap.size) (hr : RfR w1 R (t k)) => by
  have := rnumber_qc P E hP R (t k) w1 hl hr
  rw [ht k hk] at this
  exact this)
 clear ht
 go_enter Tryz.func49, Tryz.ntmps49
 go_upto_region 1 with fail
 obtain ⟨w0, hq, kr, b0⟩ := mk1 w (ql6 false eS eS false eS eS false eS eS false eS eS false eS eS false eS eS) 28
 rw [← hq]
 clear hq
 go_upto_region 2 with fail
 obtain ⟨w2, hq, kf, b2⟩ := mk1 w0 (ql6 false eS eS false eS eS false eS eS false eS eS false eS eS false eS eS) 28
 rw [← hq]
 clear hq
 obtain ⟨g, hg⟩ : ∃ g, g = w0.heap.size := ⟨_, rfl⟩
 rw [← hg] at kf ⊢
 have kf : Cel w2 g (f18 x 0) 28 := kf
 have hg2 : w.heap.size < g := by rw [hg]; exact kr.lt
 have G2 := (Grew.refl R w).trans ((Below.grew b0).trans (Below.grew b2))
 have k2 := (RfR.grew h hR b0).grew (Nat.lt_of_lt_of_le hR b0.size) b2
 have kr2 := kr.below b2
 clear kr b0 b2 hg h
 go_wp2_with fail
 go_loopw [4] (fun i wr => ∃ k : Nat, k ≤ 6 ∧ i = .int .i64 (k : Nat) ∧ Cel wr g (f18 x k) 28 ∧ Cel wr w.heap.size (ql6 false eS eS false eS eS false eS eS false eS eS false eS eS false eS eS) 28 ∧ RfR wr R (t k) ∧ Grew R w wr) (fun i _ => 6 - (intOf i).toNat)
 case atStart => exact ⟨0, Nat.zero_le _, rfl, kf, kr2, k2, G2⟩
 case round =>
  obtain ⟨k, hk, rfl, kf, kr, kk, G⟩ := hrel
  by_cases hlt : k < 6
  ·have hlt' : (k : Int) < 6 := by omega
   have N1 := HN.out k hlt wr (Nat.lt_of_lt_of_le hR G.size) kk
   have HS := shut (f18_set x k hlt)
   generalize x k = q at *
   obtain ⟨qn, qs, qd⟩ := q
   go_wp2_with (go_at_call 95; refine N1.mono ?_; rintro e w3 ⟨rfl, k3, g3⟩; have kf3 := Grew.cel g3 kf (by omega); have c0 : w3.cell? ⟨g, k * 3, none⟩ = some (fx x k (k * 3)) := (kf3.cell _).trans (f18_get x k _ (by omega)); have c1 : w3.cell? ⟨g, k * 3 + 1, none⟩ = some (fx x k (k * 3 + 1)) := (kf3.cell _).trans (f18_get x k _ (by omega)); have c2 : w3.cell? ⟨g, k * 3 + 2, none⟩ = some (fx x k (k * 3 + 2)) := (kf3.cell _).trans (f18_get x k _ (by omega)); have f0 := Cel.frozen kf3 (k * 3); have f1 := Cel.frozen kf3 (k * 3 + 1); have f2 := Cel.frozen kf3 (k * 3 + 2))
   go_roundw
   case rel =>
    have kr3 := Grew.cel g3 kr (by omega)
    refine ⟨k + 1, by omega, by go_num, ?_, ?_, ?_, ?_⟩
    ·rw [← HS.out]; exact ((kf3.set _ _).set _ _).set _ _
    ·exact ((kr3.other (by omega) _ _).other (by omega) _ _).other (by omega) _ _
    ·exact k3.only (by omega) ((((Only.refl g w3).setCell _ _).setCell _ _).setCell _ _)
    ·exact (G.trans g3).only ((((Only.refl g w3).setCell _ _).setCell _ _).setCell _ _) (by omega)
   case measure => simp [intOf]; omega
  ·have hke : k = 6 := by omega
   subst hke
   go_wp2_with (first | (refine wpList_load_row rfl 28 _ rfl _ rfl 28 _ (0, 0) _ kf Tryz.underlying28 rfl (by kernel_rfl) ?_) | (refine wpList_store_row rfl 28 _ _ rfl _ (f18 x 6).toArray rfl rfl 28 _ kr (by kernel_rfl) rfl (by kernel_rfl) ?_))
   refine ⟨rfl, vF x, results_cell_row (P := Tryz.prog) (p := 2) (by kernel_rfl) _ _ _ 28 (f18 x 6).toArray (0, 0) _ rfl (kr.rowS _) Tryz.underlying28 rfl (by kernel_rfl), ⟨rfl, kk.only hR ((Only.refl _ _).setRow _), G.row (Nat.le_refl _) _⟩⟩
theorem ctR_lt (m : Int) (st : RS) : (ctR m st).1 < 1000 := by
 unfold ctR
 split
 ·rename_i n h
  unfold cof2 at h
  rw [Option.filter_eq_some_iff] at h
  exact cof_lt h.1
 ·exact Nat.zero_lt_succ _
theorem repR_len {α : Type} (f : RS → α × RS) : ∀ (n : Nat) (st : RS) (m : Nat), n ≤ m → (repR f n st).1.length ≤ m
 | 0, _, _, _ => Nat.zero_le _
 | n + 1, st, m, h => by
  rw [repR]
  split
  ·exact Nat.zero_le _
  ·rw [List.length_cons]
   have := repR_len f n (f st).2 (m - 1) (by omega)
   omega
theorem TL.of {R B : Nat} {w w' : World} {v : Value} {ts : List ByteArray} (h : w.ownsRow B 9 1 v ts.length (ts.map Value.string)) (hR : w.heap.size ≤ R) (hl : ts.length ≤ 100000) (k : Below w.heap.size w w') : TL R w' v ts := by
 have hc := fun g hg => h.cells (g := g) hg
 have hlt := h.lt
 rcases h.2 with ⟨rfl, hn⟩ | ⟨g, cap, cur, rfl, hb, hg, hcap, -⟩
 ·have : ts = [] := List.length_eq_zero_iff.mp hn
  subst this
  exact Or.inl ⟨rfl, none, 0, rfl⟩
 ·refine Or.inr ⟨g, 0, cap, rfl, hcap, Nat.lt_of_lt_of_le (hlt g rfl).2 hR, fun j hj => ?_, hl⟩
  have h1 := hc g rfl j (.string (nt ts j)) (by rw [List.getElem?_map, List.getElem?_eq_getElem hj]; unfold nt; rw [List.getD_eq_getElem?_getD, List.getElem?_eq_getElem hj]; rfl)
  rw [show (⟨g, 0, none⟩ : Addr).add j = ⟨g, 0 + j, none⟩ by simp [Addr.add]; omega] at h1
  exact cell_below h1 k
structure RQ (w : World) (R Pb : Nat) (st : RS) (cs : List Value) (wi : World) : Prop where
 hR : R < wi.heap.size
 rdr : RfR wi R st
 kp : Cel wi Pb cs 46
 kz : Cel wi w.heap.size Z39 46
 bw : Below w.heap.size w wi
 hZ : w.heap.size < R
 hP : R < Pb
theorem RQ.grew {w : World} {R Pb : Nat} {st st' : RS} {cs : List Value} {wi wj : World} (h : RQ w R Pb st cs wi) (k : Grew R wi wj) (hr : RfR wj R st') : RQ w R Pb st' cs wj :=
 ⟨Nat.lt_of_lt_of_le h.hR k.size, hr, k.cel h.kp (by have := h.hP; omega), k.cel h.kz (by have := h.hZ; omega), k.below h.bw (by have := h.hZ; omega) (by have := h.hZ; have := h.hR; omega), h.hZ, h.hP⟩
theorem RQ.only {w : World} {R Pb : Nat} {st : RS} {cs cs' : List Value} {wi wj : World} (h : RQ w R Pb st cs wi) (k : Only Pb wi wj) (hc : Cel wj Pb cs' 46) : RQ w R Pb st cs' wj := by
 have hP := h.hP
 have hZ := h.hZ
 exact ⟨Nat.lt_trans hP hc.lt, h.rdr.only (by omega) k, hc, k.cel h.kz (by omega), k.below h.bw (by omega), hZ, hP⟩
theorem RQ.set {w : World} {R Pb : Nat} {st : RS} {cs : List Value} {wi : World} (h : RQ w R Pb st cs wi) (j : Nat) (v : Value) : RQ w R Pb st (cs.set j v) (wi.setCell ⟨Pb, j, none⟩ v) :=
 h.only ((Only.refl Pb wi).setCell j v) (h.kp.set j v)
theorem RQ.mid {w : World} {R Pb : Nat} {st : RS} {cs : List Value} {wi : World} (h : RQ w R Pb st cs wi) (o : Nat) (vs : List Value) : RQ w R Pb st (updC cs o vs) (wi.setCells Pb o vs) :=
 h.only (onlyS vs (Only.refl Pb wi) o) (celS vs h.kp o)
theorem RQ.drew {w : World} {R Pb : Nat} {st : RS} {cs : List Value} {wi : World} (h : RQ w R Pb st cs wi) : RQ w R Pb st cs wi.drew := h.grew Grew.drew' (h.rdr.grew h.hR (bdrew wi))
theorem rsegs_qc (R : Nat) (st : RS) (n : Nat) (hn : n ≤ 1000) (m : Int) (hm0 : 0 ≤ m) (hm1 : m ≤ 1000000) (w : World) (hR : R < w.heap.size) (h : RfR w R st) :
  Calls Tryz.prog 48 #[.pointer (some ⟨R, 0, none⟩), .int .i64 (n : Nat), .int .i64 m] w fun e w' => ∃ v, e = .returned v ∧
   w'.ownsRow w.heap.size 103 3 v (repR (sgR (m - 1)) n st).1.length ((repR (sgR (m - 1)) n st).1.flatMap cS) ∧ RfR w' R (repR (sgR (m - 1)) n st).2 ∧ Grew R w w' := by
 have HN := shut (fun w1 st1 => rcount_qc R st1 (m - 1) w1)
 have HX := shut (fun w1 st1 => rnext_qc R st1 w1)
 go_enter Tryz.func48, Tryz.ntmps48
 go_wp2_with fail
 go_loopw [7, 8] (fun v i wr => ∃ (k : Nat) (D : List (Nat × Nat × Bool)) (s1 : RS), k ≤ n ∧ i = .int .i64 (k : Nat) ∧ wr.ownsRow w.heap.size 103 3 v D.length (D.flatMap cS) ∧ D.length ≤ k ∧ RfR wr R s1 ∧ Grew R w wr ∧ Hid (RpI (sgR (m - 1)) n st k D s1)) (fun _ i _ => n - (intOf i).toNat)
 case atStart => exact ⟨0, [], st, Nat.zero_le _, rfl, World.ownsRow_nil _ _ _ _, Nat.le_refl _, h, Grew.refl _ _, rfl⟩
 case round =>
  obtain ⟨k, D, s1, hk, rfl, ho, hD, kr, G, HI⟩ := hrel
  have c1 : wr.cell? ⟨R, 1, none⟩ = some (.bool s1.2) := kr.elim fun v hv => hv.1.cell 1
  by_cases hgo : k < n ∧ s1.2 = false
  ·obtain ⟨hlt, hb⟩ := hgo
   have hlt' : (k : Int) < (n : Int) := by omega
   have HS := shut (HI.out.step hlt hb)
   rw [hb] at c1
   obtain ⟨x, hx⟩ : ∃ q, q = (ctR (m - 1) s1).1 := ⟨_, rfl⟩
   obtain ⟨s2, hs2⟩ : ∃ q, q = (ctR (m - 1) s1).2 := ⟨_, rfl⟩
   obtain ⟨y, hy⟩ : ∃ q, q = (ctR (m - 1) s2).1 := ⟨_, rfl⟩
   obtain ⟨s3, hs3⟩ : ∃ q, q = (ctR (m - 1) s2).2 := ⟨_, rfl⟩
   obtain ⟨t, ht⟩ : ∃ q, q = (nxR s3).1 := ⟨_, rfl⟩
   obtain ⟨s4, hs4⟩ : ∃ q, q = (nxR s3).2 := ⟨_, rfl⟩
   have hp : sgR (m - 1) s1 = ((x, y, decide (t = tD)), (s4.1, s4.2 || decide (t ≠ tD ∧ t ≠ tN))) := by unfold sgR kdR; rw [← hx, ← hs2, ← hy, ← hs3, ← ht, ← hs4]
   rw [hp] at HS
   have N1 := HN.out wr s1 (Nat.lt_of_lt_of_le hR G.size) kr
   rw [← hx, ← hs2] at N1
   have N2 := shut (fun w1 (hl : R < w1.heap.size) (k2 : RfR w1 R s2) => HN.out w1 s2 hl k2)
   rw [← hy, ← hs3] at N2
   have N3 := shut (fun w1 (hl : R < w1.heap.size) (k2 : RfR w1 R s3) => HX.out w1 s3 hl k2)
   rw [← ht, ← hs4] at N3
   clear hx hs2 hy hs3 ht hs4 hp HI hb
   go_upto_region 6 with (go_at_call 47; refine N1.mono ?_; rintro e w3 ⟨rfl, k3, g3⟩)
   have G3 := G.trans g3
   go_upto_region 7 with (go_at_call 47; refine (N2.out _ (Nat.lt_of_lt_of_le hR G3.size) k3).mono ?_; rintro e w4 ⟨rfl, k4, g4⟩)
   have G4 := G3.trans g4
   go_upto_region 8 with (go_at_call 94; refine (N3.out _ (Nat.lt_of_lt_of_le hR G4.size) k4).mono ?_; rintro e w5 ⟨rfl, k5, g5⟩)
   have G5 := G4.trans g5
   have ho5 := own_grew ho ((g3.trans g4).trans g5) hR
   clear N1 N2 N3 k3 k4 g3 g4 g5 G3 G4 ho G kr c1
   by_cases hd : t = tD
   ·replace HS : Hid (RpI (sgR (m - 1)) n st (k + 1) (D ++ [(x, y, true)]) s4) := by
     have := HS.out
     rw [show decide (t = tD) = true from decide_eq_true hd, show decide (t ≠ tD ∧ t ≠ tN) = false from decide_eq_false (fun h => h.1 hd), Bool.or_false] at this
     exact this
    subst hd
    have G6 := G5
    have ho6 := ho5
    clear G5 ho5
    go_wp2_with (refine wpList_ap1 44 103 (.agg #[.int .i64 0, .int .i64 0, .bool false]) 3 24 Tryz.underlying44 (by kernel_rfl) rfl (by decide) (by decide) rfl (.tmp 43) (.tmp 49) rfl _ D.length _ rfl w.heap.size (ho6.alloc _) (Nat.le_trans G6.size (by simp)) w5.heap.size 1 rfl [.int .i64 (x : Nat), .int .i64 (y : Nat), .bool true] 103 (Cel.new _ _ _) rfl (by simp [Value.oneCell']) (by omega) ?_; intro v' w7 h7 g7)
    go_roundw
    case rel =>
     have ho3 := ho6.alloc (.cells #[.int .i64 (x : Nat), .int .i64 (y : Nat), .bool true] 103)
     have b7 := (Below.refl w5.heap.size w5).alloc (Nat.le_refl _) (.cells #[.int .i64 (x : Nat), .int .i64 (y : Nat), .bool true] 103)
     refine ⟨k + 1, D ++ [(x, y, true)], s4, by omega, by go_num, ?_, by simp; omega, ?_, (G6.trans (Below.grew b7)).grown g7 (fun g hg => (ho3.lt g hg).1), HS⟩
     ·rw [List.length_append, List.flatMap_append]
      exact h7
     ·exact (k5.grew (Nat.lt_of_lt_of_le hR G6.size) b7).grown hR g7 (fun g hg => (ho3.lt g hg).1)
    case measure => simp [intOf]; omega
   ·have q1 : (t.toList == [100]) = false := neL hd
    by_cases hn' : t = tN
    ·replace HS : Hid (RpI (sgR (m - 1)) n st (k + 1) (D ++ [(x, y, false)]) s4) := by
      have := HS.out
      rw [show decide (t = tD) = false from decide_eq_false hd, show decide (t ≠ tD ∧ t ≠ tN) = false from decide_eq_false (fun h => h.2 hn'), Bool.or_false] at this
      exact this
     subst hn'
     have G6 := G5
     have ho6 := ho5
     clear G5 ho5 q1 hd
     go_wp2_with (refine wpList_ap1 44 103 (.agg #[.int .i64 0, .int .i64 0, .bool false]) 3 24 Tryz.underlying44 (by kernel_rfl) rfl (by decide) (by decide) rfl (.tmp 43) (.tmp 49) rfl _ D.length _ rfl w.heap.size (ho6.alloc _) (Nat.le_trans G6.size (by simp)) w5.heap.size 1 rfl [.int .i64 (x : Nat), .int .i64 (y : Nat), .bool false] 103 (Cel.new _ _ _) rfl (by simp [Value.oneCell']) (by omega) ?_; intro v' w7 h7 g7)
     go_roundw
     case rel =>
      have ho3 := ho6.alloc (.cells #[.int .i64 (x : Nat), .int .i64 (y : Nat), .bool false] 103)
      have b7 := (Below.refl w5.heap.size w5).alloc (Nat.le_refl _) (.cells #[.int .i64 (x : Nat), .int .i64 (y : Nat), .bool false] 103)
      refine ⟨k + 1, D ++ [(x, y, false)], s4, by omega, by go_num, ?_, by simp; omega, ?_, (G6.trans (Below.grew b7)).grown g7 (fun g hg => (ho3.lt g hg).1), HS⟩
      ·rw [List.length_append, List.flatMap_append]
       exact h7
      ·exact (k5.grew (Nat.lt_of_lt_of_le hR G6.size) b7).grown hR g7 (fun g hg => (ho3.lt g hg).1)
     case measure => simp [intOf]; omega
    ·have q2 : (t.toList == [110]) = false := neL hn'
     replace HS : Hid (RpI (sgR (m - 1)) n st (k + 1) (D ++ [(x, y, false)]) (s4.1, true)) := by
      have := HS.out
      rw [show decide (t = tD) = false from decide_eq_false hd, show decide (t ≠ tD ∧ t ≠ tN) = true from decide_eq_true ⟨hd, hn'⟩, Bool.or_true] at this
      exact this
     have f1 : w5.frozen? ⟨R, 1, none⟩ = false := k5.elim fun v hv => Cel.frozen hv.1 1
     have c5 : w5.cell? ⟨R, 1, none⟩ = some (.bool s4.2) := k5.elim fun v hv => hv.1.cell 1
     go_upto_region 10 with fail
     obtain ⟨k6, g6⟩ := k5.bad
     have G6 := G5.trans g6
     have ho6 := own_grew ho5 g6 hR
     clear G5 ho5 hd hn' f1 c5 k5 g6
     generalize w5.setCell _ _ = w6 at *
     go_wp2_with (refine wpList_ap1 44 103 (.agg #[.int .i64 0, .int .i64 0, .bool false]) 3 24 Tryz.underlying44 (by kernel_rfl) rfl (by decide) (by decide) rfl (.tmp 43) (.tmp 49) rfl _ D.length _ rfl w.heap.size (ho6.alloc _) (Nat.le_trans G6.size (by simp)) w6.heap.size 1 rfl [.int .i64 (x : Nat), .int .i64 (y : Nat), .bool false] 103 (Cel.new _ _ _) rfl (by simp [Value.oneCell']) (by omega) ?_; intro v' w7 h7 g7)
     go_roundw
     case rel =>
      have ho3 := ho6.alloc (.cells #[.int .i64 (x : Nat), .int .i64 (y : Nat), .bool false] 103)
      have b7 := (Below.refl w6.heap.size w6).alloc (Nat.le_refl _) (.cells #[.int .i64 (x : Nat), .int .i64 (y : Nat), .bool false] 103)
      refine ⟨k + 1, D ++ [(x, y, false)], (s4.1, true), by omega, by go_num, ?_, by simp; omega, ?_, (G6.trans (Below.grew b7)).grown g7 (fun g hg => (ho3.lt g hg).1), HS⟩
      ·rw [List.length_append, List.flatMap_append]
       exact h7
      ·exact (k6.grew (Nat.lt_of_lt_of_le hR G6.size) b7).grown hR g7 (fun g hg => (ho3.lt g hg).1)
     case measure => simp [intOf]; omega
  ·have hst := HI.out.stop (show n ≤ k ∨ s1.2 = true by
    cases hb : s1.2 with
    | true => exact Or.inr rfl
    | false => exact Or.inl (Nat.le_of_not_lt fun h => hgo ⟨h, hb⟩))
   have HST := shut hst
   have hcase : (k : Int) < (n : Int) ∧ s1.2 = true ∨ ¬ (k : Int) < (n : Int) := by
    by_cases h : k < n
    ·refine Or.inl ⟨by omega, ?_⟩
     cases hb : s1.2 with
     | true => rfl
     | false => exact absurd ⟨h, hb⟩ hgo
    ·exact Or.inr (by omega)
   clear hst HI hgo HN HX
   rcases hcase with ⟨h1, h2⟩ | h1
   ·rw [h2] at c1
    go_wp2
    go_ret
    exact ⟨_, rfl, by rw [HST.out]; exact ho, by rw [HST.out]; exact kr, G⟩
   ·go_wp2
    go_ret
    exact ⟨_, rfl, by rw [HST.out]; exact ho, by rw [HST.out]; exact kr, G⟩
theorem built39 (f : Nat × Operand → Nat × Value) : (Tryz.prog.built 46 ((#[] : Array (Nat × Operand)).map f).toList).getD #[] = #[nilS, nilS, nilS, .bool false, .string eS, .string eS, .bool false, .string eS, .string eS, .bool false, .string eS, .string eS, .bool false, .string eS, .string eS, .bool false, .string eS, .string eS, .bool false, .string eS, .string eS, .bool false, .string eS, .string eS, .bool false, .string eS, .string eS, .bool false, .string eS, .string eS, .bool false, .string eS, .string eS, .bool false, .string eS, .string eS, .bool false, .string eS, .string eS] := by kernel_rfl
theorem rparse_ok (P : ByteArray → Q3) (E : ByteArray → Int) (hP : PR3 P E) (s : ByteArray) (w : World) (hs : s.size ≤ 20000) :
  Calls Tryz.prog 19 #[.string s] w fun e w' => ∃ cs : List Value, e = .returned (.tuple #[.agg cs.toArray, .int .i64 (if q6 P E (toks s) = ([], false) then 0 else 4)]) ∧
   PlanAt w' w.heap.size cs (if q6 P E (toks s) = ([], false) then qpl P E (toks s) else zPl) ∧ Below w.heap.size w w' := by
 have hs' : ¬ (s.size : Int) > 20000 := by omega
 have htl : (toks s).length ≤ 100000 := by have := tk_len s s.size 0 0; unfold toks; omega
 have htz : ∀ t, t ∈ toks s → t.size ≤ 100000 := fun t h => by have := tk_size s t _ _ _ h; omega
 go_enter Tryz.func19, Tryz.ntmps19
 go_upto_region 1 with fail
 obtain ⟨w0, hq, kz, b0⟩ := mk1 w [nilS, nilS, nilS, .bool false, .string eS, .string eS, .bool false, .string eS, .string eS, .bool false, .string eS, .string eS, .bool false, .string eS, .string eS, .bool false, .string eS, .string eS, .bool false, .string eS, .string eS, .bool false, .string eS, .string eS, .bool false, .string eS, .string eS, .bool false, .string eS, .string eS, .bool false, .string eS, .string eS, .bool false, .string eS, .string eS, .bool false, .string eS, .string eS] 46
 rw [← hq]
 clear hq
 go_upto_region 4 with (go_at_call 44; refine (tokens_any s _ (by omega)).mono ?_; rintro e w1 ⟨v, rfl, ho, b1⟩; obtain ⟨aT, mT, rfl⟩ := own_val ho)
 have ts0 := kz.lt
 obtain ⟨w2, hq, kr, b2⟩ := mk1 w1 [.slice aT (toks s).length mT, .bool false] 94
 rw [← hq]
 have E2 : Hid (w2.heap.size = w1.heap.size + 1) := by show w2.heap.size = _; rw [hq]; simp
 clear hq
 have hTL := TL.of ho (Nat.le_refl _) htl b2
 go_upto_region 5 with fail
 obtain ⟨w3, hq, kp, b3⟩ := mk1 w2 [nilS, nilS, nilS, .bool false, .string eS, .string eS, .bool false, .string eS, .string eS, .bool false, .string eS, .string eS, .bool false, .string eS, .string eS, .bool false, .string eS, .string eS, .bool false, .string eS, .string eS, .bool false, .string eS, .string eS, .bool false, .string eS, .string eS, .bool false, .string eS, .string eS, .bool false, .string eS, .string eS, .bool false, .string eS, .string eS, .bool false, .string eS, .string eS] 46
 rw [← hq]
 clear hq
 obtain ⟨ts, hts⟩ : ∃ ts, ts = toks s := ⟨_, rfl⟩
 rw [← hts] at kr htl htz hTL ⊢
 have HTS := shut hts
 clear hts
 have e2 := E2.out
 have hsz := b1.size
 have R0 : RfR w2 w1.heap.size (ts, false) := ⟨_, kr, hTL, htz⟩
 have H3 : RQ w w1.heap.size w2.heap.size (ts, false) Z39 w3 :=
  ⟨Nat.lt_of_lt_of_le (by omega) b3.size, R0.grew (by omega) b3, kp, ((kz.below b1).below b2).below b3, Below.after (Below.after (Below.after b0 b1) b2) b3, by omega, by omega⟩
 obtain ⟨Pb, hP'⟩ : ∃ R, R = w2.heap.size := ⟨_, rfl⟩
 rw [← hP'] at H3
 rw [← hP']
 obtain ⟨R, hR⟩ : ∃ R, R = w1.heap.size := ⟨_, rfl⟩
 rw [← hR] at H3
 rw [← hR]
 clear hR hP' kr kp kz b0 b1 b2 b3 e2 E2 ho ts0 htl htz hs hs' hsz hTL R0
 go_upto_region 6 with (go_at_call 45; refine (rword_qc R _ wP w3 H3.hR H3.rdr).mono ?_; rintro e w4 ⟨rfl, D, g⟩)
 have H4 := H3.grew g D
 clear H3 D g
 go_upto_region 7 with (go_at_call 45; refine (rword_qc R _ wV w4 H4.hR H4.rdr).mono ?_; rintro e w5 ⟨rfl, D, g⟩)
 have H5 := H4.grew g D
 clear H4 D g
 obtain ⟨st5, es5⟩ : ∃ q, q = wdR wV (wdR wP (ts, false)) := ⟨_, rfl⟩
 have HS5 := shut es5
 rw [← es5] at H5
 clear es5
 have HC := shut (rcount_qc R _ 40 w5 H5.hR H5.rdr)
 obtain ⟨ρ1, e1⟩ : ∃ ρ, ρ = repR (ptR P E) (ctR 40 st5).1 (ctR 40 st5).2 := ⟨_, rfl⟩
 have HE1 : Hid (ρ1 = lsR (ptR P E) wV 40 (wdR wP (ts, false))) := by show ρ1 = _; rw [e1, HS5.out]; rfl
 have hc1 := ctR_lt 40 st5
 have hn1 : ρ1.1.length ≤ 1000 := by rw [e1]; exact repR_len _ _ _ _ (Nat.le_of_lt hc1)
 have HL := shut (fun wa (hl : R < wa.heap.size) (hr : RfR wa R (ctR 40 st5).2) => rpoints_qc P E hP R (ctR 40 st5).2 (ctR 40 st5).1 (Nat.le_of_lt hc1) wa hl hr)
 rw [show repR (ptR P E) (ctR 40 st5).1 (ctR 40 st5).2 = ρ1 from e1.symm] at HL
 generalize (ctR 40 st5).1 = c1 at *
 generalize (ctR 40 st5).2 = u1 at *
 obtain ⟨n1, f1⟩ : ∃ n, n = ρ1.1.length := ⟨_, rfl⟩
 rw [← f1] at HL hn1
 have HF1 := shut f1
 clear e1 f1
 go_upto_region 8 with (first | (go_at_call 47; refine HC.out.mono ?_; rintro e wa ⟨rfl, Da, ga⟩; have Ha := H5.grew ga Da) | (go_at_call 46; refine (HL.out wa Ha.hR Ha.rdr).mono ?_; rintro e wb ⟨v, rfl, oN, Db, gb⟩; obtain ⟨a1, m1, rfl⟩ := own_val oN; have kp5 := Grew.cel gb Ha.kp (by have := Ha.hP; omega); have q0 : wb.cell? ⟨Pb, 0, none⟩ = some nilS := kp5.cell 0; have f0 := Cel.frozen kp5 0))
 have hPP := H5.hP
 have Hb := Ha.grew gb Db
 have o1 : (wb.setCell ⟨Pb, 0, none⟩ (.slice a1 n1 m1)).ownsRow (Pb + 1) 30 6 (.slice a1 n1 m1) n1 (ρ1.1.flatMap cP) := own_mono (own_only oN ((Only.refl Pb wb).setCell 0 (.slice a1 n1 m1)) Ha.kp.lt) Ha.kp.lt
 have H6 : RQ w R Pb ρ1.2 [.slice a1 n1 m1, nilS, nilS, .bool false, .string eS, .string eS, .bool false, .string eS, .string eS, .bool false, .string eS, .string eS, .bool false, .string eS, .string eS, .bool false, .string eS, .string eS, .bool false, .string eS, .string eS, .bool false, .string eS, .string eS, .bool false, .string eS, .string eS, .bool false, .string eS, .string eS, .bool false, .string eS, .string eS, .bool false, .string eS, .string eS, .bool false, .string eS, .string eS] (wb.setCell ⟨Pb, 0, none⟩ (.slice a1 n1 m1)) := Hb.set 0 (.slice a1 n1 m1)
 clear H5 HC HL Ha Hb Da ga Db gb oN kp5 q0 f0
 generalize wb.setCell _ _ = w6 at *
 go_upto_region 9 with (go_at_call 45; refine (rword_qc R _ wS w6 H6.hR H6.rdr).mono ?_; rintro e w7 ⟨rfl, D, g⟩)
 have H7 := H6.grew g D
 replace o1 := own_grew o1 g (by have := H6.hP; omega)
 clear H6 D g
 obtain ⟨st7, es7⟩ : ∃ q, q = wdR wS ρ1.2 := ⟨_, rfl⟩
 have HS7 := shut es7
 rw [← es7] at H7
 clear es7
 have HC := shut (fun wd (h : RQ w R Pb st7 [.slice a1 n1 m1, nilS, nilS, .bool false, .string eS, .string eS, .bool false, .string eS, .string eS, .bool false, .string eS, .string eS, .bool false, .string eS, .string eS, .bool false, .string eS, .string eS, .bool false, .string eS, .string eS, .bool false, .string eS, .string eS, .bool false, .string eS, .string eS, .bool false, .string eS, .string eS, .bool false, .string eS, .string eS, .bool false, .string eS, .string eS, .bool false, .string eS, .string eS] wd) => rcount_qc R _ 60 wd h.hR h.rdr)
 obtain ⟨ρ2, e2⟩ : ∃ ρ, ρ = repR (sgR ((n1 : Int) - 1)) (ctR 60 st7).1 (ctR 60 st7).2 := ⟨_, rfl⟩
 have HE2 : Hid (ρ2 = lsR (sgR ((n1 : Int) - 1)) wS 60 ρ1.2) := by show ρ2 = _; rw [e2, HS7.out]; rfl
 have hc2 := ctR_lt 60 st7
 have HL := shut (fun wa (hl : R < wa.heap.size) (hr : RfR wa R (ctR 60 st7).2) => rsegs_qc R (ctR 60 st7).2 (ctR 60 st7).1 (Nat.le_of_lt hc2) (n1 : Int) (by omega) (by omega) wa hl hr)
 rw [show repR (sgR ((n1 : Int) - 1)) (ctR 60 st7).1 (ctR 60 st7).2 = ρ2 from e2.symm] at HL
 generalize (ctR 60 st7).1 = c2 at *
 generalize (ctR 60 st7).2 = u2 at *
 obtain ⟨n2, f2⟩ : ∃ n, n = ρ2.1.length := ⟨_, rfl⟩
 rw [← f2] at HL
 have HF2 := shut f2
 clear e2 f2
 have H7' := H7.drew
 have hPP := H7.hP
 replace o1 := own_grew o1 (Grew.drew' (R := R)) (by omega)
 refine wp_region_held_drew (S := fun w' => w'.cell? ⟨Pb, 0, none⟩ = some (.slice a1 n1 m1)) (by kernel_rfl) (H7'.kp.cell 0) (fun hS => ?_)
 clear H7
 generalize w7.drew = wd at *
 refine WA.start (n := 9) (by kernel_rfl) ?_
 refine WA.tp 0 rfl ?_
 refine WA.tp 1 rfl ?_
 refine WA.tp 3 rfl ?_
 refine WA.tp 4 rfl ?_
 refine WA.tp 5 rfl ?_
 clear hS
 refine WA.cal 2 rfl (fun K hK => ?_)
 simp only [List.getElem_toArray, List.getElem_cons_succ, List.getElem_cons_zero]
 go_simp
 go_fit (HC.out wd H7')
 rintro e wa ⟨rfl, Da, ga⟩
 have Ha := H7'.grew ga Da
 replace o1 := own_grew o1 ga (by omega)
 try go_wp2_with fail
 refine hK.out _ _ (Ha.kp.cell 0) (fun hS => ?_)
 clear hK K hS
 refine WA.cal 6 rfl (fun K hK => ?_)
 simp only [List.getElem_toArray, List.getElem_cons_succ, List.getElem_cons_zero]
 go_simp
 go_fit (HL.out wa Ha.hR Ha.rdr)
 rintro e wb ⟨v, rfl, oN, Db, gb⟩
 obtain ⟨a2, m2, rfl⟩ := own_val oN
 have Hb := Ha.grew gb Db
 replace o1 := own_grew o1 gb (by omega)
 try go_wp2_with fail
 refine hK.out _ _ (Hb.kp.cell 0) (fun hS => ?_)
 clear hK K
 refine WA.tp 7 rfl ?_
 clear hS
 have q0 := Hb.kp.cell 1
 have f0 := Cel.frozen Hb.kp 1
 refine WA.cal 8 rfl (fun K hK => ?_)
 rw [if_pos (by rfl)]
 unfold Oper.wp execOp
 go_simp
 have H8 : RQ w R Pb ρ2.2 [.slice a1 n1 m1, .slice a2 n2 m2, nilS, .bool false, .string eS, .string eS, .bool false, .string eS, .string eS, .bool false, .string eS, .string eS, .bool false, .string eS, .string eS, .bool false, .string eS, .string eS, .bool false, .string eS, .string eS, .bool false, .string eS, .string eS, .bool false, .string eS, .string eS, .bool false, .string eS, .string eS, .bool false, .string eS, .string eS, .bool false, .string eS, .string eS, .bool false, .string eS, .string eS] (wb.setCell ⟨Pb, 1, none⟩ (.slice a2 n2 m2)) := Hb.set 1 (.slice a2 n2 m2)
 refine hK.out _ _ (H8.kp.cell 0) (fun hS => ?_)
 clear hK K
 refine WA.done (by kernel_rfl) ?_
 clear hS
 replace o1 := own_only o1 ((Only.refl Pb wb).setCell 1 (.slice a2 n2 m2)) (by omega)
 have o2 : (wb.setCell ⟨Pb, 1, none⟩ (.slice a2 n2 m2)).ownsRow (Pb + 1) 103 3 (.slice a2 n2 m2) n2 (ρ2.1.flatMap cS) := own_mono (own_only oN ((Only.refl Pb wb).setCell 1 (.slice a2 n2 m2)) Ha.kp.lt) Ha.kp.lt
 clear H7' HC HL Ha Hb Da ga Db gb oN q0 f0
 generalize wb.setCell _ _ = w8 at *
 go_upto_region 11 with (go_at_call 45; refine (rword_qc R _ wH w8 H8.hR H8.rdr).mono ?_; rintro e w9 ⟨rfl, D, g⟩)
 have H9 := H8.grew g D
 replace o1 := own_grew o1 g (by have := H8.hP; omega)
 replace o2 := own_grew o2 g (by have := H8.hP; omega)
 clear H8 D g
 obtain ⟨st9, es9⟩ : ∃ q, q = wdR wH ρ2.2 := ⟨_, rfl⟩
 have HS9 := shut es9
 rw [← es9] at H9
 clear es9
 have HC := shut (rcount_qc R _ 10 w9 H9.hR H9.rdr)
 obtain ⟨ρ3, e3⟩ : ∃ ρ, ρ = repR (ptR P E) (ctR 10 st9).1 (ctR 10 st9).2 := ⟨_, rfl⟩
 have HE3 : Hid (ρ3 = lsR (ptR P E) wH 10 ρ2.2) := by show ρ3 = _; rw [e3, HS9.out]; rfl
 have hc3 := ctR_lt 10 st9
 have hn3 : ρ3.1.length ≤ 1000 := by rw [e3]; exact repR_len _ _ _ _ (Nat.le_of_lt hc3)
 have HL := shut (fun wa (hl : R < wa.heap.size) (hr : RfR wa R (ctR 10 st9).2) => rpoints_qc P E hP R (ctR 10 st9).2 (ctR 10 st9).1 (Nat.le_of_lt hc3) wa hl hr)
 rw [show repR (ptR P E) (ctR 10 st9).1 (ctR 10 st9).2 = ρ3 from e3.symm] at HL
 generalize (ctR 10 st9).1 = c3 at *
 generalize (ctR 10 st9).2 = u3 at *
 obtain ⟨n3, f3⟩ : ∃ n, n = ρ3.1.length := ⟨_, rfl⟩
 rw [← f3] at HL hn3
 have HF3 := shut f3
 clear e3 f3
 go_upto_region 12 with (first | (go_at_call 47; refine HC.out.mono ?_; rintro e wa ⟨rfl, Da, ga⟩; have Ha := H9.grew ga Da) | (go_at_call 46; refine (HL.out wa Ha.hR Ha.rdr).mono ?_; rintro e wb ⟨v, rfl, oN, Db, gb⟩; obtain ⟨a3, m3, rfl⟩ := own_val oN; have kp5 := Grew.cel gb Ha.kp (by have := Ha.hP; omega); have q0 : wb.cell? ⟨Pb, 2, none⟩ = some nilS := kp5.cell 2; have f0 := Cel.frozen kp5 2))
 have hPP := H9.hP
 have Hb := Ha.grew gb Db
 replace o1 := own_only (own_grew (own_grew o1 ga (by omega)) gb (by omega)) ((Only.refl Pb wb).setCell 2 (.slice a3 n3 m3)) (by omega)
 replace o2 := own_only (own_grew (own_grew o2 ga (by omega)) gb (by omega)) ((Only.refl Pb wb).setCell 2 (.slice a3 n3 m3)) (by omega)
 have o3 : (wb.setCell ⟨Pb, 2, none⟩ (.slice a3 n3 m3)).ownsRow (Pb + 1) 30 6 (.slice a3 n3 m3) n3 (ρ3.1.flatMap cP) := own_mono (own_only oN ((Only.refl Pb wb).setCell 2 (.slice a3 n3 m3)) Ha.kp.lt) Ha.kp.lt
 have H10 : RQ w R Pb ρ3.2 [.slice a1 n1 m1, .slice a2 n2 m2, .slice a3 n3 m3, .bool false, .string eS, .string eS, .bool false, .string eS, .string eS, .bool false, .string eS, .string eS, .bool false, .string eS, .string eS, .bool false, .string eS, .string eS, .bool false, .string eS, .string eS, .bool false, .string eS, .string eS, .bool false, .string eS, .string eS, .bool false, .string eS, .string eS, .bool false, .string eS, .string eS, .bool false, .string eS, .string eS, .bool false, .string eS, .string eS] (wb.setCell ⟨Pb, 2, none⟩ (.slice a3 n3 m3)) := Hb.set 2 (.slice a3 n3 m3)
 clear H9 HC HL Ha Hb Da ga Db gb oN kp5 q0 f0
 generalize wb.setCell _ _ = w10 at *
 go_upto_region 13 with (go_at_call 45; refine (rword_qc R _ wF w10 H10.hR H10.rdr).mono ?_; rintro e w11 ⟨rfl, D, g⟩)
 have H11 := H10.grew g D
 replace o1 := own_grew o1 g (by have := H10.hP; omega)
 replace o2 := own_grew o2 g (by have := H10.hP; omega)
 replace o3 := own_grew o3 g (by have := H10.hP; omega)
 clear H10 D g
 obtain ⟨st11, es11⟩ : ∃ q, q = wdR wF ρ3.2 := ⟨_, rfl⟩
 have HS11 := shut es11
 rw [← es11] at H11
 clear es11
 obtain ⟨x, tx, tx0, htx, hx1, hx2⟩ := rep6A (nuR P E) st11
 have Hx1 := shut hx1
 have Hx2 := shut hx2
 have HD : RfR w11 R (tx 0) := by rw [tx0]; exact H11.rdr
 have HL := shut (rpoly_qc P E hP R w11 x tx htx H11.hR HD)
 clear hx1 hx2 tx0 htx HD
 go_upto_region 14 with (first | (go_at_call 49; refine HL.out.mono ?_; rintro e wa ⟨rfl, Da, ga⟩; have kpa := Grew.cel ga H11.kp (by have := H11.hP; omega)) | (refine wpList_store_mid rfl 28 _ _ rfl Pb 3 #[.bool (x 0).1, .string (x 0).2.1, .string (x 0).2.2, .bool (x 1).1, .string (x 1).2.1, .string (x 1).2.2, .bool (x 2).1, .string (x 2).2.1, .string (x 2).2.2, .bool (x 3).1, .string (x 3).2.1, .string (x 3).2.2, .bool (x 4).1, .string (x 4).2.1, .string (x 4).2.2, .bool (x 5).1, .string (x 5).2.1, .string (x 5).2.2] rfl rfl (celT kpa 3 18 (Nat.le_of_ble_eq_true rfl)) (by kernel_rfl) (by kernel_rfl) ?_))
 have hu : updC [.slice a1 n1 m1, .slice a2 n2 m2, .slice a3 n3 m3, .bool false, .string eS, .string eS, .bool false, .string eS, .string eS, .bool false, .string eS, .string eS, .bool false, .string eS, .string eS, .bool false, .string eS, .string eS, .bool false, .string eS, .string eS, .bool false, .string eS, .string eS, .bool false, .string eS, .string eS, .bool false, .string eS, .string eS, .bool false, .string eS, .string eS, .bool false, .string eS, .string eS, .bool false, .string eS, .string eS] 3 [.bool (x 0).1, .string (x 0).2.1, .string (x 0).2.2, .bool (x 1).1, .string (x 1).2.1, .string (x 1).2.2, .bool (x 2).1, .string (x 2).2.1, .string (x 2).2.2, .bool (x 3).1, .string (x 3).2.1, .string (x 3).2.2, .bool (x 4).1, .string (x 4).2.1, .string (x 4).2.2, .bool (x 5).1, .string (x 5).2.1, .string (x 5).2.2] = [.slice a1 n1 m1, .slice a2 n2 m2, .slice a3 n3 m3, .bool (x 0).1, .string (x 0).2.1, .string (x 0).2.2, .bool (x 1).1, .string (x 1).2.1, .string (x 1).2.2, .bool (x 2).1, .string (x 2).2.1, .string (x 2).2.2, .bool (x 3).1, .string (x 3).2.1, .string (x 3).2.2, .bool (x 4).1, .string (x 4).2.1, .string (x 4).2.2, .bool (x 5).1, .string (x 5).2.1, .string (x 5).2.2, .bool false, .string eS, .string eS, .bool false, .string eS, .string eS, .bool false, .string eS, .string eS, .bool false, .string eS, .string eS, .bool false, .string eS, .string eS, .bool false, .string eS, .string eS] := by kernel_rfl
 have H12 := (H11.grew ga Da).mid 3 [.bool (x 0).1, .string (x 0).2.1, .string (x 0).2.2, .bool (x 1).1, .string (x 1).2.1, .string (x 1).2.2, .bool (x 2).1, .string (x 2).2.1, .string (x 2).2.2, .bool (x 3).1, .string (x 3).2.1, .string (x 3).2.2, .bool (x 4).1, .string (x 4).2.1, .string (x 4).2.2, .bool (x 5).1, .string (x 5).2.1, .string (x 5).2.2]
 rw [hu] at H12
 have hPP := H11.hP
 replace o1 := own_only (own_grew o1 ga (by omega)) (onlyS [.bool (x 0).1, .string (x 0).2.1, .string (x 0).2.2, .bool (x 1).1, .string (x 1).2.1, .string (x 1).2.2, .bool (x 2).1, .string (x 2).2.1, .string (x 2).2.2, .bool (x 3).1, .string (x 3).2.1, .string (x 3).2.2, .bool (x 4).1, .string (x 4).2.1, .string (x 4).2.2, .bool (x 5).1, .string (x 5).2.1, .string (x 5).2.2] (Only.refl Pb wa) 3) (by omega)
 replace o2 := own_only (own_grew o2 ga (by omega)) (onlyS [.bool (x 0).1, .string (x 0).2.1, .string (x 0).2.2, .bool (x 1).1, .string (x 1).2.1, .string (x 1).2.2, .bool (x 2).1, .string (x 2).2.1, .string (x 2).2.2, .bool (x 3).1, .string (x 3).2.1, .string (x 3).2.2, .bool (x 4).1, .string (x 4).2.1, .string (x 4).2.2, .bool (x 5).1, .string (x 5).2.1, .string (x 5).2.2] (Only.refl Pb wa) 3) (by omega)
 replace o3 := own_only (own_grew o3 ga (by omega)) (onlyS [.bool (x 0).1, .string (x 0).2.1, .string (x 0).2.2, .bool (x 1).1, .string (x 1).2.1, .string (x 1).2.2, .bool (x 2).1, .string (x 2).2.1, .string (x 2).2.2, .bool (x 3).1, .string (x 3).2.1, .string (x 3).2.2, .bool (x 4).1, .string (x 4).2.1, .string (x 4).2.2, .bool (x 5).1, .string (x 5).2.1, .string (x 5).2.2] (Only.refl Pb wa) 3) (by omega)
 clear hu H11 HL Da ga kpa
 generalize World.setCells _ _ _ _ = w12 at *
 generalize vF x = fx0 at *
 go_upto_region 15 with (go_at_call 45; refine (rword_qc R _ wG w12 H12.hR H12.rdr).mono ?_; rintro e w13 ⟨rfl, D, g⟩)
 have H13 := H12.grew g D
 replace o1 := own_grew o1 g (by have := H12.hP; omega)
 replace o2 := own_grew o2 g (by have := H12.hP; omega)
 replace o3 := own_grew o3 g (by have := H12.hP; omega)
 clear H12 D g
 obtain ⟨st13, es13⟩ : ∃ q, q = wdR wG (tx 6) := ⟨_, rfl⟩
 have HS13 := shut es13
 rw [← es13] at H13
 clear es13
 obtain ⟨y, ty, ty0, hty, hy1, hy2⟩ := rep6A (nuR P E) st13
 have Hy1 := shut hy1
 have Hy2 := shut hy2
 have HD : RfR w13 R (ty 0) := by rw [ty0]; exact H13.rdr
 have HL := shut (rpoly_qc P E hP R w13 y ty hty H13.hR HD)
 clear hy1 hy2 ty0 hty HD
 go_upto_region 16 with (first | (go_at_call 49; refine HL.out.mono ?_; rintro e wa ⟨rfl, Da, ga⟩; have kpa := Grew.cel ga H13.kp (by have := H13.hP; omega)) | (refine wpList_store_mid rfl 28 _ _ rfl Pb 21 #[.bool (y 0).1, .string (y 0).2.1, .string (y 0).2.2, .bool (y 1).1, .string (y 1).2.1, .string (y 1).2.2, .bool (y 2).1, .string (y 2).2.1, .string (y 2).2.2, .bool (y 3).1, .string (y 3).2.1, .string (y 3).2.2, .bool (y 4).1, .string (y 4).2.1, .string (y 4).2.2, .bool (y 5).1, .string (y 5).2.1, .string (y 5).2.2] rfl rfl (celT kpa 21 18 (Nat.le_of_ble_eq_true rfl)) (by kernel_rfl) (by kernel_rfl) ?_))
 have hu : updC [.slice a1 n1 m1, .slice a2 n2 m2, .slice a3 n3 m3, .bool (x 0).1, .string (x 0).2.1, .string (x 0).2.2, .bool (x 1).1, .string (x 1).2.1, .string (x 1).2.2, .bool (x 2).1, .string (x 2).2.1, .string (x 2).2.2, .bool (x 3).1, .string (x 3).2.1, .string (x 3).2.2, .bool (x 4).1, .string (x 4).2.1, .string (x 4).2.2, .bool (x 5).1, .string (x 5).2.1, .string (x 5).2.2, .bool false, .string eS, .string eS, .bool false, .string eS, .string eS, .bool false, .string eS, .string eS, .bool false, .string eS, .string eS, .bool false, .string eS, .string eS, .bool false, .string eS, .string eS] 21 [.bool (y 0).1, .string (y 0).2.1, .string (y 0).2.2, .bool (y 1).1, .string (y 1).2.1, .string (y 1).2.2, .bool (y 2).1, .string (y 2).2.1, .string (y 2).2.2, .bool (y 3).1, .string (y 3).2.1, .string (y 3).2.2, .bool (y 4).1, .string (y 4).2.1, .string (y 4).2.2, .bool (y 5).1, .string (y 5).2.1, .string (y 5).2.2] = [.slice a1 n1 m1, .slice a2 n2 m2, .slice a3 n3 m3, .bool (x 0).1, .string (x 0).2.1, .string (x 0).2.2, .bool (x 1).1, .string (x 1).2.1, .string (x 1).2.2, .bool (x 2).1, .string (x 2).2.1, .string (x 2).2.2, .bool (x 3).1, .string (x 3).2.1, .string (x 3).2.2, .bool (x 4).1, .string (x 4).2.1, .string (x 4).2.2, .bool (x 5).1, .string (x 5).2.1, .string (x 5).2.2, .bool (y 0).1, .string (y 0).2.1, .string (y 0).2.2, .bool (y 1).1, .string (y 1).2.1, .string (y 1).2.2, .bool (y 2).1, .string (y 2).2.1, .string (y 2).2.2, .bool (y 3).1, .string (y 3).2.1, .string (y 3).2.2, .bool (y 4).1, .string (y 4).2.1, .string (y 4).2.2, .bool (y 5).1, .string (y 5).2.1, .string (y 5).2.2] := by kernel_rfl
 have H14 := (H13.grew ga Da).mid 21 [.bool (y 0).1, .string (y 0).2.1, .string (y 0).2.2, .bool (y 1).1, .string (y 1).2.1, .string (y 1).2.2, .bool (y 2).1, .string (y 2).2.1, .string (y 2).2.2, .bool (y 3).1, .string (y 3).2.1, .string (y 3).2.2, .bool (y 4).1, .string (y 4).2.1, .string (y 4).2.2, .bool (y 5).1, .string (y 5).2.1, .string (y 5).2.2]
 rw [hu] at H14
 have hPP := H13.hP
 replace o1 := own_only (own_grew o1 ga (by omega)) (onlyS [.bool (y 0).1, .string (y 0).2.1, .string (y 0).2.2, .bool (y 1).1, .string (y 1).2.1, .string (y 1).2.2, .bool (y 2).1, .string (y 2).2.1, .string (y 2).2.2, .bool (y 3).1, .string (y 3).2.1, .string (y 3).2.2, .bool (y 4).1, .string (y 4).2.1, .string (y 4).2.2, .bool (y 5).1, .string (y 5).2.1, .string (y 5).2.2] (Only.refl Pb wa) 21) (by omega)
 replace o2 := own_only (own_grew o2 ga (by omega)) (onlyS [.bool (y 0).1, .string (y 0).2.1, .string (y 0).2.2, .bool (y 1).1, .string (y 1).2.1, .string (y 1).2.2, .bool (y 2).1, .string (y 2).2.1, .string (y 2).2.2, .bool (y 3).1, .string (y 3).2.1, .string (y 3).2.2, .bool (y 4).1, .string (y 4).2.1, .string (y 4).2.2, .bool (y 5).1, .string (y 5).2.1, .string (y 5).2.2] (Only.refl Pb wa) 21) (by omega)
 replace o3 := own_only (own_grew o3 ga (by omega)) (onlyS [.bool (y 0).1, .string (y 0).2.1, .string (y 0).2.2, .bool (y 1).1, .string (y 1).2.1, .string (y 1).2.2, .bool (y 2).1, .string (y 2).2.1, .string (y 2).2.2, .bool (y 3).1, .string (y 3).2.1, .string (y 3).2.2, .bool (y 4).1, .string (y 4).2.1, .string (y 4).2.2, .bool (y 5).1, .string (y 5).2.1, .string (y 5).2.2] (Only.refl Pb wa) 21) (by omega)
 clear hu H13 HL Da ga kpa
 generalize World.setCells _ _ _ _ = w14 at *
 generalize vF y = fy0 at *
 go_upto_region 17 with (go_at_call 45; refine (rword_qc R _ wE w14 H14.hR H14.rdr).mono ?_; rintro e w15 ⟨rfl, D, g⟩)
 have H15 := H14.grew g D
 replace o1 := own_grew o1 g (by have := H14.hP; omega)
 replace o2 := own_grew o2 g (by have := H14.hP; omega)
 replace o3 := own_grew o3 g (by have := H14.hP; omega)
 clear H14 D g
 obtain ⟨st15, es15⟩ : ∃ q, q = wdR wE (ty 6) := ⟨_, rfl⟩
 have HS15 := shut es15
 rw [← es15] at H15
 clear es15
 have Q1 : ρ1 = q1 P E ts := HE1.out
 have Q2 : ρ2 = q2 P E ts := by rw [HE2.out, HF1.out, Q1]; rfl
 have Q3' : ρ3 = q3 P E ts := by rw [HE3.out, Q2]; rfl
 have Q4 : (q4 P E ts).2 = tx 6 := by unfold q4; rw [← Q3', ← HS11.out]; exact Hx2.out
 have Q4' : (q4 P E ts).1 = [x 0, x 1, x 2, x 3, x 4, x 5] := by unfold q4; rw [← Q3', ← HS11.out]; exact Hx1.out
 have Q5 : (q5 P E ts).2 = ty 6 := by unfold q5; rw [Q4, ← HS13.out]; exact Hy2.out
 have Q5' : (q5 P E ts).1 = [y 0, y 1, y 2, y 3, y 4, y 5] := by unfold q5; rw [Q4, ← HS13.out]; exact Hy1.out
 have Q6 : q6 P E ts = st15 := by unfold q6; rw [Q5]; exact HS15.out.symm
 have HQ1 := shut Q1
 have HQ2 := shut Q2
 have HQ3 := shut Q3'
 have HQ4 := shut Q4'
 have HQ5 := shut Q5'
 have HQ6 := shut Q6
 clear Q1 Q2 Q3' Q4 Q4' Q5 Q5' Q6 HE1 HE2 HE3 HS11 HS13 HS15 Hx1 Hx2 Hy1 Hy2
 obtain ⟨v, kr, hv, -⟩ := H15.rdr
 have hsl : ∃ a c, v = .slice a st15.1.length c := by
  rcases hv with ⟨h, a, c, rfl⟩ | ⟨A, o, c, rfl, -⟩
  ·exact ⟨a, c, by rw [h]; rfl⟩
  ·exact ⟨_, _, rfl⟩
 obtain ⟨av, cv, rfl⟩ := hsl
 clear hv
 have kz := H15.kz
 have kp := H15.kp
 have bw := H15.bw
 have hZ := H15.hZ
 have hPb := H15.hP
 clear H15
 obtain ⟨l, bad⟩ := st15
 have k0 := kr.cell 0
 have k1 := kr.cell 1
 have c0 : w15.cell? ⟨R, 0, none⟩ = some (.slice av l.length cv) := k0
 have c1 : w15.cell? ⟨R, 1, none⟩ = some (.bool bad) := k1
 clear k0 k1 kr
 obtain ⟨cs, hcs⟩ : ∃ cs : List Value, cs = [.slice a1 n1 m1, .slice a2 n2 m2, .slice a3 n3 m3, .bool (x 0).1, .string (x 0).2.1, .string (x 0).2.2, .bool (x 1).1, .string (x 1).2.1, .string (x 1).2.2, .bool (x 2).1, .string (x 2).2.1, .string (x 2).2.2, .bool (x 3).1, .string (x 3).2.1, .string (x 3).2.2, .bool (x 4).1, .string (x 4).2.1, .string (x 4).2.2, .bool (x 5).1, .string (x 5).2.1, .string (x 5).2.2, .bool (y 0).1, .string (y 0).2.1, .string (y 0).2.2, .bool (y 1).1, .string (y 1).2.1, .string (y 1).2.2, .bool (y 2).1, .string (y 2).2.1, .string (y 2).2.2, .bool (y 3).1, .string (y 3).2.1, .string (y 3).2.2, .bool (y 4).1, .string (y 4).2.1, .string (y 4).2.2, .bool (y 5).1, .string (y 5).2.1, .string (y 5).2.2] := ⟨_, rfl⟩
 have hp : PlanAt w15 (Pb + 1) cs (qpl P E ts) := by
  rw [hcs]
  unfold qpl
  refine planAt_of (v1 := .slice a1 n1 m1) (v2 := .slice a2 n2 m2) (v3 := .slice a3 n3 m3) (x := x) (y := y) ?_ ?_ ?_ HQ4.out HQ5.out
  ·rw [← HQ1.out, ← HF1.out]; exact o1
  ·rw [← HQ2.out, ← HF2.out]; exact o2
  ·rw [← HQ3.out, ← HF3.out]; exact o3
 rw [← hcs] at kp
 clear hcs o1 o2 o3 HQ1 HQ2 HQ3 HQ4 HQ5 HF1 HF2 HF3
 have hlen := hp.len
 have one := hp.one
 cases bad with
 | true =>
  have he : ¬ q6 P E (toks s) = ([], false) := by rw [← HTS.out, HQ6.out]; intro h; injection h with h1 h2; cases h2
  clear HTS HQ6
  clear hp kp one hlen
  go_upto_region 18 with fail
  refine wp_region_lit ?_
  refine wpList_build rfl 46 #[] rfl (by kernel_rfl) ?_
  rw [built39]
  simp only [Act.put, List.setIfInBounds_toArray, List.set_cons_zero, List.set_cons_succ]
  refine wpList_store_row rfl 46 _ _ rfl w.heap.size #[nilS, nilS, nilS, .bool false, .string eS, .string eS, .bool false, .string eS, .string eS, .bool false, .string eS, .string eS, .bool false, .string eS, .string eS, .bool false, .string eS, .string eS, .bool false, .string eS, .string eS, .bool false, .string eS, .string eS, .bool false, .string eS, .string eS, .bool false, .string eS, .string eS, .bool false, .string eS, .string eS, .bool false, .string eS, .string eS, .bool false, .string eS, .string eS] rfl rfl 46 _ kz (by kernel_rfl) rfl (by kernel_rfl) ?_
  simp only [Act.put]
  have oZ := (Only.refl w.heap.size w15).setRow #[nilS, nilS, nilS, .bool false, .string eS, .string eS, .bool false, .string eS, .string eS, .bool false, .string eS, .string eS, .bool false, .string eS, .string eS, .bool false, .string eS, .string eS, .bool false, .string eS, .string eS, .bool false, .string eS, .string eS, .bool false, .string eS, .string eS, .bool false, .string eS, .string eS, .bool false, .string eS, .string eS, .bool false, .string eS, .string eS, .bool false, .string eS, .string eS]
  have kr := kz.rowS [nilS, nilS, nilS, .bool false, .string eS, .string eS, .bool false, .string eS, .string eS, .bool false, .string eS, .string eS, .bool false, .string eS, .string eS, .bool false, .string eS, .string eS, .bool false, .string eS, .string eS, .bool false, .string eS, .string eS, .bool false, .string eS, .string eS, .bool false, .string eS, .string eS, .bool false, .string eS, .string eS, .bool false, .string eS, .string eS, .bool false, .string eS, .string eS]
  have bZ := oZ.below bw (Nat.le_refl _)
  generalize World.setRow _ _ _ = wz at *
  generalize Value.agg #[nilS, nilS, nilS, .bool false, .string eS, .string eS, .bool false, .string eS, .string eS, .bool false, .string eS, .string eS, .bool false, .string eS, .string eS, .bool false, .string eS, .string eS, .bool false, .string eS, .string eS, .bool false, .string eS, .string eS, .bool false, .string eS, .string eS, .bool false, .string eS, .string eS, .bool false, .string eS, .string eS, .bool false, .string eS, .string eS, .bool false, .string eS, .string eS] = VZ
  clear kz oZ c0 c1
  go_step
  go_step
  go_step
  go_step
  go_step
  go_step
  go_step
  go_step
  show bodyPost Tryz.prog _ _ .ret _ _
  exact post_pl (p := 2) (u := 3) (cs := [nilS, nilS, nilS, .bool false, .string eS, .string eS, .bool false, .string eS, .string eS, .bool false, .string eS, .string eS, .bool false, .string eS, .string eS, .bool false, .string eS, .string eS, .bool false, .string eS, .string eS, .bool false, .string eS, .string eS, .bool false, .string eS, .string eS, .bool false, .string eS, .string eS, .bool false, .string eS, .string eS, .bool false, .string eS, .string eS, .bool false, .string eS, .string eS]) (by kernel_rfl) rfl rfl rfl kr rfl ⟨[nilS, nilS, nilS, .bool false, .string eS, .string eS, .bool false, .string eS, .string eS, .bool false, .string eS, .string eS, .bool false, .string eS, .string eS, .bool false, .string eS, .string eS, .bool false, .string eS, .string eS, .bool false, .string eS, .string eS, .bool false, .string eS, .string eS, .bool false, .string eS, .string eS, .bool false, .string eS, .string eS, .bool false, .string eS, .string eS, .bool false, .string eS, .string eS], by rw [if_neg he]; rfl, by rw [if_neg he]; exact planAt_zero _ _, bZ⟩
 | false =>
  cases l with
  | cons t l =>
   have he : ¬ q6 P E (toks s) = ([], false) := by rw [← HTS.out, HQ6.out]; intro h; injection h with h1 h2; cases h1
   obtain ⟨nl, hnl⟩ : ∃ nl, nl = (t :: l).length := ⟨_, rfl⟩
   rw [← hnl] at c0
   have hl : 0 < nl := by rw [hnl, List.length_cons]; omega
   clear hnl
   clear HTS HQ6
   clear hp kp one hlen
   go_upto_region 18 with fail
   refine wp_region_lit ?_
   refine wpList_build rfl 46 #[] rfl (by kernel_rfl) ?_
   rw [built39]
   simp only [Act.put, List.setIfInBounds_toArray, List.set_cons_zero, List.set_cons_succ]
   refine wpList_store_row rfl 46 _ _ rfl w.heap.size #[nilS, nilS, nilS, .bool false, .string eS, .string eS, .bool false, .string eS, .string eS, .bool false, .string eS, .string eS, .bool false, .string eS, .string eS, .bool false, .string eS, .string eS, .bool false, .string eS, .string eS, .bool false, .string eS, .string eS, .bool false, .string eS, .string eS, .bool false, .string eS, .string eS, .bool false, .string eS, .string eS, .bool false, .string eS, .string eS, .bool false, .string eS, .string eS] rfl rfl 46 _ kz (by kernel_rfl) rfl (by kernel_rfl) ?_
   simp only [Act.put]
   have oZ := (Only.refl w.heap.size w15).setRow #[nilS, nilS, nilS, .bool false, .string eS, .string eS, .bool false, .string eS, .string eS, .bool false, .string eS, .string eS, .bool false, .string eS, .string eS, .bool false, .string eS, .string eS, .bool false, .string eS, .string eS, .bool false, .string eS, .string eS, .bool false, .string eS, .string eS, .bool false, .string eS, .string eS, .bool false, .string eS, .string eS, .bool false, .string eS, .string eS, .bool false, .string eS, .string eS]
   have kr := kz.rowS [nilS, nilS, nilS, .bool false, .string eS, .string eS, .bool false, .string eS, .string eS, .bool false, .string eS, .string eS, .bool false, .string eS, .string eS, .bool false, .string eS, .string eS, .bool false, .string eS, .string eS, .bool false, .string eS, .string eS, .bool false, .string eS, .string eS, .bool false, .string eS, .string eS, .bool false, .string eS, .string eS, .bool false, .string eS, .string eS, .bool false, .string eS, .string eS]
   have bZ := oZ.below bw (Nat.le_refl _)
   generalize World.setRow _ _ _ = wz at *
   generalize Value.agg #[nilS, nilS, nilS, .bool false, .string eS, .string eS, .bool false, .string eS, .string eS, .bool false, .string eS, .string eS, .bool false, .string eS, .string eS, .bool false, .string eS, .string eS, .bool false, .string eS, .string eS, .bool false, .string eS, .string eS, .bool false, .string eS, .string eS, .bool false, .string eS, .string eS, .bool false, .string eS, .string eS, .bool false, .string eS, .string eS, .bool false, .string eS, .string eS] = VZ
   clear kz oZ c0 c1
   go_step
   go_step
   go_step
   go_step
   go_step
   go_step
   go_step
   go_step
   show bodyPost Tryz.prog _ _ .ret _ _
   exact post_pl (p := 2) (u := 3) (cs := [nilS, nilS, nilS, .bool false, .string eS, .string eS, .bool false, .string eS, .string eS, .bool false, .string eS, .string eS, .bool false, .string eS, .string eS, .bool false, .string eS, .string eS, .bool false, .string eS, .string eS, .bool false, .string eS, .string eS, .bool false, .string eS, .string eS, .bool false, .string eS, .string eS, .bool false, .string eS, .string eS, .bool false, .string eS, .string eS, .bool false, .string eS, .string eS]) (by kernel_rfl) rfl rfl rfl kr rfl ⟨[nilS, nilS, nilS, .bool false, .string eS, .string eS, .bool false, .string eS, .string eS, .bool false, .string eS, .string eS, .bool false, .string eS, .string eS, .bool false, .string eS, .string eS, .bool false, .string eS, .string eS, .bool false, .string eS, .string eS, .bool false, .string eS, .string eS, .bool false, .string eS, .string eS, .bool false, .string eS, .string eS, .bool false, .string eS, .string eS, .bool false, .string eS, .string eS], by rw [if_neg he]; rfl, by rw [if_neg he]; exact planAt_zero _ _, bZ⟩
  | nil =>
   have he : q6 P E (toks s) = ([], false) := by rw [← HTS.out]; exact HQ6.out
   rw [HTS.out] at hp
   clear HTS HQ6
   go_upto_region 19 with fail
   refine wp_region_lit ?_
   refine wpList_load_row rfl 46 _ rfl _ rfl 46 cs.toArray (0, 0) _ kp Tryz.underlying46 rfl (by rw [List.size_toArray, hlen]; kernel_rfl) ?_
   simp only [Act.put, List.setIfInBounds_toArray, List.set_cons_zero, List.set_cons_succ]
   refine wpList_store_row rfl 46 _ _ rfl w.heap.size cs.toArray rfl rfl 46 _ kz (by rw [List.size_toArray, hlen]; kernel_rfl) (show 39 = cs.toArray.size by rw [List.size_toArray, hlen]) one ?_
   simp only [Act.put]
   have oZ := (Only.refl w.heap.size w15).setRow cs.toArray
   have kr := kz.rowS cs
   have bZ := oZ.below bw (Nat.le_refl _)
   have hq := (hp.only oZ (by omega)).mono (show w.heap.size ≤ Pb + 1 by omega)
   generalize World.setRow _ _ _ = wz at *
   clear kz oZ c0 c1 hp
   go_step
   go_step
   go_step
   go_step
   go_step
   go_step
   go_step
   go_step
   show bodyPost Tryz.prog _ _ .ret _ _
   exact post_pl (p := 2) (u := 3) (cs := cs) (by kernel_rfl) rfl rfl rfl kr hlen ⟨cs, by rw [if_pos he]; rfl, by rw [if_pos he]; exact hq, bZ⟩
theorem rparse_long (s : ByteArray) (w : World) (hs : 20000 < s.size) :
  Calls Tryz.prog 19 #[.string s] w fun e w' => ∃ cs : List Value, e = .returned (.tuple #[.agg cs.toArray, .int .i64 5]) ∧ PlanAt w' w.heap.size cs zPl ∧ Below w.heap.size w w' := by
 have hs' : (s.size : Int) > 20000 := by omega
 go_enter Tryz.func19, Tryz.ntmps19
 go_upto_region 1 with fail
 obtain ⟨w0, hq, kz, b0⟩ := mk1 w [nilS, nilS, nilS, .bool false, .string eS, .string eS, .bool false, .string eS, .string eS, .bool false, .string eS, .string eS, .bool false, .string eS, .string eS, .bool false, .string eS, .string eS, .bool false, .string eS, .string eS, .bool false, .string eS, .string eS, .bool false, .string eS, .string eS, .bool false, .string eS, .string eS, .bool false, .string eS, .string eS, .bool false, .string eS, .string eS, .bool false, .string eS, .string eS] 46
 rw [← hq]
 clear hq
 go_wp2_with (refine wpList_store_row rfl 46 _ _ rfl _ #[nilS, nilS, nilS, .bool false, .string eS, .string eS, .bool false, .string eS, .string eS, .bool false, .string eS, .string eS, .bool false, .string eS, .string eS, .bool false, .string eS, .string eS, .bool false, .string eS, .string eS, .bool false, .string eS, .string eS, .bool false, .string eS, .string eS, .bool false, .string eS, .string eS, .bool false, .string eS, .string eS, .bool false, .string eS, .string eS, .bool false, .string eS, .string eS] rfl rfl 46 _ kz (by kernel_rfl) rfl (by kernel_rfl) ?_)
 have oZ := (Only.refl w.heap.size w0).setRow #[nilS, nilS, nilS, .bool false, .string eS, .string eS, .bool false, .string eS, .string eS, .bool false, .string eS, .string eS, .bool false, .string eS, .string eS, .bool false, .string eS, .string eS, .bool false, .string eS, .string eS, .bool false, .string eS, .string eS, .bool false, .string eS, .string eS, .bool false, .string eS, .string eS, .bool false, .string eS, .string eS, .bool false, .string eS, .string eS, .bool false, .string eS, .string eS]
 exact post_pl (p := 2) (u := 3) (cs := [nilS, nilS, nilS, .bool false, .string eS, .string eS, .bool false, .string eS, .string eS, .bool false, .string eS, .string eS, .bool false, .string eS, .string eS, .bool false, .string eS, .string eS, .bool false, .string eS, .string eS, .bool false, .string eS, .string eS, .bool false, .string eS, .string eS, .bool false, .string eS, .string eS, .bool false, .string eS, .string eS, .bool false, .string eS, .string eS, .bool false, .string eS, .string eS]) (by kernel_rfl) rfl rfl rfl (kz.rowS [nilS, nilS, nilS, .bool false, .string eS, .string eS, .bool false, .string eS, .string eS, .bool false, .string eS, .string eS, .bool false, .string eS, .string eS, .bool false, .string eS, .string eS, .bool false, .string eS, .string eS, .bool false, .string eS, .string eS, .bool false, .string eS, .string eS, .bool false, .string eS, .string eS, .bool false, .string eS, .string eS, .bool false, .string eS, .string eS, .bool false, .string eS, .string eS]) rfl ⟨[nilS, nilS, nilS, .bool false, .string eS, .string eS, .bool false, .string eS, .string eS, .bool false, .string eS, .string eS, .bool false, .string eS, .string eS, .bool false, .string eS, .string eS, .bool false, .string eS, .string eS, .bool false, .string eS, .string eS, .bool false, .string eS, .string eS, .bool false, .string eS, .string eS, .bool false, .string eS, .string eS, .bool false, .string eS, .string eS, .bool false, .string eS, .string eS], rfl, planAt_zero _ _, oZ.below b0 (Nat.le_refl _)⟩
theorem rparse_any (P : ByteArray → Q3) (E : ByteArray → Int) (hP : PR3 P E) (s : ByteArray) (w : World) :
  Calls Tryz.prog 19 #[.string s] w fun e w' => ∃ cs : List Value, e = .returned (.tuple #[.agg cs.toArray, .int .i64 (psp P E s).2]) ∧ PlanAt w' w.heap.size cs (psp P E s).1 ∧ Below w.heap.size w w' := by
 by_cases hs : 20000 < s.size
 ·have hps : psp P E s = (zPl, 5) := by unfold psp; rw [if_pos hs]
  rw [hps]
  exact rparse_long s w hs
 ·have h := both_read P E (toks s)
  refine (rparse_ok P E hP s w (by omega)).mono ?_
  rintro e w' ⟨cs, rfl, hp, b⟩
  by_cases h6 : r6 P E (toks s) = some []
  ·have hq := h.1.1 h6
   have hps : psp P E s = (rpl P E (toks s), 0) := by unfold psp plan; rw [if_neg hs, if_pos h6]
   rw [if_pos hq, h.2 h6] at hp
   rw [hps, if_pos hq]
   exact ⟨cs, rfl, hp, b⟩
  ·have hq : ¬ q6 P E (toks s) = ([], false) := fun e => h6 (h.1.2 e)
   have hps : psp P E s = (zPl, 4) := by unfold psp plan; rw [if_neg hs, if_neg h6]
   rw [if_neg hq] at hp
   rw [hps, if_neg hq]
   exact ⟨cs, rfl, hp, b⟩
end Go.Proofs.YtnplifkgeeicjaaGreatDoor
