/-
  Package whole: Div.
  Package whole: Div of numbers that may be.
  Package whole: Div by 0.
  Package whole: Div where nothing is added.
  Package whole: Div where the rest would be below 0.
  Package whole: read of one number; powersUpTo of one limb.
-/
import Derived.Test.YtimmgjlojplccaaGreatDoorG21
import Derived.Test.YtimmgjlojplccaaGreatDoorG24
import Derived.Test.YtimmgjlojplccaaGreatDoorG09
namespace Go.Proofs.YtimmgjlojplccaaGreatDoor
open Go.RowKit

theorem boxes5 (w : World) (x0 x1 y0 y1 : Value) : ∃ w0, w0 = ((((w.alloc (.cells #[x0, x1] 24)).alloc (.cells #[y0, y1] 24)).alloc (.cells #[.bool false, .string { data := #[] }] 24)).alloc (.cells #[.bool false, .string { data := #[] }] 24)).alloc (.cells #[x0, x1, y0, y1] 24) ∧
    Cel w0 w.heap.size [x0, x1] 24 ∧ Cel w0 (w.heap.size + 1) [y0, y1] 24 ∧ Cel w0 (w.heap.size + 1 + 1) [.bool false, .string { data := #[] }] 24 ∧ Cel w0 (w.heap.size + 1 + 1 + 1) [.bool false, .string { data := #[] }] 24 ∧ Cel w0 (w.heap.size + 1 + 1 + 1 + 1) [x0, x1, y0, y1] 24 ∧ Below w.heap.size w w0 := by
  refine ⟨_, rfl, ((((Cel.new w [x0, x1] 24).alloc _).alloc _).alloc _).alloc _, ?_, ?_, ?_, ?_, by go_grown⟩
  · have := (((Cel.new (w.alloc (.cells #[x0, x1] 24)) [y0, y1] 24).alloc (.cells #[.bool false, .string { data := #[] }] 24)).alloc (.cells #[.bool false, .string { data := #[] }] 24)).alloc (.cells #[x0, x1, y0, y1] 24)
    simpa using this
  · have := ((Cel.new ((w.alloc (.cells #[x0, x1] 24)).alloc (.cells #[y0, y1] 24)) [.bool false, .string { data := #[] }] 24).alloc (.cells #[.bool false, .string { data := #[] }] 24)).alloc (.cells #[x0, x1, y0, y1] 24)
    simpa using this
  · have := (Cel.new (((w.alloc (.cells #[x0, x1] 24)).alloc (.cells #[y0, y1] 24)).alloc (.cells #[.bool false, .string { data := #[] }] 24)) [.bool false, .string { data := #[] }] 24).alloc (.cells #[x0, x1, y0, y1] 24)
    simpa using this
  · have := Cel.new ((((w.alloc (.cells #[x0, x1] 24)).alloc (.cells #[y0, y1] 24)).alloc (.cells #[.bool false, .string { data := #[] }] 24)).alloc (.cells #[.bool false, .string { data := #[] }] 24)) [x0, x1, y0, y1] 24
    simpa using this

theorem ediv_neg_nat (X Y : Nat) (hY : 0 < Y) : (-(X : Int)) / (Y : Int) = (if X % Y = 0 then -((X / Y : Nat) : Int) else -((X / Y + 1 : Nat) : Int)) ∧ (-(X : Int)) % (Y : Int) = (if X % Y = 0 then 0 else ((Y - X % Y : Nat) : Int)) := by
  have hd := Nat.div_add_mod X Y
  have hl := Nat.mod_lt X hY
  refine (Int.ediv_emod_unique (by omega)).2 ?_
  generalize X / Y = q at *
  generalize X % Y = r at *
  have e : (X : Int) = (Y : Int) * (q : Int) + (r : Int) := by rw [← hd]; simp
  by_cases h : r = 0
  · subst h
    simp only [if_true]
    refine ⟨?_, by omega, by omega⟩
    rw [e, Int.mul_neg]; simp
  · rw [if_neg h, if_neg h]
    refine ⟨?_, by omega, by omega⟩
    rw [e, Int.natCast_add, Int.mul_neg, Int.mul_add]
    have : ((Y - r : Nat) : Int) = (Y : Int) - (r : Int) := by omega
    rw [this]
    simp
    omega
/-- What Div tells: the quotient. -/
theorem sgn_ediv (a b : Bool) (X Y : Nat) (hY : 0 < Y) : sgn a X / sgn b Y = sgn (a != b) (if a = true ∧ X % Y ≠ 0 then X / Y + 1 else X / Y) ∧ sgn a X % sgn b Y = sgn false (if a = true ∧ X % Y ≠ 0 then Y - X % Y else X % Y) := by
  have h := ediv_neg_nat X Y hY
  cases a <;> cases b
  · simp [sgn]
  · simp [sgn, Int.ediv_neg]
  · rw [show sgn true X = -(X : Int) from rfl, show sgn false Y = (Y : Int) from rfl, h.1, h.2]
    by_cases h0 : X % Y = 0
    · simp [sgn, h0]
    · simp [sgn, h0]
  · rw [show sgn true X = -(X : Int) from rfl, show sgn true Y = -(Y : Int) from rfl, Int.ediv_neg, Int.emod_neg, h.1, h.2]
    by_cases h0 : X % Y = 0
    · simp [sgn, h0]
    · simp [sgn, h0]

set_option maxRecDepth 100000 in
set_option maxHeartbeats 2000000 in
theorem zdiv_bad (n0 n1 : Bool) (s0 s1 : ByteArray) (w : World) (hbad : two n0 s0 n1 s1 ≠ 0) :
    Calls Tryz.prog 13 #[.agg #[.bool n0, .string s0], .agg #[.bool n1, .string s1]] w fun e w' => e = .returned (.tuple #[zI 0, zI 0, .int .i64 (two n0 s0 n1 s1 : Nat)]) ∧ Below w.heap.size w w' := by
  have HR := shut (fun B wx hB => read2_bad B n0 n1 s0 s1 wx hB hbad)
  rw [zI_zero]
  generalize two n0 s0 n1 s1 = c at *
  have hbad' : ¬ (c : Int) = 0 := by omega
  go_enter Tryz.func13, Tryz.ntmps13
  go_wp2_with fail
  obtain ⟨w0, hw0, k0, k1, k2, k4, k3, hb0⟩ := boxes5 w (.bool n0) (.string s0) (.bool n1) (.string s1)
  rw [← hw0]
  clear hw0
  refine (HR.out _ w0 k3).mono ?_
  rintro e w1 ⟨rfl, hb⟩
  have m2 := k2.below hb
  have m4 := k4.below hb
  have bb := Below.after hb0 hb
  have e0 := cel2_0 m2
  have e1 := cel2_1 m2
  have f0 := m2.frozen 0
  have f1 := m2.frozen 1
  have e2 := cel2_0 m4
  have e3 := cel2_1 m4
  have f2 := m4.frozen 0
  have f3 := m4.frozen 1
  go_wp2
  exact post_zz1 (p := 4) (q := 5) (u := 6) (by kernel_rfl) rfl rfl rfl rfl ((((m2.set 0 _).set 1 _).other (by omega) _ _).other (by omega) _ _) ((((m4.other (by omega) _ _).other (by omega) _ _).set 0 _).set 1 _) ⟨rfl, (((bb.setCell (by simp; omega) _).setCell (by simp; omega) _).setCell (by simp; omega) _).setCell (by simp; omega) _⟩
end Go.Proofs.YtimmgjlojplccaaGreatDoor
namespace Go.Proofs.YtimmgjlojplccaaGreatDoor
open Go.RowKit

theorem succ_lt_pow {b k x : Nat} (hb : 2 ≤ b) (h : x < b ^ k) : x + 1 < b ^ (k + 1) := by
  rw [Nat.pow_succ]
  have h1 : b ^ k * 2 ≤ b ^ k * b := Nat.mul_le_mul_left _ hb
  generalize b ^ k = p at *
  omega
theorem digs_pos {b n : Nat} (hb : 2 ≤ b) (h : n ≠ 0) : 0 < (M.digs b n).length := by
  refine Nat.pos_of_ne_zero fun h0 => ?_
  have := M.val_digs hb n
  rw [List.length_eq_zero_iff.1 h0, M.val_nil] at this
  omega
theorem digs_zero {b n : Nat} (h : n = 0) : (M.digs b n).length = 0 := by subst h; rfl

theorem divmod_pos {X Y K : Nat} (hY : 0 < Y) (hK : K ≤ 4000) (hx : X < B64 ^ K) (hy : Y < B64 ^ K) (v0 v1 : Value) (wx : World) (r0 : Rd wx v0 (M.digs B64 X)) (r1 : Rd wx v1 (M.digs B64 Y)) :
    Calls Tryz.prog 28 #[v0, v1] wx fun e w' => ∃ q r, e = .returned (.tuple #[q, r, .int .i64 0]) ∧ Rd w' q (M.digs B64 (X / Y)) ∧ Rd w' r (M.digs B64 (X % Y)) ∧ Below wx.heap.size wx w' := by
  have := divmod_any v0 v1 _ _ wx r0 r1 (M.Low.digs B64_two _) (M.Low.digs B64_two _) (Nat.le_trans (M.digs_len_of_lt B64_two hx) hK) (Nat.le_trans (M.digs_len_of_lt B64_two hy) hK)
  rw [M.val_digs B64_two, M.val_digs B64_two] at this
  refine this.mono ?_
  rintro e w' ⟨-, h, hb⟩
  obtain ⟨q, r, rfl, hq, hr⟩ := h hY
  exact ⟨q, r, rfl, hq, hr, hb⟩
theorem divmod_zero {X Y K : Nat} (hY : Y = 0) (hK : K ≤ 4000) (hx : X < B64 ^ K) (hy : Y < B64 ^ K) (v0 v1 : Value) (wx : World) (r0 : Rd wx v0 (M.digs B64 X)) (r1 : Rd wx v1 (M.digs B64 Y)) :
    Calls Tryz.prog 28 #[v0, v1] wx fun e w' => e = .returned (.tuple #[.slice none 0 0, .slice none 0 0, .int .i64 3]) ∧ Below wx.heap.size wx w' := by
  have := divmod_any v0 v1 _ _ wx r0 r1 (M.Low.digs B64_two _) (M.Low.digs B64_two _) (Nat.le_trans (M.digs_len_of_lt B64_two hx) hK) (Nat.le_trans (M.digs_len_of_lt B64_two hy) hK)
  rw [M.val_digs B64_two, M.val_digs B64_two] at this
  refine this.mono ?_
  rintro e w' ⟨h, -, hb⟩
  exact ⟨h hY, hb⟩
theorem tell_dig (neg : Bool) {V K : Nat} (hK : K ≤ 4000) (hV : V < B64 ^ K) (v : Value) (wx : World) (hr : Rd wx v (M.digs B64 V)) :
    Calls Tryz.prog 27 #[.agg #[.bool neg, v]] wx fun e w' => e = .returned (zI (sgn neg V)) ∧ Below wx.heap.size wx w' := by
  have := tell_any neg v _ wx hr (M.Low.digs B64_two _) (Nat.le_trans (M.digs_len_of_lt B64_two hV) hK)
  rwa [M.val_digs B64_two] at this

end Go.Proofs.YtimmgjlojplccaaGreatDoor
namespace Go.Proofs.YtimmgjlojplccaaGreatDoor
open Go.RowKit

set_option maxRecDepth 100000 in
set_option maxHeartbeats 4000000 in
theorem zdiv_zero (n0 n1 : Bool) (s0 s1 : ByteArray) (w : World) (o0 : OkZ n0 s0) (o1 : OkZ n1 s1) (z0 : s0.size ≤ 16000) (z1 : s1.size ≤ 16000) (hY : natOf s1 = 0) :
    Calls Tryz.prog 13 #[.agg #[.bool n0, .string s0], .agg #[.bool n1, .string s1]] w fun e w' => e = .returned (.tuple #[zI 0, zI 0, .int .i64 3]) ∧ Below w.heap.size w w' := by
  have HM := shut (fun v0 v1 wx r0 r1 => divmod_zero (X := natOf s0) (Y := natOf s1) (K := 2000) hY (by omega) (natOf_lt8 2000 (by omega)) (natOf_lt8 2000 (by omega)) v0 v1 wx r0 r1)
  clear hY
  rw [zI_zero]
  go_enter Tryz.func13, Tryz.ntmps13
  go_wp2_with fail
  obtain ⟨w0, hw0, k0, k1, k2, k4, k3, hb0⟩ := boxes5 w (.bool n0) (.string s0) (.bool n1) (.string s1)
  rw [← hw0]
  clear hw0
  refine (read2_ok _ n0 n1 s0 s1 w0 k3 o0 o1 (by omega) (by omega)).mono ?_
  rintro e w1 ⟨g, v0, v1, rfl, kg, r0, r1, hg, hb⟩
  have c0 := kg.cell 0
  have c1 := kg.cell 1
  have c2 := kg.cell 2
  have c3 := kg.cell 3
  simp only [List.getElem?_cons_zero, List.getElem?_cons_succ] at c0 c1 c2 c3
  have m2 := k2.below hb
  have m4 := k4.below hb
  have bb := Below.after hb0 hb
  have H31 := shut (HM.out v0 v1 w1.drew (show Rd w1 _ _ from r0.rd) (show Rd w1 _ _ from r1.rd))
  clear HM k0 k1 k2 k3 k4 kg
  obtain ⟨a0, p0, rfl, -, -⟩ := id r0
  obtain ⟨a1, p1, rfl, -, -⟩ := id r1
  go_wp2
  go_region_held3 (fun w' => w'.cell? ⟨g, 1, none⟩ = some (.slice a0 (M.digs B64 (natOf s0)).length p0) ∧ w'.cell? ⟨g, 3, none⟩ = some (.slice a1 (M.digs B64 (natOf s1)).length p1)) (first | exact ⟨c1, c3⟩ | exact ⟨cell_below c1 b31, cell_below c3 b31⟩) (first | (go_at_call 28; refine (H31.out).mono ?_; rintro e w2 ⟨rfl, b31'⟩; have b31 : Below w1.heap.size w1 w2 := ⟨b31'.os, b31'.tape, b31'.output, b31'.size, b31'.block⟩))
  have q2 := m2.below b31
  have q4 := m4.below b31
  have bb2 := Below.after bb b31
  have e0 := cel2_0 q2
  have e1 := cel2_1 q2
  have f0 := q2.frozen 0
  have f1 := q2.frozen 1
  have e2 := cel2_0 q4
  have e3 := cel2_1 q4
  have f2 := q4.frozen 0
  have f3 := q4.frozen 1
  clear m2 m4 c0 c1 c2 c3 r0 r1 H31
  go_wp2
  exact post_zz1 (p := 4) (q := 5) (u := 6) (by kernel_rfl) rfl rfl rfl rfl ((((q2.set 0 _).set 1 _).other (by omega) _ _).other (by omega) _ _) ((((q4.other (by omega) _ _).other (by omega) _ _).set 0 _).set 1 _) ⟨rfl, (((bb2.setCell (by simp; omega) _).setCell (by simp; omega) _).setCell (by simp; omega) _).setCell (by simp; omega) _⟩

end Go.Proofs.YtimmgjlojplccaaGreatDoor
namespace Go.Proofs.YtimmgjlojplccaaGreatDoor
open Go.RowKit

set_option maxRecDepth 100000 in
set_option maxHeartbeats 4000000 in
theorem zdiv_plain (n0 n1 : Bool) (s0 s1 : ByteArray) (w : World) (o0 : OkZ n0 s0) (o1 : OkZ n1 s1) (z0 : s0.size ≤ 16000) (z1 : s1.size ≤ 16000) (hY : 0 < natOf s1) (hp : n0 = false ∨ (M.digs B64 (natOf s0 % natOf s1)).length = 0) :
    Calls Tryz.prog 13 #[.agg #[.bool n0, .string s0], .agg #[.bool n1, .string s1]] w fun e w' => e = .returned (.tuple #[zI (sgn (n0 != n1) (natOf s0 / natOf s1)), zI (sgn false (natOf s0 % natOf s1)), .int .i64 0]) ∧ Below w.heap.size w w' := by
  have HM := shut (fun v0 v1 wx r0 r1 => divmod_pos (X := natOf s0) (Y := natOf s1) (K := 2000) hY (by omega) (natOf_lt8 2000 (by omega)) (natOf_lt8 2000 (by omega)) v0 v1 wx r0 r1)
  have HQ := shut (fun v wx hr => tell_dig (n0 != n1) (K := 2000) (V := natOf s0 / natOf s1) (by omega) (Nat.lt_of_le_of_lt (Nat.div_le_self _ _) (natOf_lt8 2000 (by omega))) v wx hr)
  have HR := shut (fun v wx hr => tell_dig false (K := 2000) (V := natOf s0 % natOf s1) (by omega) (Nat.lt_of_le_of_lt (Nat.mod_le _ _) (natOf_lt8 2000 (by omega))) v wx hr)
  have HP := shut hp
  clear hp hY
  generalize hR1 : zI (sgn (n0 != n1) (natOf s0 / natOf s1)) = R1 at *
  generalize hR2 : zI (sgn false (natOf s0 % natOf s1)) = R2 at *
  obtain ⟨za, zb, rfl⟩ : ∃ a b, R1 = .agg #[.bool a, .string b] := ⟨_, _, hR1.symm⟩
  obtain ⟨zc, zd, rfl⟩ : ∃ a b, R2 = .agg #[.bool a, .string b] := ⟨_, _, hR2.symm⟩
  clear hR1 hR2
  go_enter Tryz.func13, Tryz.ntmps13
  go_wp2_with fail
  obtain ⟨w0, hw0, k0, k1, k2, k4, k3, hb0⟩ := boxes5 w (.bool n0) (.string s0) (.bool n1) (.string s1)
  rw [← hw0]
  clear hw0
  refine (read2_ok _ n0 n1 s0 s1 w0 k3 o0 o1 (by omega) (by omega)).mono ?_
  rintro e w1 ⟨g, v0, v1, rfl, kg, r0, r1, hg, hb⟩
  have c0 := kg.cell 0
  have c1 := kg.cell 1
  have c2 := kg.cell 2
  have c3 := kg.cell 3
  simp only [List.getElem?_cons_zero, List.getElem?_cons_succ] at c0 c1 c2 c3
  have m0 := k0.below hb
  have m1 := k1.below hb
  have m2 := k2.below hb
  have m4 := k4.below hb
  have bb := Below.after hb0 hb
  have H31 := shut (HM.out v0 v1 w1.drew (show Rd w1 _ _ from r0.rd) (show Rd w1 _ _ from r1.rd))
  clear HM k0 k1 k2 k3 k4 kg
  obtain ⟨a0, p0, rfl, -, -⟩ := id r0
  obtain ⟨a1, p1, rfl, -, -⟩ := id r1
  go_wp2
  go_region_held3 (fun w' => w'.cell? ⟨g, 1, none⟩ = some (.slice a0 (M.digs B64 (natOf s0)).length p0) ∧ w'.cell? ⟨g, 3, none⟩ = some (.slice a1 (M.digs B64 (natOf s1)).length p1)) (first | exact ⟨c1, c3⟩ | exact ⟨cell_below c1 b31, cell_below c3 b31⟩) (first | (go_at_call 28; refine (H31.out).mono ?_; rintro e w2 ⟨vq, vr, rfl, rq, rr, b31'⟩; have b31 : Below w1.heap.size w1 w2 := ⟨b31'.os, b31'.tape, b31'.output, b31'.size, b31'.block⟩; obtain ⟨aq, cq, rfl, -, -⟩ := id rq; obtain ⟨ar, cr, rfl, -, -⟩ := id rr))
  have q0 := m0.below b31
  have q1 := m1.below b31
  have q2 := m2.below b31
  have q4 := m4.below b31
  have bb2 := Below.after bb b31
  have d0 := cel2_0 q0
  have d1 := cel2_0 q1
  clear m0 m1 m2 m4 c0 c1 c2 c3 r0 r1 H31
  have hQ := HQ.out _ _ rq
  rcases HP.out with rfl | hp
  · rw [Bool.false_bne] at hQ
    clear HQ HP
    go_wp2_with fail
    refine hQ.mono ?_
    rintro e w4 ⟨rfl, hb4⟩
    go_wp2_with fail
    refine (HR.out _ _ (rr.below hb4)).mono ?_
    rintro e w5 ⟨rfl, hb5⟩
    have bb5 := Below.after hb4 hb5
    have p2 := q2.below bb5
    have p4 := q4.below bb5
    have bbb := Below.after bb2 bb5
    have e0 := cel2_0 p2
    have e1 := cel2_1 p2
    have f0 := p2.frozen 0
    have f1 := p2.frozen 1
    have e2 := cel2_0 p4
    have e3 := cel2_1 p4
    have f2 := p4.frozen 0
    have f3 := p4.frozen 1
    go_wp2
    exact post_zz1 (p := 4) (q := 5) (u := 6) (by kernel_rfl) rfl rfl rfl rfl ((((p2.set 0 _).set 1 _).other (by omega) _ _).other (by omega) _ _) ((((p4.other (by omega) _ _).other (by omega) _ _).set 0 _).set 1 _) ⟨rfl, (((bbb.setCell (by simp; omega) _).setCell (by simp; omega) _).setCell (by simp; omega) _).setCell (by simp; omega) _⟩
  · rw [hp] at rr
    clear HP HQ
    cases n0 <;>
    · first | rw [Bool.false_bne] at hQ | rw [Bool.true_bne] at hQ
      go_wp2_with fail
      refine hQ.mono ?_
      rintro e w4 ⟨rfl, hb4⟩
      go_wp2_with fail
      refine (HR.out _ _ (rr.below hb4)).mono ?_
      rintro e w5 ⟨rfl, hb5⟩
      have bb5 := Below.after hb4 hb5
      have p2 := q2.below bb5
      have p4 := q4.below bb5
      have bbb := Below.after bb2 bb5
      have e0 := cel2_0 p2
      have e1 := cel2_1 p2
      have f0 := p2.frozen 0
      have f1 := p2.frozen 1
      have e2 := cel2_0 p4
      have e3 := cel2_1 p4
      have f2 := p4.frozen 0
      have f3 := p4.frozen 1
      go_wp2
      exact post_zz1 (p := 4) (q := 5) (u := 6) (by kernel_rfl) rfl rfl rfl rfl ((((p2.set 0 _).set 1 _).other (by omega) _ _).other (by omega) _ _) ((((p4.other (by omega) _ _).other (by omega) _ _).set 0 _).set 1 _) ⟨rfl, (((bbb.setCell (by simp; omega) _).setCell (by simp; omega) _).setCell (by simp; omega) _).setCell (by simp; omega) _⟩
end Go.Proofs.YtimmgjlojplccaaGreatDoor
namespace Go.Proofs.YtimmgjlojplccaaGreatDoor
open Go.RowKit

theorem add_one {V K : Nat} (hK : K ≤ 4000) (hV : V < B64 ^ K) (v0 v1 : Value) (wx : World) (r0 : Rd wx v0 (M.digs B64 V)) (r1 : Rd wx v1 [1]) :
    Calls Tryz.prog 29 #[v0, v1] wx fun e w' => ∃ v, e = .returned (.tuple #[v, .int .i64 0]) ∧ Rd w' v (M.digs B64 (V + 1)) ∧ Below wx.heap.size wx w' := by
  have := add_any v0 v1 _ _ wx r0 r1 (M.Low.digs B64_two _) (low_of_all (by simp; unfold B64; omega)) (Nat.le_trans (M.digs_len_of_lt B64_two hV) hK) (by simp)
  rwa [M.val_digs B64_two, show M.val B64 [1] = 1 from by rw [M.val_cons, M.val_nil]; omega] at this
theorem sub_dig {X Y K : Nat} (hK : K ≤ 4000) (hx : X < B64 ^ K) (hy : Y < B64 ^ K) (hle : Y ≤ X) (v0 v1 : Value) (wx : World) (r0 : Rd wx v0 (M.digs B64 X)) (r1 : Rd wx v1 (M.digs B64 Y)) :
    Calls Tryz.prog 30 #[v0, v1] wx fun e w' => ∃ v, e = .returned (.tuple #[v, .int .i64 0]) ∧ Rd w' v (M.digs B64 (X - Y)) ∧ Below wx.heap.size wx w' := by
  have := sub_any v0 v1 _ _ wx r0 r1 (M.Low.digs B64_two _) (M.Low.digs B64_two _) (Nat.le_trans (M.digs_len_of_lt B64_two hx) hK) (Nat.le_trans (M.digs_len_of_lt B64_two hy) hK)
  rw [M.val_digs B64_two, M.val_digs B64_two] at this
  refine this.mono ?_
  rintro e w' ⟨h, -, hb⟩
  obtain ⟨v, rfl, hr⟩ := h hle
  exact ⟨v, rfl, hr, hb⟩

set_option maxRecDepth 100000 in
set_option maxHeartbeats 4000000 in
theorem zdiv_more (n1 : Bool) (s0 s1 : ByteArray) (w : World) (o0 : OkZ true s0) (o1 : OkZ n1 s1) (z0 : s0.size ≤ 16000) (z1 : s1.size ≤ 16000) (hY : 0 < natOf s1) (hp : 0 < (M.digs B64 (natOf s0 % natOf s1)).length) :
    Calls Tryz.prog 13 #[.agg #[.bool true, .string s0], .agg #[.bool n1, .string s1]] w fun e w' => e = .returned (.tuple #[zI (sgn (!n1) (natOf s0 / natOf s1 + 1)), zI (sgn false (natOf s1 - natOf s0 % natOf s1)), .int .i64 0]) ∧ Below w.heap.size w w' := by
  have HM := shut (fun v0 v1 wx r0 r1 => divmod_pos (X := natOf s0) (Y := natOf s1) (K := 2000) hY (by omega) (natOf_lt8 2000 (by omega)) (natOf_lt8 2000 (by omega)) v0 v1 wx r0 r1)
  have HA := shut (fun v0 v1 wx r0 r1 => add_one (V := natOf s0 / natOf s1) (K := 2000) (by omega) (Nat.lt_of_le_of_lt (Nat.div_le_self _ _) (natOf_lt8 2000 (by omega))) v0 v1 wx r0 r1)
  have HS := shut (fun v0 v1 wx r0 r1 => sub_dig (X := natOf s1) (Y := natOf s0 % natOf s1) (K := 2000) (by omega) (natOf_lt8 2000 (by omega)) (Nat.lt_of_le_of_lt (Nat.mod_le _ _) (natOf_lt8 2000 (by omega))) (Nat.le_of_lt (Nat.mod_lt _ hY)) v0 v1 wx r0 r1)
  have HQ := shut (fun v wx hr => tell_dig (!n1) (K := 2000 + 1) (V := natOf s0 / natOf s1 + 1) (by omega) (succ_lt_pow B64_two (Nat.lt_of_le_of_lt (Nat.div_le_self _ _) (natOf_lt8 2000 (by omega)))) v wx hr)
  have HR := shut (fun v wx hr => tell_dig false (K := 2000) (V := natOf s1 - natOf s0 % natOf s1) (by omega) (Nat.lt_of_le_of_lt (Nat.sub_le _ _) (natOf_lt8 2000 (by omega))) v wx hr)
  have HP := shut hp
  clear hp hY
  generalize hR1 : zI (sgn (!n1) (natOf s0 / natOf s1 + 1)) = R1 at *
  generalize hR2 : zI (sgn false (natOf s1 - natOf s0 % natOf s1)) = R2 at *
  obtain ⟨za, zb, rfl⟩ : ∃ a b, R1 = .agg #[.bool a, .string b] := ⟨_, _, hR1.symm⟩
  obtain ⟨zc, zd, rfl⟩ : ∃ a b, R2 = .agg #[.bool a, .string b] := ⟨_, _, hR2.symm⟩
  clear hR1 hR2
  go_enter Tryz.func13, Tryz.ntmps13
  go_wp2_with fail
  obtain ⟨w0, hw0, k0, k1, k2, k4, k3, hb0⟩ := boxes5 w (.bool true) (.string s0) (.bool n1) (.string s1)
  rw [← hw0]
  clear hw0
  refine (read2_ok _ true n1 s0 s1 w0 k3 o0 o1 (by omega) (by omega)).mono ?_
  rintro e w1 ⟨g, v0, v1, rfl, kg, r0, r1, hg, hb⟩
  have c0 := kg.cell 0
  have c1 := kg.cell 1
  have c2 := kg.cell 2
  have c3 := kg.cell 3
  simp only [List.getElem?_cons_zero, List.getElem?_cons_succ] at c0 c1 c2 c3
  have m0 := k0.below hb
  have m1 := k1.below hb
  have m2 := k2.below hb
  have m4 := k4.below hb
  have bb := Below.after hb0 hb
  have H31 := shut (HM.out v0 v1 w1.drew (show Rd w1 _ _ from r0.rd) (show Rd w1 _ _ from r1.rd))
  clear HM k0 k1 k2 k3 k4
  obtain ⟨a0, p0, rfl, -, -⟩ := id r0
  obtain ⟨a1, p1, rfl, -, -⟩ := id r1
  go_wp2
  go_region_held3 (fun w' => w'.cell? ⟨g, 1, none⟩ = some (.slice a0 (M.digs B64 (natOf s0)).length p0) ∧ w'.cell? ⟨g, 3, none⟩ = some (.slice a1 (M.digs B64 (natOf s1)).length p1)) (first | exact ⟨c1, c3⟩ | exact ⟨cell_below c1 b31, cell_below c3 b31⟩) (first | (go_at_call 28; refine (H31.out).mono ?_; rintro e w2 ⟨vq, vr, rfl, rq, rr, b31'⟩; have b31 : Below w1.heap.size w1 w2 := ⟨b31'.os, b31'.tape, b31'.output, b31'.size, b31'.block⟩; obtain ⟨aq, cq, rfl, -, -⟩ := id rq; obtain ⟨ar, cr, rfl, -, -⟩ := id rr))
  have q0 := m0.below b31
  have q1 := m1.below b31
  have q2 := m2.below b31
  have q4 := m4.below b31
  have qg := kg.below b31
  have qr1 := r1.rd.below b31
  have bb2 := Below.after bb b31
  have d0 := cel2_0 q0
  clear m0 m1 m2 m4 c0 c1 c2 c3 r0 r1 H31 kg
  have hp := HP.out
  go_wp2_with fail
  obtain ⟨w3, hw3⟩ : ∃ w3, w3 = w2.alloc (.cells #[.int .u64 1] 56) := ⟨_, rfl⟩
  have hb3 : Below w2.heap.size w2 w3 := by rw [hw3]; exact (Below.refl _ _).alloc (Nat.le_refl _) _
  have ro : Rd w3 (.slice (some ⟨w2.heap.size, 0, none⟩) 1 1) [1] := by rw [hw3]; exact rd1 w2 rfl 1
  rw [← hw3]
  clear hw3
  refine (HA.out _ _ w3 (rq.below hb3) ro).mono ?_
  rintro e w4 ⟨vq', rfl, rq', hb4⟩
  obtain ⟨aq', cq', rfl, -, -⟩ := id rq'
  have bb4 := Below.after hb3 hb4
  have g3 := (qg.below bb4).cell 3
  simp only [List.getElem?_cons_zero, List.getElem?_cons_succ] at g3
  go_wp2_with fail
  refine (HS.out _ _ w4 (qr1.below bb4) (rr.below bb4)).mono ?_
  rintro e w5 ⟨vr', rfl, rr', hb5⟩
  obtain ⟨ar', cr', rfl, -, -⟩ := id rr'
  have bb5 := Below.after bb4 hb5
  have d0 := cel2_0 (q0.below bb5)
  have d1 := cel2_0 (q1.below bb5)
  have hQ := HQ.out _ _ (rq'.below hb5)
  go_wp2_with fail
  refine hQ.mono ?_
  rintro e w6 ⟨rfl, hb6⟩
  go_wp2_with fail
  refine (HR.out _ _ (rr'.below hb6)).mono ?_
  rintro e w7 ⟨rfl, hb7⟩
  have bb7 := Below.after (Below.after bb5 hb6) hb7
  have p2 := q2.below bb7
  have p4 := q4.below bb7
  have bbb := Below.after bb2 bb7
  have e0 := cel2_0 p2
  have e1 := cel2_1 p2
  have f0 := p2.frozen 0
  have f1 := p2.frozen 1
  have e2 := cel2_0 p4
  have e3 := cel2_1 p4
  have f2 := p4.frozen 0
  have f3 := p4.frozen 1
  go_wp2
  exact post_zz1 (p := 4) (q := 5) (u := 6) (by kernel_rfl) rfl rfl rfl rfl ((((p2.set 0 _).set 1 _).other (by omega) _ _).other (by omega) _ _) ((((p4.other (by omega) _ _).other (by omega) _ _).set 0 _).set 1 _) ⟨rfl, (((bbb.setCell (by simp; omega) _).setCell (by simp; omega) _).setCell (by simp; omega) _).setCell (by simp; omega) _⟩

theorem zdiv_ok (n0 n1 : Bool) (s0 s1 : ByteArray) (w : World) (o0 : OkZ n0 s0) (o1 : OkZ n1 s1) (z0 : s0.size ≤ 16000) (z1 : s1.size ≤ 16000) (hY : 0 < natOf s1) :
    Calls Tryz.prog 13 #[.agg #[.bool n0, .string s0], .agg #[.bool n1, .string s1]] w fun e w' => e = .returned (.tuple #[zI (zOf n0 s0 / zOf n1 s1), zI (zOf n0 s0 % zOf n1 s1), .int .i64 0]) ∧ Below w.heap.size w w' := by
  rw [← sgn_natOf, ← sgn_natOf, (sgn_ediv n0 n1 _ _ hY).1, (sgn_ediv n0 n1 _ _ hY).2]
  by_cases h : n0 = true ∧ natOf s0 % natOf s1 ≠ 0
  · rw [if_pos h, if_pos h]
    obtain ⟨rfl, h⟩ := h
    rw [Bool.true_bne]
    exact zdiv_more n1 s0 s1 w o0 o1 z0 z1 hY (digs_pos B64_two h)
  · rw [if_neg h, if_neg h]
    refine zdiv_plain n0 n1 s0 s1 w o0 o1 z0 z1 hY ?_
    cases n0 with
    | false => exact Or.inl rfl
    | true =>
      refine Or.inr (digs_zero ?_)
      exact Classical.not_not.1 fun h0 => h ⟨rfl, h0⟩
end Go.Proofs.YtimmgjlojplccaaGreatDoor
namespace Go.Proofs.YtimmgjlojplccaaGreatDoor
open Go.RowKit Go.Shelf

theorem run_mk1 (w : World) : (Instr.makeSlice 43 (.int .i64 1) (.int .i64 1)).run Tryz.prog w = .ok (.slice (some ⟨w.heap.size, 0, none⟩) 1 1) (w.alloc (.cells #[.bool false, .slice none 0 0] 49)) := by
  obtain ⟨i0, hi, hz0, hz1, hz2⟩ := info_parts (show (Tryz.prog.info? 49).map (fun i => (i.zero, i.size, i.bytes)) = some (some (.agg #[.bool false, .slice none 0 0]), 2, 32) by kernel_rfl)
  have h := run_make (P := Tryz.prog) w 43 49 i0 (.agg #[.bool false, .slice none 0 0]) Tryz.underlying43 hi hz0 .i64 .i64 1 1 (by omega) (by omega) (by rw [hz2]; omega) (by omega)
  rw [h, hz1]
  have e : madeCells (Value.cells (.agg #[.bool false, .slice none 0 0])) (Int.toNat 1 * 2) = #[.bool false, .slice none 0 0] := by
    have : Value.cells (.agg #[.bool false, .slice none 0 0]) = #[.bool false, .slice none 0 0] := by kernel_rfl
    rw [this]
    unfold madeCells
    apply Array.toList_inj.1
    rw [Array.toList_map, Array.toList_range]
    rfl
  rw [e]
  rfl
theorem no_ints1 (n0 : Bool) (a : Option Addr) (l c : Nat) : ∀ (j : Nat) (k : IntKind) (n : Int), [Value.bool n0, .slice a l c][j]? ≠ some (.int k n) := by
  intro j k n
  match j with
  | 0 => simp
  | 1 => simp
  | j + 2 => simp

set_option maxRecDepth 100000 in
set_option maxHeartbeats 2000000 in
theorem read1_ok (B : Nat) (n0 : Bool) (s0 : ByteArray) (w : World) (hB : Cel w B [.bool n0, .string s0] 24) (o0 : OkZ n0 s0) (z0 : s0.size ≤ 32000) :
    Calls Tryz.prog 23 #[.slice (some ⟨B, 0, none⟩) 1 1] w fun e w' => ∃ g v0, e = .returned (.tuple #[.slice (some ⟨g, 0, none⟩) 1 1, .int .i64 0]) ∧ Cel w' g [.bool n0, v0] 49 ∧ RdX w' v0 (M.digs B64 (natOf s0)) g ∧ w.heap.size ≤ g ∧ Below w.heap.size w w' := by
  have hmk := run_mk1 w
  have Z0 := shut ((chk_ok z0).2 o0)
  have H0 := shut o0.1
  clear o0
  go_enter Tryz.func23, Tryz.ntmps23
  go_wp2
  go_loopw [15] (fun i wr => Below w.heap.size w wr ∧ ((i = .int .i64 0 ∧ Cel wr w.heap.size [.bool false, .slice none 0 0] 49) ∨
      (i = .int .i64 1 ∧ ∃ v0, Cel wr w.heap.size [.bool n0, v0] 49 ∧ RdX wr v0 (M.digs B64 (natOf s0)) w.heap.size))) (fun i _ => 1 - (intOf i).toNat)
  case atStart => exact ⟨(Below.refl _ _).alloc (Nat.le_refl _) _, Or.inl ⟨rfl, Cel.new w [.bool false, .slice none 0 0] _⟩⟩
  case round =>
    obtain ⟨hbel, hc⟩ := hrel
    have kB := hB.below hbel
    have b0 := cel2_0' kB
    have b1 := cel2_1' kB
    clear kB
    rcases hc with ⟨rfl, hc⟩ | ⟨rfl, v0, hc, r0⟩
    · go_wp2_with fail
      obtain ⟨w1, hw1⟩ : ∃ w1, w1 = wr.alloc (.cells #[.bool n0, .string s0] 24) := ⟨_, rfl⟩
      have hb1 : Below wr.heap.size wr w1 := by rw [hw1]; exact (Below.refl _ _).alloc (Nat.le_refl _) _
      have k1 : Cel w1 wr.heap.size [.bool n0, .string s0] 24 := by rw [hw1]; exact Cel.new wr _ _
      rw [← hw1]
      clear hw1 b0 b1
      refine (check_any n0 s0 w1).mono ?_
      rintro e w2 ⟨rfl, hb2⟩
      rw [Z0.out]
      have k2 := k1.below hb2
      have d0 := cel2_0' k2
      have d1 := cel2_1' k2
      go_wp2_with fail
      refine (of_any s0 w2 z0 H0.out).mono ?_
      rintro e w3 ⟨v, rfl, rv, hb3⟩
      obtain ⟨av, cv, rfl, -, -⟩ := id rv
      have k3' := k2.below hb3
      have d0 := cel2_0' k3'
      have k3 := ((hc.below hb1).below hb2).below hb3
      have bb3 := Below.after (Below.after (Below.after hbel hb1) hb2) hb3
      have e0 := cel2_0' k3
      have e1 := cel2_1' k3
      have f0 := k3.frozen 0
      have f1 := k3.frozen 1
      have rx := rdx_of_cel rv k3 (no_ints1 _ _ _ _)
      have HRX := shut ((rx.setX 0 (.bool n0)).setX 1 (.slice av (M.digs B64 (natOf s0)).length cv))
      clear rx
      go_wp2
      exact ⟨⟨(bb3.setCell (Nat.le_refl _) _).setCell (Nat.le_refl _) _, Or.inr ⟨by go_num, _, (k3.set 0 _).set 1 _, HRX.out⟩⟩, by simp [intOf]⟩
    · go_wp2
      go_ret2
      exact ⟨_, v0, rfl, hc, r0, Nat.le_refl _, hbel⟩

/-- 10^19. -/
def ten19 : Nat := 10000000000000000000
theorem mul_ten19 (v0 v1 : Value) (w : World) (h0 : Rd w v0 [ten19]) (h1 : Rd w v1 [ten19]) :
    Calls Tryz.prog 26 #[v0, v1] w fun e w' => ∃ v xs, e = .returned (.tuple #[v, .int .i64 0]) ∧ Rd w' v xs ∧ 1 < xs.length ∧ Below w.heap.size w w' := by
  refine (mul_any v0 v1 _ _ w h0 h1 (low_of_all (by decide)) (low_of_all (by decide)) (by simp) (by simp)).mono ?_
  rintro e w' ⟨v, rfl, hr, hb⟩
  refine ⟨v, _, rfl, hr, ?_, hb⟩
  have e : M.val B64 [ten19] = ten19 := by rw [M.val_cons, M.val_nil]; omega
  rw [e]
  rcases Nat.lt_or_ge 1 (M.digs B64 (ten19 * ten19)).length with h | h
  · exact h
  · have h1 := M.val_digs B64_two (ten19 * ten19)
    have h2 := M.Low.digs B64_two (ten19 * ten19)
    generalize M.digs B64 (ten19 * ten19) = l at *
    match l, h with
    | [], _ => simp [M.val_nil, ten19] at h1
    | [x], _ =>
      have : x < B64 := h2 x (by simp)
      rw [M.val_cons, M.val_nil] at h1
      unfold ten19 at h1
      unfold B64 at this
      omega

/-- 'append(nil, x)' of a slice of slices. -/
theorem wpList_appS {w : World} {ops : Array Oper} {rest : List Oper} {o : Oper} {a : Act} {Q : Exit → Act → World → Prop}
    (hg : o.guard = none) (s x : Operand) (hop : o.op = Op.call { callee := Callee.builtin Builtin.append, args := #[s, x], argTypes := #[63, 63] })
    (hs : a.eval s = .slice none 0 0) (b : Nat) (hx : a.eval x = .slice (some ⟨b, 0, none⟩) 1 1) (p : Value) (hp : p.oneCell' = true) (hc : w.cell? ⟨b, 0, none⟩ = some p)
    (hK : ∀ g cap w', w'.cell? ⟨g, 0, none⟩ = some p → 1 ≤ cap → Below w.heap.size w w' → wpList Tryz.prog ops Q rest (a.put o.dst (.slice (some ⟨g, 0, none⟩) 1 cap)) w') :
    wpList Tryz.prog ops Q (o :: rest) a w := by
  obtain ⟨i0, hi, hz0, hz1, hz2⟩ := info_parts (show (Tryz.prog.info? 47).map (fun i => (i.zero, i.size, i.bytes)) = some (some (.slice none 0 0), 1, 24) by kernel_rfl)
  refine wpList_append_own _ hg s x 63 hop w.heap.size 47 i0 (.slice none 0 0) 1 24 Tryz.underlying63 hi hz0 hz1 hz2 rfl (by decide) (.slice none 0 0) 0 [] hs (World.ownsRow_nil _ _ _ _) ⟨b, 0, none⟩ 1 1 [p] hx (by simp) ?_ ?_ ?_ ?_ (Nat.le_refl _) ?_
  · intro j u hj
    match j, hj with
    | 0, hj => simp at hj; subst hj; simpa [Addr.add] using hc
  · intro u hu; simp at hu; subst hu; exact hp
  · unfold maxLen; omega
  · omega
  · intro v' w1 hown' hgrow hnil
    have hb : Below w.heap.size w w1 := (Below.refl _ _).grown hgrow (Nat.le_refl _) (fun k hk => by simp [Value.ownBlock] at hk)
    rcases hown'.2 with ⟨-, h0⟩ | ⟨g, cap, cur, rfl, hbg, hcur, hcap, -, hsz, htk⟩
    · simp at h0
    · refine hK g cap w1 ?_ hcap hb
      have := World.ownsRow.cells hown' (g := g) rfl 0 p (by simp)
      simpa [Addr.add] using this
def slen : Value → Nat
  | .slice _ n _ => n
  | _ => 0

set_option maxRecDepth 100000 in
set_option maxHeartbeats 2000000 in
theorem powers_live (va : Value) (x : Nat) (w : World) (ha : Rd w va [x]) :
    Calls Tryz.prog 33 #[va] w fun e w' => ∃ g p cap, e = .returned (.slice (some ⟨g, 0, none⟩) 1 cap) ∧ w'.cell? ⟨g, 0, none⟩ = some p ∧ Rd w' p [ten19] ∧ 1 ≤ cap ∧ Below w.heap.size w w' := by
  obtain ⟨a, ca, rfl, -, -⟩ := ha
  go_enter Tryz.func33, Tryz.ntmps33
  go_wp2_with fail
  obtain ⟨w0, hw0⟩ : ∃ w0, w0 = w.alloc (.cells #[.int .u64 10000000000000000000] 56) := ⟨_, rfl⟩
  have hb0 : Below w.heap.size w w0 := by rw [hw0]; exact (Below.refl _ _).alloc (Nat.le_refl _) _
  have r0 : Rd w0 (.slice (some ⟨w.heap.size, 0, none⟩) 1 1) [ten19] := by rw [hw0]; exact rd1 w rfl ten19
  have HW0 := shut hw0
  clear hw0
  go_loopw [3, 4] (fun ps pw wr => (ps = .slice none 0 0 ∧ pw = .slice (some ⟨w.heap.size, 0, none⟩) 1 1 ∧ wr = w0) ∨
    (∃ g p cap ap n cp, ps = .slice (some ⟨g, 0, none⟩) 1 cap ∧ wr.cell? ⟨g, 0, none⟩ = some p ∧ Rd wr p [ten19] ∧ 1 ≤ cap ∧ pw = .slice ap n cp ∧ 1 < n ∧ Below w.heap.size w wr)) (fun ps _ _ => 1 - slen ps)
  case atStart => exact Or.inl ⟨rfl, rfl, HW0.out.symm⟩
  case round =>
    clear HW0
    rcases hrel with ⟨rfl, rfl, rfl⟩ | ⟨g, p, cap, ap, n, cp, rfl, hc, hp, h1, rfl, hn, hb⟩
    · obtain ⟨w1, hw1⟩ : ∃ w1, w1 = wr.alloc (.cells #[.slice (some ⟨w.heap.size, 0, none⟩) 1 1] 47) := ⟨_, rfl⟩
      have hb1 : Below wr.heap.size wr w1 := by rw [hw1]; exact (Below.refl _ _).alloc (Nat.le_refl _) _
      have c1 : w1.cell? ⟨wr.heap.size, 0, none⟩ = some (.slice (some ⟨w.heap.size, 0, none⟩) 1 1) := by rw [hw1]; simp
      go_wp2_with (at_builtin; rw [← hw1]; refine wpList_appS rfl _ _ rfl rfl wr.heap.size rfl (.slice (some ⟨w.heap.size, 0, none⟩) 1 1) rfl c1 ?_; intro g cap w2 cg hcap hb2)
      clear hw1 c1
      have r2 := (r0.below hb1).below hb2
      have bb2 := Below.after (Below.after hb0 hb1) hb2
      go_wp2_with fail
      refine (mul_ten19 _ _ w2 r2 r2).mono ?_
      rintro e w3 ⟨v, xs, rfl, rv, hl, hb3⟩
      obtain ⟨av, cv, rfl, -, -⟩ := rv
      have cg3 : w3.cell? ⟨g, 0, none⟩ = some (.slice (some ⟨w.heap.size, 0, none⟩) 1 1) := by rw [hb3.cell (World.block_lt_of_cell? w2 _ cg)]; exact cg
      have r3 := r2.below hb3
      have bb3 := Below.after bb2 hb3
      clear cg r0 r2 hb1 hb2 hb3 bb2
      go_wp2
      exact ⟨Or.inr ⟨g, _, cap, _, _, _, rfl, cg3, r3, hcap, rfl, hl, bb3⟩, by simp [slen]⟩
    · go_wp2
      go_ret
      exact ⟨g, p, cap, rfl, hc, hp, h1, hb⟩
end Go.Proofs.YtimmgjlojplccaaGreatDoor
