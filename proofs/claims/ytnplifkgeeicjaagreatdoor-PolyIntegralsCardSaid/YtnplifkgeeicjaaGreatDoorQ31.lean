import Derived.Test.YtnplifkgeeicjaaGreatDoorQ28
set_option maxRecDepth 100000
set_option maxHeartbeats 8000000
namespace Go.Proofs.YtnplifkgeeicjaaGreatDoor
open Go.RowKit
theorem Dc (s : ByteArray) (w : World) (hm : s.size ≤ 40000) :
  Calls Tryz.prog 113 #[I s] w fun e w' => ∃ v, e = .returned v ∧ Rd w' v (M.digs Bm (Bc s)) ∧ Below w.heap.size w w' := Vc s w (by omega)
theorem Uu {X Y b k : Nat} (hb : 2 ≤ b) (hx : X < b ^ k) (hy : Y < b ^ k) : X + Y < b ^ (k + 1) := by
 rw [Nat.pow_succ]
 have h1 : b ^ k * 2 ≤ b ^ k * b := Nat.mul_le_mul_left _ hb
 generalize b ^ k = p at *
 omega
theorem Xw (n : Bool) (s0 s1 : ByteArray) (w : World) (z0 : s0.size ≤ 40000) (z1 : s1.size ≤ 40000) :
  Calls Tryz.prog 81 #[.agg #[Iz n, I s0], .agg #[Iz n, I s1]] w (Re w (zI (C4 n (Bc s0 + Bc s1)))) := by
 have HA := Ba (fun v0 v1 w r0 r1 => Ba2 (X := Bc s0) (Y := Bc s1) (K := 10000) (by omega) (Cj 10000 (by omega)) (Cj 10000 (by omega)) v0 v1 w r0 r1)
 have HM := Ba (fun v w h => Gt n (V := Bc s0 + Bc s1) (K := 10000 + 1) (by omega) (Uu Bj (Cj 10000 (by omega)) (Cj 10000 (by omega))) v w h)
 generalize hR : zI (C4 n (Bc s0 + Bc s1)) = R at *
 obtain ⟨za, zb, rfl⟩ : ∃ a b, R = .agg #[Iz a, I b] := ⟨_, _, hR.symm⟩
 clear hR
 go_enter Tryz.func81, Tryz.ntmps81
 go_wp2_with fail
 obtain ⟨w0, hw0, k0, k1, k2, bb⟩ := rb3 w (Iz n) (I s0) (Iz n) (I s1)
 rw [← hw0]
 clear hw0
 refine (Dc s0 w0 z0).mono ?_
 rintro e w1 ⟨vx, rfl, rx, b1⟩
 obtain ⟨ax, cx, rfl, -, -⟩ := id rx
 have c1 := C8 (k1.b b1)
 go_wp2_with fail
 refine (Dc s1 w1 z1).mono ?_
 rintro e w2 ⟨vy, rfl, ry, b2⟩
 obtain ⟨ay, cy, rfl, -, -⟩ := id ry
 have b12 := Ia b1 b2
 replace k0 := k0.b b12
 replace k1 := k1.b b12
 replace k2 := k2.b b12
 replace bb := Ia bb b12
 replace rx := rx.b b2
 clear b1 b2 b12 c1
 have c0 := Bw k0
 have c1 := Bw k1
 have H38 := Ba (HA.out _ _ w2.drew (show Rd w2 _ _ from rx) (show Rd w2 _ _ from ry))
 clear HA
 go_wp2
 go_region_with (first | (go_at_call 141; refine (H38.out).mono ?_; rintro e w3 ⟨v, rfl, rv, b3'⟩; have b3 : Below w2.heap.size w2 w3 := ⟨b3'.os, b3'.tape, b3'.output, b3'.size, b3'.block⟩; obtain ⟨av, cv, rfl, -, -⟩ := id rv; have d0 := Bw (k0.b b3)) | (go_at_call 115; refine (HM.out _ w3 rv).mono ?_; rintro e w4 ⟨rfl, b4⟩; have q2 := (k2.b b3).b b4; have e0 := Bw q2; have e1 := C8 q2; have f0 := q2.o 0; have f1 := q2.o 1))
 all_goals try go_wp2
 all_goals exact Dg (p := 4) (by kernel_rfl) rfl rfl ((q2.set 0 _).set 1 _) ⟨rfl, ((Ia bb (Ia b3 b4)).setCell (by simp; omega) _).setCell (by simp; omega) _⟩
theorem R4 (n : Bool) (s0 s1 : ByteArray) (w : World) (z0 : s0.size ≤ 40000) (z1 : s1.size ≤ 40000) :
  Calls Tryz.prog 81 #[.agg #[Iz n, I s0], .agg #[Iz (!n), I s1]] w (Re w (zI (if Bc s1 ≤ Bc s0 then C4 n (Bc s0 - Bc s1) else C4 (!n) (Bc s1 - Bc s0)))) := by
 have HC := Ba (fun v0 v1 w r0 r1 => Nt (X := Bc s0) (Y := Bc s1) (K := 10000) (by omega) (Cj 10000 (by omega)) v0 v1 w r0 r1)
 by_cases hle : Bc s1 ≤ Bc s0
 ·rw [if_pos hle]
  have HA := Ba (fun v0 v1 w r0 r1 => Gs (X := Bc s0) (Y := Bc s1) (K := 10000) (by omega) (Cj 10000 (by omega)) hle v0 v1 w r0 r1)
  have HM := Ba (fun v w h => Gt n (V := Bc s0 - Bc s1) (K := 10000) (by omega) (Nat.lt_of_le_of_lt (Nat.sub_le _ _) (Cj 10000 (by omega))) v w h)
  have hc : 0 ≤ Dj (Bc s0) (Bc s1) := by unfold Dj; split; · omega
                                         ·split <;> omega
  generalize hR : zI (C4 n (Bc s0 - Bc s1)) = R at *
  obtain ⟨za, zb, rfl⟩ : ∃ a b, R = .agg #[Iz a, I b] := ⟨_, _, hR.symm⟩
  clear hR hle
  generalize Dj (Bc s0) (Bc s1) = c at *
  have hne : (n == !n) = false := by cases n <;> rfl
  go_enter Tryz.func81, Tryz.ntmps81
  go_wp2_with fail
  obtain ⟨w0, hw0, k0, k1, k2, bb⟩ := rb3 w (Iz n) (I s0) (Iz (!n)) (I s1)
  rw [← hw0]
  clear hw0
  refine (Dc s0 w0 z0).mono ?_
  rintro e w1 ⟨vx, rfl, rx, b1⟩
  obtain ⟨ax, cx, rfl, -, -⟩ := id rx
  have c1 := C8 (k1.b b1)
  go_wp2_with fail
  refine (Dc s1 w1 z1).mono ?_
  rintro e w2 ⟨vy, rfl, ry, b2⟩
  obtain ⟨ay, cy, rfl, -, -⟩ := id ry
  have b12 := Ia b1 b2
  replace k0 := k0.b b12
  replace k1 := k1.b b12
  replace k2 := k2.b b12
  replace bb := Ia bb b12
  replace rx := rx.b b2
  clear b1 b2 b12 c1
  have c0 := Bw k0
  have c1 := Bw k1
  go_wp2_with fail
  refine (HC.out _ _ w2 rx ry).mono ?_
  rintro e w3 ⟨rfl, b3⟩
  replace k0 := k0.b b3
  replace k2 := k2.b b3
  replace bb := Ia bb b3
  replace rx := rx.b b3
  replace ry := ry.b b3
  clear c0 c1 b3
  have c0 := Bw k0
  have H38 := Ba (HA.out _ _ w3.drew (show Rd w3 _ _ from rx) (show Rd w3 _ _ from ry))
  clear HA HC
  go_wp2
  go_region_with (first | (go_at_call 143; refine (H38.out).mono ?_; rintro e w4 ⟨v, rfl, rv, b4'⟩; have b4 : Below w3.heap.size w3 w4 := ⟨b4'.os, b4'.tape, b4'.output, b4'.size, b4'.block⟩; obtain ⟨av, cv, rfl, -, -⟩ := id rv; have d0 := Bw (k0.b b4)) | (go_at_call 115; refine (HM.out _ w4 rv).mono ?_; rintro e w5 ⟨rfl, b5⟩; have q2 := (k2.b b4).b b5; have e0 := Bw q2; have e1 := C8 q2; have f0 := q2.o 0; have f1 := q2.o 1))
  all_goals try go_wp2
  all_goals exact Dg (p := 4) (by kernel_rfl) rfl rfl ((q2.set 0 _).set 1 _) ⟨rfl, ((Ia bb (Ia b4 b5)).setCell (by simp; omega) _).setCell (by simp; omega) _⟩
 ·rw [if_neg hle]
  have HA := Ba (fun v0 v1 w r0 r1 => Gs (X := Bc s1) (Y := Bc s0) (K := 10000) (by omega) (Cj 10000 (by omega)) (by omega) v0 v1 w r0 r1)
  have HM := Ba (fun v w h => Gt (!n) (V := Bc s1 - Bc s0) (K := 10000) (by omega) (Nat.lt_of_le_of_lt (Nat.sub_le _ _) (Cj 10000 (by omega))) v w h)
  have hc : ¬ 0 ≤ Dj (Bc s0) (Bc s1) := by unfold Dj; rw [if_pos (by omega)]; omega
  generalize hR : zI (C4 (!n) (Bc s1 - Bc s0)) = R at *
  obtain ⟨za, zb, rfl⟩ : ∃ a b, R = .agg #[Iz a, I b] := ⟨_, _, hR.symm⟩
  clear hR hle
  generalize Dj (Bc s0) (Bc s1) = c at *
  have hne : (n == !n) = false := by cases n <;> rfl
  go_enter Tryz.func81, Tryz.ntmps81
  go_wp2_with fail
  obtain ⟨w0, hw0, k0, k1, k2, bb⟩ := rb3 w (Iz n) (I s0) (Iz (!n)) (I s1)
  rw [← hw0]
  clear hw0
  refine (Dc s0 w0 z0).mono ?_
  rintro e w1 ⟨vx, rfl, rx, b1⟩
  obtain ⟨ax, cx, rfl, -, -⟩ := id rx
  have c1 := C8 (k1.b b1)
  go_wp2_with fail
  refine (Dc s1 w1 z1).mono ?_
  rintro e w2 ⟨vy, rfl, ry, b2⟩
  obtain ⟨ay, cy, rfl, -, -⟩ := id ry
  have b12 := Ia b1 b2
  replace k0 := k0.b b12
  replace k1 := k1.b b12
  replace k2 := k2.b b12
  replace bb := Ia bb b12
  replace rx := rx.b b2
  clear b1 b2 b12 c1
  have c0 := Bw k0
  have c1 := Bw k1
  go_wp2_with fail
  refine (HC.out _ _ w2 rx ry).mono ?_
  rintro e w3 ⟨rfl, b3⟩
  replace k1 := k1.b b3
  replace k2 := k2.b b3
  replace bb := Ia bb b3
  replace rx := rx.b b3
  replace ry := ry.b b3
  clear c0 c1 b3
  have c0 := Bw k1
  have H38 := Ba (HA.out _ _ w3.drew (show Rd w3 _ _ from ry) (show Rd w3 _ _ from rx))
  clear HA HC
  go_wp2
  go_region_with (first | (go_at_call 143; refine (H38.out).mono ?_; rintro e w4 ⟨v, rfl, rv, b4'⟩; have b4 : Below w3.heap.size w3 w4 := ⟨b4'.os, b4'.tape, b4'.output, b4'.size, b4'.block⟩; obtain ⟨av, cv, rfl, -, -⟩ := id rv; have d0 := Bw (k1.b b4)) | (go_at_call 115; refine (HM.out _ w4 rv).mono ?_; rintro e w5 ⟨rfl, b5⟩; have q2 := (k2.b b4).b b5; have e0 := Bw q2; have e1 := C8 q2; have f0 := q2.o 0; have f1 := q2.o 1))
  all_goals try go_wp2
  all_goals exact Dg (p := 4) (by kernel_rfl) rfl rfl ((q2.set 0 _).set 1 _) ⟨rfl, ((Ia bb (Ia b4 b5)).setCell (by simp; omega) _).setCell (by simp; omega) _⟩
theorem R7 (n0 n1 : Bool) (s0 s1 : ByteArray) (w : World) (z0 : s0.size ≤ 40000) (z1 : s1.size ≤ 40000) :
  Calls Tryz.prog 81 #[.agg #[Iz n0, I s0], .agg #[Iz n1, I s1]] w (Re w (zI (Cq n0 s0 + Cq n1 s1))) := by
 by_cases h : n1 = n0
 ·subst h
  have := Xw n1 s0 s1 w z0 z1
  have e : C4 n1 (Bc s0 + Bc s1) = Cq n1 s0 + Cq n1 s1 := by
   rw [← D5, ← D5]
   cases n1
   ·simp [C4]
   ·simp [C4]; omega
  rwa [e] at this
 ·have e : n1 = !n0 := by cases n0 <;> cases n1 <;> simp_all
  subst e
  have := R4 n0 s0 s1 w z0 z1
  have e : (if Bc s1 ≤ Bc s0 then C4 n0 (Bc s0 - Bc s1) else C4 (!n0) (Bc s1 - Bc s0)) = Cq n0 s0 + Cq (!n0) s1 := by
   rw [← D5, ← D5]
   cases n0 <;> simp [C4] <;> split <;> omega
  rwa [e] at this
def Oy (bs : Nat) (v : Value) (w : World) : Nat := match v with
 | .slice (some a) n _ => M.val bs ((List.range n).map fun j => match w.cell? ⟨a.block, a.off + j, none⟩ with | some (.int _ z) => z.toNat | _ => 0)
 | _ => 0
theorem Cv {bs : Nat} (hb : 2 ≤ bs) {w : World} {v : Value} {A : Nat} (h : Rd w v (M.digs bs A)) : Oy bs v w = A := by
 obtain ⟨ao, cap, rfl, -, hc⟩ := h
 rcases Nat.eq_zero_or_pos (M.digs bs A).length with h0 | h0
 ·have z : A = 0 := by
   have := M.val_digs hb A
   rw [List.eq_nil_of_length_eq_zero h0] at this
   exact this.symm
  subst z
  rw [M.digs_zero]
  cases ao <;> rfl
 ·obtain ⟨b, off, rfl, -⟩ := hc 0 h0
  have e : ((List.range (M.digs bs A).length).map fun j => match w.cell? ⟨b, off + j, none⟩ with | some (.int _ z) => z.toNat | _ => 0) = M.digs bs A := by
   apply List.ext_getElem
   ·simp
   ·intro i h1 h2
    obtain ⟨b', off', e', hcell⟩ := hc i h2
    cases e'
    simp only [List.getElem_map, List.getElem_range, hcell]
    simp [lm, h2]
  show M.val bs _ = A
  rw [e, M.val_digs hb]
theorem Bee (A : Nat) : lm (M.digs Bm A) 0 % 2 = A % 2 := by
 rcases Nat.eq_zero_or_pos A with h | h
 ·subst h; rw [M.digs_zero]; rfl
 ·rw [M.digs_pos Bj h]
  show A % Bm % 2 = A % 2
  unfold Bm
  omega
theorem Fr {A N : Nat} (hA : A ≤ N) (hN : (M.digs Bm N).length ≤ 100000) (v : Value) (w : World) (r : Rd w v (M.digs Bm A)) :
  Calls Tryz.prog 193 #[v] w fun e w' => ∃ v b, e = .returned (.tuple #[v, Iz b]) ∧ Rd w' v (M.digs Bm (A / 2)) ∧ Below w.heap.size w w' := by
 refine (X5 v _ w r (M.Low.digs Bj A) (Jf (Kg Bj hA) hN)).mono ?_
 rintro e w' ⟨v', rfl, h, hb⟩
 rw [M.val_digs Bj] at h
 exact ⟨v', _, rfl, h, hb⟩
theorem Sd {A N : Nat} (hA : A ≤ N) (hN : (M.digs Bm N).length ≤ 100000) (v : Value) (w : World) (r : Rd w v (M.digs Bm A)) :
  Calls Tryz.prog 160 #[v, .int .u64 0] w fun e w' => ∃ v, e = .returned v ∧ Rd w' v (M.digs Bm (2 * A)) ∧ Below w.heap.size w w' := by
 refine (Se v _ 0 w r (M.Low.digs Bj A) (by omega) (Jf (Kg Bj hA) hN)).mono ?_
 rintro e w' ⟨v', rfl, h, hb⟩
 rw [M.val_digs Bj] at h
 exact ⟨v', rfl, h, hb⟩
theorem Qo {A : Nat} (h : 0 < A) : 0 < (M.digs Bm A).length := by
 rw [M.digs_pos Bj h]; simp
theorem Rd.low {w : World} {v : Value} {A : Nat} (h : Rd w v (M.digs Bm A)) (h0 : 0 < A) : ∃ b off n c x : Nat, v = .slice (some ⟨b, off, none⟩) n c ∧ 0 < n ∧ (M.digs Bm A).length = n ∧ w.cell? ⟨b, off, none⟩ = some (.int .u64 (x : Nat)) ∧ x % 2 = A % 2 := by
 obtain ⟨ao, cap, rfl, -, hc⟩ := h
 obtain ⟨b, off, rfl, hcell⟩ := hc 0 (Qo h0)
 exact ⟨b, off, _, cap, _, rfl, Qo h0, rfl, hcell, Bee A⟩
theorem Bft {t N K : Nat} (h : 2 ^ t ≤ N) (hN : N < Bm ^ K) : t < 32 * K := by
 rw [show Bm = 2 ^ 32 from rfl, ← Nat.pow_mul] at hN
 exact (Nat.pow_lt_pow_iff_right (by omega)).1 (Nat.lt_of_le_of_lt h hN)
theorem G8 (N : Nat) : N < Bm ^ (M.digs Bm N).length := by
 have := M.val_lt Bv (M.Low.digs Bj N)
 rwa [M.val_digs Bj] at this
structure GS (X Y N : Nat) (w wr : World) (va vb : Value) (A B t : Nat) : Prop where
 ra : Rd wr va (M.digs Bm A)
 rb : Rd wr vb (M.digs Bm B)
 b0 : 0 < B
 ha : A ≤ N
 hb : B ≤ N
 ht : 2 ^ t * B ≤ N
 gcd : Nat.gcd X Y = 2 ^ t * Nat.gcd A B
 bb : Below w.heap.size w wr
theorem Baq (X Y N : Nat) (va vb : Value) (w : World) (ra : Rd w va (M.digs Bm X)) (rb : Rd w vb (M.digs Bm Y)) (hX : X ≤ N) (hY : Y ≤ N) (hN : (M.digs Bm N).length ≤ 50000) :
  Calls Tryz.prog 159 #[va, vb] w fun e w' => ∃ v, e = .returned v ∧ Rd w' v (M.digs Bm (Nat.gcd X Y)) ∧ Below w.heap.size w w' := by
 by_cases hX0 : X = 0
 ·subst hX0
  rw [Nat.gcd_zero_left]
  have rb' := Ba rb
  rw [M.digs_zero] at ra
  obtain ⟨a, ca, rfl, -, -⟩ := ra
  obtain ⟨b, cb, rfl, -, -⟩ := rb
  simp only [List.length_nil]
  go_enter Tryz.func159, Tryz.ntmps159
  go_wp2
  go_ret
  exact ⟨_, rfl, rb'.out, Jg _ _⟩
 ·by_cases hY0 : Y = 0
  ·subst hY0
   rw [Nat.gcd_zero_right]
   have ra' := Ba ra
   have l0 := Qo (show 0 < X by omega)
   rw [M.digs_zero] at rb
   obtain ⟨a, ca, rfl, -, -⟩ := ra
   obtain ⟨b, cb, rfl, -, -⟩ := rb
   simp only [List.length_nil]
   generalize hl : (M.digs Bm X).length = n at *
   go_enter Tryz.func159, Tryz.ntmps159
   go_wp2
   go_ret
   exact ⟨_, rfl, ra'.out, Jg _ _⟩
  ·obtain ⟨b0, o0, n0, c0, x0, rfl, hn0, -, -, -⟩ := id (ra.low (by omega))
   obtain ⟨b1, o1, n1, c1, x1, rfl, hn1, -, -, -⟩ := id (rb.low (by omega))
   have RA := Ba ra
   have RB := Ba rb
   have z0 : ((n0 : Int) == 0) = false := by simp; omega
   have z1 : ((n1 : Int) == 0) = false := by simp; omega
   clear ra rb
   go_enter Tryz.func159, Tryz.ntmps159
   go_wp2
   go_loopw [0, 1, 5] (fun va vb vt wr => ∃ A B t : Nat, vt = .int .i64 (t : Nat) ∧ GS X Y N w wr va vb A B t ∧ 0 < A) (fun va _ _ wr => Oy Bm va wr)
   case atStart => exact ⟨X, Y, 0, rfl, ⟨RA.out, RB.out, by omega, hX, hY, by simpa using hY, by simp, Below.refl _ _⟩, by omega⟩
   case round =>
    obtain ⟨A, B, t, rfl, gs, hA0⟩ := hrel
    clear RA RB hn0 hn1 hX hY
    obtain ⟨ba, oa, na, ca, xa, rfl, hna, hla, qa, pa⟩ := id (gs.ra.low hA0)
    obtain ⟨bb, ob, nb, cb, xb, rfl, hnb, hlb, qb, pb⟩ := id (gs.rb.low gs.b0)
    have MA := Ba (Cv Bj gs.ra)
    have G := Ba gs
    have hna1 : (0 : Int) < (na : Nat) := by omega
    have hnb1 : (0 : Int) < (nb : Nat) := by omega
    have ht2 : (t : Int) < 1600000 := by
     have := Bft (t := t) (Jf (Nat.le_mul_of_pos_right _ gs.b0) gs.ht) (G8 N)
     omega
    by_cases hA1 : A % 2 = 1
    ·have odd : Hid (A % 2 = 1 ∨ B % 2 = 1) := Or.inl hA1
     have ex : (xa : Int) % 2 = 1 := by omega
     go_wp2
     have T0 : Hid (GS X Y N w wr (Value.slice (some ⟨ba, oa, none⟩) na ca) (Value.slice (some ⟨bb, ob, none⟩) nb cb) A B t) := G
     have HT2 := Ba ht2
     clear G MA gs qa qb pa pb ex ht2
     try clear ey
     go_loopw [0, 1] (fun va vb wr => ∃ A B : Nat, GS X Y N w wr va vb A B t ∧ (A % 2 = 1 ∨ B % 2 = 1)) (fun va vb wr => Oy Bm va wr + Oy Bm vb wr)
     case atStart => exact ⟨A, B, T0.out, odd.out⟩
     case round =>
      clear T0 odd
      obtain ⟨A2, B2, gs, od⟩ := hrel
      have MA := Ba (Cv Bj gs.ra)
      have MB := Ba (Cv Bj gs.rb)
      have G := Ba gs
      have OD := Ba od
      clear od
      by_cases hA2 : A2 = 0
      ·obtain ⟨a2, c2, hv, -, -⟩ := id gs.ra
       rw [hA2, M.digs_zero] at hv
       subst hv
       have GC : Hid (Nat.gcd X Y = 2 ^ t * B2) := by
        have := gs.gcd
        rw [hA2, Nat.gcd_zero_left] at this
        exact this
       simp only [List.length_nil] at *
       clear gs
       go_wp2
       go_loopw [1, 7] (fun vb vi wr => ∃ i : Nat, i ≤ t ∧ vi = .int .i64 (i : Nat) ∧ Rd wr vb (M.digs Bm (2 ^ i * B2)) ∧ Below w.heap.size w wr) (fun _ vi _ => t - (intOf vi).toNat)
       case atStart => exact ⟨0, by omega, rfl, by simpa using G.out.rb, G.out.bb⟩
       case round =>
        obtain ⟨i, hi, rfl, ri, bi⟩ := hrel
        have RI := Ba ri
        by_cases hit : i < t
        ·have hle : 2 ^ i * B2 ≤ N := Jf (Jo B2 (Nat.pow_le_pow_right (by omega) hi)) G.out.ht
         have DB := Ba (Sd hle (by omega) _ wr ri)
         have iit : (i : Int) < (t : Nat) := by omega
         have ht2 := HT2.out
         clear ri hle
         go_wp2_with fail
         refine (DB.out).mono ?_
         rintro e w4 ⟨v4, rfl, r4, b4⟩
         rw [← Nat.mul_assoc, ← Nat.pow_succ'] at r4
         go_wp2
         exact ⟨⟨i + 1, by omega, by go_num, r4, Ia bi b4⟩, by simp only [intOf]; omega⟩
        ·have hie : i = t := by omega
         have iit : ¬ (i : Int) < (t : Nat) := by omega
         have ri2 := ri
         rw [hie, ← GC.out] at ri2
         have RI2 := Ba ri2
         clear ri RI ri2
         go_wp2
         go_ret
         exact ⟨_, rfl, RI2.out, bi⟩
      ·obtain ⟨b2, o2, n2, c2, x2, hv, hn2, hl2, q2, p2⟩ := id (gs.ra.low (by omega))
       have hv' := Ba hv
       rw [hv] at MA
       have hn21 : (0 : Int) < (n2 : Nat) := by omega
       have hn22 : ((n2 : Int) == 0) = false := by simp; omega
       clear gs q2 p2
       rw [hv]
       go_wp2
       go_loopw [0] (fun va wr => ∃ A3 : Nat, GS X Y N w wr va u1 A3 B2 t ∧ 0 < A3 ∧ A3 ≤ A2 ∧ (A3 % 2 = 1 ∨ B2 % 2 = 1)) (fun va wr => Oy Bm va wr)
       case atStart => exact ⟨A2, by rw [← hv'.out]; exact G.out, by omega, Jb _, OD.out⟩
       case round =>
        clear hv hv'
        obtain ⟨A3, g3, hA3, lA3, od3⟩ := hrel
        obtain ⟨b3, o3, n3, c3, x3, hv3, hn3, hl3, q3, p3⟩ := id (g3.ra.low hA3)
        have M3 := Ba (Cv Bj g3.ra)
        have G3 := Ba g3
        have hn31 : (0 : Int) < (n3 : Nat) := by omega
        subst hv3
        by_cases hA31 : A3 % 2 = 1
        ·have ex : (x3 : Int) % 2 = 1 := by omega
         have exb : ((x3 : Int) % 2 == 0) = false := by rw [ex]; rfl
         clear g3
         go_wp2
         clear ex exb q3 p3
         go_loopw [1] (fun vb wr => ∃ B3 : Nat, GS X Y N w wr (Value.slice (some ⟨b3, o3, none⟩) n3 c3) vb A3 B3 t ∧ B3 ≤ B2) (fun vb wr => Oy Bm vb wr)
         case atStart => exact ⟨B2, G3.out, Jb _⟩
         case round =>
          clear G3 M3
          obtain ⟨B3, g4, lB3⟩ := hrel
          obtain ⟨b4, o4, n4, c4, x4, hv4, hn4, hl4, q4, p4⟩ := id (g4.rb.low g4.b0)
          have M4 := Ba (Cv Bj g4.rb)
          have G4 := Ba g4
          have hn41 : (0 : Int) < (n4 : Nat) := by omega
          subst hv4
          by_cases hB31 : B3 % 2 = 1
          ·have ex : (x4 : Int) % 2 = 1 := by omega
           have exb : ((x4 : Int) % 2 == 0) = false := by rw [ex]; rfl
           have CM := Ba (Nt (K := (M.digs Bm N).length) hN (Nat.lt_of_le_of_lt g4.ha (G8 N)) _ _ wr g4.ra g4.rb)
           clear g4
           go_wp2_with fail
           clear ex exb q4 p4
           refine (CM.out).mono ?_
           rintro e w5 ⟨rfl, b5⟩
           have rA := G4.out.ra.b b5
           have rB := G4.out.rb.b b5
           by_cases hlt : A3 < B3
           ·have hc : Dj A3 B3 < 0 := by rw [Ha hlt]; decide
            have SB := Ba (Gs (K := (M.digs Bm N).length) hN (Nat.lt_of_le_of_lt G4.out.hb (G8 N)) (Nat.le_of_lt hlt) _ _ w5 rB rA)
            generalize Dj A3 B3 = cc at *
            clear CM
            go_wp2_with fail
            refine (SB.out).mono ?_
            rintro e w6 ⟨v6, rfl, r6, b6⟩
            go_wp2
            refine ⟨⟨B3 - A3, A3, ⟨r6, rA.b b6, hA3, by have := G4.out.hb; omega, G4.out.ha, Jf (Nat.mul_le_mul_left _ (Nat.le_of_lt hlt)) G4.out.ht, ?_, Ia (Ia G4.out.bb b5) b6⟩, Or.inr hA31⟩, ?_⟩
            ·rw [G4.out.gcd, Nat.gcd_comm (B3 - A3), Nat.gcd_sub_self_right (Nat.le_of_lt hlt)]
            ·rw [MA.out, MB.out, Cv Bj r6, Cv Bj (rA.b b6)]
             omega
           ·have hc : ¬ Dj A3 B3 < 0 := by
             rcases Nat.lt_or_ge B3 A3 with h | h
             ·rw [Kh h]; decide
             ·rw [Lo (Nat.le_antisymm h (Nat.le_of_not_lt hlt))]; decide
            have SB := Ba (Gs (K := (M.digs Bm N).length) hN (Nat.lt_of_le_of_lt G4.out.ha (G8 N)) (Nat.le_of_not_lt hlt) _ _ w5 rA rB)
            generalize Dj A3 B3 = cc at *
            have hc2 : decide (cc < 0) = false := decide_eq_false hc
            clear CM hN
            go_wp2_with fail
            refine (SB.out).mono ?_
            rintro e w6 ⟨v6, rfl, r6, b6⟩
            go_wp2
            refine ⟨⟨A3 - B3, B3, ⟨r6, rB.b b6, G4.out.b0, by have := G4.out.ha; omega, G4.out.hb, G4.out.ht, ?_, Ia (Ia G4.out.bb b5) b6⟩, Or.inr hB31⟩, ?_⟩
            ·rw [G4.out.gcd, Nat.gcd_comm (A3 - B3), Nat.gcd_sub_self_right (Nat.le_of_not_lt hlt), Nat.gcd_comm]
            ·rw [MA.out, MB.out, Cv Bj r6, Cv Bj (rB.b b6)]
             have := G4.out.b0
             omega
          ·have ex : (x4 : Int) % 2 = 0 := by omega
           have HB := Ba (Fr g4.hb (by omega) _ wr g4.rb)
           clear g4
           go_wp2_with fail
           clear ex q4 p4
           refine (HB.out).mono ?_
           rintro e w5 ⟨v5, z5, rfl, r5, b5⟩
           go_wp2
           have eB : B3 = 2 ^ 1 * (B3 / 2) := by omega
           have b0' := G4.out.b0
           refine ⟨⟨B3 / 2, ⟨G4.out.ra.b b5, r5, by omega, G4.out.ha, by have := G4.out.hb; omega, Jf (Nat.mul_le_mul_left _ (Nat.div_le_self _ _)) G4.out.ht, ?_, Ia G4.out.bb b5⟩, by omega⟩, ?_⟩
           ·have := G4.out.gcd
            rw [eB, M.gcd_odd_right hA31] at this
            exact this
           ·rw [M4.out, Cv Bj r5]
            omega
        ·have ex : (x3 : Int) % 2 = 0 := by omega
         have HA := Ba (Fr g3.ha (by omega) _ wr g3.ra)
         clear g3
         go_wp2_with fail
         clear ex q3 p3
         refine (HA.out).mono ?_
         rintro e w4 ⟨v4, z4, rfl, r4, b4⟩
         go_wp2
         have eA : A3 = 2 ^ 1 * (A3 / 2) := by omega
         have hB21 : B2 % 2 = 1 := by omega
         refine ⟨⟨A3 / 2, ⟨r4, G3.out.rb.b b4, G3.out.b0, by have := G3.out.ha; omega, G3.out.hb, G3.out.ht, ?_, Ia G3.out.bb b4⟩, by omega, by omega, Or.inr hB21⟩, ?_⟩
         ·have := G3.out.gcd
          rw [eA, M.gcd_odd_left hB21] at this
          exact this
         ·rw [M3.out, Cv Bj r4]
          omega
    ·by_cases hB1 : B % 2 = 1
     ·have odd : Hid (A % 2 = 1 ∨ B % 2 = 1) := Or.inr hB1
      have ex : (xa : Int) % 2 = 0 := by omega
      have ey : (xb : Int) % 2 = 1 := by omega
      go_wp2
      have T0 : Hid (GS X Y N w wr (Value.slice (some ⟨ba, oa, none⟩) na ca) (Value.slice (some ⟨bb, ob, none⟩) nb cb) A B t) := G
      have HT2 := Ba ht2
      clear G MA gs qa qb pa pb ex ht2
      try clear ey
      go_loopw [0, 1] (fun va vb wr => ∃ A B : Nat, GS X Y N w wr va vb A B t ∧ (A % 2 = 1 ∨ B % 2 = 1)) (fun va vb wr => Oy Bm va wr + Oy Bm vb wr)
      case atStart => exact ⟨A, B, T0.out, odd.out⟩
      case round =>
       clear T0 odd
       obtain ⟨A2, B2, gs, od⟩ := hrel
       have MA := Ba (Cv Bj gs.ra)
       have MB := Ba (Cv Bj gs.rb)
       have G := Ba gs
       have OD := Ba od
       clear od
       by_cases hA2 : A2 = 0
       ·obtain ⟨a2, c2, hv, -, -⟩ := id gs.ra
        rw [hA2, M.digs_zero] at hv
        subst hv
        have GC : Hid (Nat.gcd X Y = 2 ^ t * B2) := by
         have := gs.gcd
         rw [hA2, Nat.gcd_zero_left] at this
         exact this
        simp only [List.length_nil] at *
        clear gs
        go_wp2
        go_loopw [1, 7] (fun vb vi wr => ∃ i : Nat, i ≤ t ∧ vi = .int .i64 (i : Nat) ∧ Rd wr vb (M.digs Bm (2 ^ i * B2)) ∧ Below w.heap.size w wr) (fun _ vi _ => t - (intOf vi).toNat)
        case atStart => exact ⟨0, by omega, rfl, by simpa using G.out.rb, G.out.bb⟩
        case round =>
         obtain ⟨i, hi, rfl, ri, bi⟩ := hrel
         have RI := Ba ri
         by_cases hit : i < t
         ·have hle : 2 ^ i * B2 ≤ N := Jf (Jo B2 (Nat.pow_le_pow_right (by omega) hi)) G.out.ht
          have DB := Ba (Sd hle (by omega) _ wr ri)
          have iit : (i : Int) < (t : Nat) := by omega
          have ht2 := HT2.out
          clear ri hle
          go_wp2_with fail
          refine (DB.out).mono ?_
          rintro e w4 ⟨v4, rfl, r4, b4⟩
          rw [← Nat.mul_assoc, ← Nat.pow_succ'] at r4
          go_wp2
          exact ⟨⟨i + 1, by omega, by go_num, r4, Ia bi b4⟩, by simp only [intOf]; omega⟩
         ·have hie : i = t := by omega
          have iit : ¬ (i : Int) < (t : Nat) := by omega
          have ri2 := ri
          rw [hie, ← GC.out] at ri2
          have RI2 := Ba ri2
          clear ri RI ri2
          go_wp2
          go_ret
          exact ⟨_, rfl, RI2.out, bi⟩
       ·obtain ⟨b2, o2, n2, c2, x2, hv, hn2, hl2, q2, p2⟩ := id (gs.ra.low (by omega))
        have hv' := Ba hv
        rw [hv] at MA
        have hn21 : (0 : Int) < (n2 : Nat) := by omega
        have hn22 : ((n2 : Int) == 0) = false := by simp; omega
        clear gs q2 p2
        rw [hv]
        go_wp2
        go_loopw [0] (fun va wr => ∃ A3 : Nat, GS X Y N w wr va u1 A3 B2 t ∧ 0 < A3 ∧ A3 ≤ A2 ∧ (A3 % 2 = 1 ∨ B2 % 2 = 1)) (fun va wr => Oy Bm va wr)
        case atStart => exact ⟨A2, by rw [← hv'.out]; exact G.out, by omega, Jb _, OD.out⟩
        case round =>
         clear hv hv'
         obtain ⟨A3, g3, hA3, lA3, od3⟩ := hrel
         obtain ⟨b3, o3, n3, c3, x3, hv3, hn3, hl3, q3, p3⟩ := id (g3.ra.low hA3)
         have M3 := Ba (Cv Bj g3.ra)
         have G3 := Ba g3
         have hn31 : (0 : Int) < (n3 : Nat) := by omega
         subst hv3
         by_cases hA31 : A3 % 2 = 1
         ·have ex : (x3 : Int) % 2 = 1 := by omega
          have exb : ((x3 : Int) % 2 == 0) = false := by rw [ex]; rfl
          clear g3
          go_wp2
          clear ex exb q3 p3
          go_loopw [1] (fun vb wr => ∃ B3 : Nat, GS X Y N w wr (Value.slice (some ⟨b3, o3, none⟩) n3 c3) vb A3 B3 t ∧ B3 ≤ B2) (fun vb wr => Oy Bm vb wr)
          case atStart => exact ⟨B2, G3.out, Jb _⟩
          case round =>
           clear G3 M3
           obtain ⟨B3, g4, lB3⟩ := hrel
           obtain ⟨b4, o4, n4, c4, x4, hv4, hn4, hl4, q4, p4⟩ := id (g4.rb.low g4.b0)
           have M4 := Ba (Cv Bj g4.rb)
           have G4 := Ba g4
           have hn41 : (0 : Int) < (n4 : Nat) := by omega
           subst hv4
           by_cases hB31 : B3 % 2 = 1
           ·have ex : (x4 : Int) % 2 = 1 := by omega
            have exb : ((x4 : Int) % 2 == 0) = false := by rw [ex]; rfl
            have CM := Ba (Nt (K := (M.digs Bm N).length) hN (Nat.lt_of_le_of_lt g4.ha (G8 N)) _ _ wr g4.ra g4.rb)
            clear g4
            go_wp2_with fail
            clear ex exb q4 p4
            refine (CM.out).mono ?_
            rintro e w5 ⟨rfl, b5⟩
            have rA := G4.out.ra.b b5
            have rB := G4.out.rb.b b5
            by_cases hlt : A3 < B3
            ·have hc : Dj A3 B3 < 0 := by rw [Ha hlt]; decide
             have SB := Ba (Gs (K := (M.digs Bm N).length) hN (Nat.lt_of_le_of_lt G4.out.hb (G8 N)) (Nat.le_of_lt hlt) _ _ w5 rB rA)
             generalize Dj A3 B3 = cc at *
             clear CM
             go_wp2_with fail
             refine (SB.out).mono ?_
             rintro e w6 ⟨v6, rfl, r6, b6⟩
             go_wp2
             refine ⟨⟨B3 - A3, A3, ⟨r6, rA.b b6, hA3, by have := G4.out.hb; omega, G4.out.ha, Jf (Nat.mul_le_mul_left _ (Nat.le_of_lt hlt)) G4.out.ht, ?_, Ia (Ia G4.out.bb b5) b6⟩, Or.inr hA31⟩, ?_⟩
             ·rw [G4.out.gcd, Nat.gcd_comm (B3 - A3), Nat.gcd_sub_self_right (Nat.le_of_lt hlt)]
             ·rw [MA.out, MB.out, Cv Bj r6, Cv Bj (rA.b b6)]
              omega
            ·have hc : ¬ Dj A3 B3 < 0 := by
              rcases Nat.lt_or_ge B3 A3 with h | h
              ·rw [Kh h]; decide
              ·rw [Lo (Nat.le_antisymm h (Nat.le_of_not_lt hlt))]; decide
             have SB := Ba (Gs (K := (M.digs Bm N).length) hN (Nat.lt_of_le_of_lt G4.out.ha (G8 N)) (Nat.le_of_not_lt hlt) _ _ w5 rA rB)
             generalize Dj A3 B3 = cc at *
             have hc2 : decide (cc < 0) = false := decide_eq_false hc
             clear CM hN
             go_wp2_with fail
             refine (SB.out).mono ?_
             rintro e w6 ⟨v6, rfl, r6, b6⟩
             go_wp2
             refine ⟨⟨A3 - B3, B3, ⟨r6, rB.b b6, G4.out.b0, by have := G4.out.ha; omega, G4.out.hb, G4.out.ht, ?_, Ia (Ia G4.out.bb b5) b6⟩, Or.inr hB31⟩, ?_⟩
             ·rw [G4.out.gcd, Nat.gcd_comm (A3 - B3), Nat.gcd_sub_self_right (Nat.le_of_not_lt hlt), Nat.gcd_comm]
             ·rw [MA.out, MB.out, Cv Bj r6, Cv Bj (rB.b b6)]
              have := G4.out.b0
              omega
           ·have ex : (x4 : Int) % 2 = 0 := by omega
            have HB := Ba (Fr g4.hb (by omega) _ wr g4.rb)
            clear g4
            go_wp2_with fail
            clear ex q4 p4
            refine (HB.out).mono ?_
            rintro e w5 ⟨v5, z5, rfl, r5, b5⟩
            go_wp2
            have eB : B3 = 2 ^ 1 * (B3 / 2) := by omega
            have b0' := G4.out.b0
            refine ⟨⟨B3 / 2, ⟨G4.out.ra.b b5, r5, by omega, G4.out.ha, by have := G4.out.hb; omega, Jf (Nat.mul_le_mul_left _ (Nat.div_le_self _ _)) G4.out.ht, ?_, Ia G4.out.bb b5⟩, by omega⟩, ?_⟩
            ·have := G4.out.gcd
             rw [eB, M.gcd_odd_right hA31] at this
             exact this
            ·rw [M4.out, Cv Bj r5]
             omega
         ·have ex : (x3 : Int) % 2 = 0 := by omega
          have HA := Ba (Fr g3.ha (by omega) _ wr g3.ra)
          clear g3
          go_wp2_with fail
          clear ex q3 p3
          refine (HA.out).mono ?_
          rintro e w4 ⟨v4, z4, rfl, r4, b4⟩
          go_wp2
          have eA : A3 = 2 ^ 1 * (A3 / 2) := by omega
          have hB21 : B2 % 2 = 1 := by omega
          refine ⟨⟨A3 / 2, ⟨r4, G3.out.rb.b b4, G3.out.b0, by have := G3.out.ha; omega, G3.out.hb, G3.out.ht, ?_, Ia G3.out.bb b4⟩, by omega, by omega, Or.inr hB21⟩, ?_⟩
          ·have := G3.out.gcd
           rw [eA, M.gcd_odd_left hB21] at this
           exact this
          ·rw [M3.out, Cv Bj r4]
           omega
     ·have ex : (xa : Int) % 2 = 0 := by omega
      have ey : (xb : Int) % 2 = 0 := by omega
      have HA := Ba (Fr gs.ha (by omega) _ wr gs.ra)
      go_wp2_with fail
      refine (HA.out).mono ?_
      rintro e w2 ⟨v2, c2, rfl, r2, b2⟩
      have HB := Ba (Fr G.out.hb (by omega) _ w2 (G.out.rb.b b2))
      obtain ⟨av2, cv2, rfl, -, -⟩ := id r2
      go_wp2_with fail
      refine (HB.out).mono ?_
      rintro e w3 ⟨v3, c3, rfl, r3, b3⟩
      obtain ⟨av3, cv3, rfl, -, -⟩ := id r3
      go_wp2
      have eA : A = 2 * (A / 2) := by omega
      have eB : B = 2 * (B / 2) := by omega
      refine ⟨⟨A / 2, B / 2, t + 1, by go_num, ⟨r2.b b3, r3, by have := G.out.b0; omega, by have := G.out.ha; omega, by have := G.out.hb; omega, ?_, ?_, Ia (Ia G.out.bb b2) b3⟩, by omega⟩, ?_⟩
      ·have := G.out.ht
       rw [eB] at this
       rw [Nat.pow_succ, Nat.mul_assoc]
       exact this
      ·have := G.out.gcd
       rw [eA, eB, Nat.gcd_mul_left] at this
       rw [this, Nat.pow_succ, Nat.mul_assoc]
      ·rw [MA.out, Cv Bj (r2.b b3)]
       omega
theorem Bha {s0 s1 : ByteArray} {K : Nat} (hK : K ≤ 50000) (h0 : s0.size ≤ 4 * K) (h1 : s1.size ≤ 4 * K) (v0 v1 : Value) (w : World) (r0 : Rd w v0 (M.digs Bm (Bc s0))) (r1 : Rd w v1 (M.digs Bm (Bc s1))) :
  Calls Tryz.prog 159 #[v0, v1] w fun e w' => ∃ v, e = .returned v ∧ Rd w' v (M.digs Bm (Nat.gcd (Bc s0) (Bc s1))) ∧ Below w.heap.size w w' :=
 Baq _ _ (max (Bc s0) (Bc s1)) v0 v1 w r0 r1 (by omega) (by omega) (Jf (M.digs_len_of_lt Bj (Nat.max_lt.2 ⟨Cj K h0, Cj K h1⟩)) hK)
theorem Bgm {s0 s1 : ByteArray} {K : Nat} (hK : K ≤ 100000) (h0 : s0.size ≤ 4 * K) (h1 : s1.size ≤ 4 * K) (v : Value) (w : World) (h : Rd w v (M.digs Bm (Nat.gcd (Bc s0) (Bc s1)))) :
  Calls Tryz.prog 115 #[Iz false, v] w (Re w (zI ((Nat.gcd (Bc s0) (Bc s1) : Nat) : Int))) := by
 have hl : Nat.gcd (Bc s0) (Bc s1) < Bm ^ K := by
  have a := Cj K h0
  have b := Cj K h1
  have c : Nat.gcd (Bc s0) (Bc s1) ≤ max (Bc s0) (Bc s1) := by
   rcases Nat.eq_zero_or_pos (Bc s0) with e | e
   ·rw [e, Nat.gcd_zero_left]; omega
   ·have := Nat.le_of_dvd e (Nat.gcd_dvd_left (Bc s0) (Bc s1)); omega
  generalize Bm ^ K = P at *
  omega
 exact Gt false (V := Nat.gcd (Bc s0) (Bc s1)) (K := K) hK hl v w h
theorem Ml (n0 n1 : Bool) (s0 s1 : ByteArray) (w : World) (z0 : s0.size ≤ 40000) (z1 : s1.size ≤ 40000) :
  Calls Tryz.prog 110 #[.agg #[Iz n0, I s0], .agg #[Iz n1, I s1]] w (Re w (zI ((Nat.gcd (Bc s0) (Bc s1) : Nat) : Int))) := by
 have HM := Ba (fun v0 v1 w r0 r1 => Bha (s0 := s0) (s1 := s1) (K := 10000) (by omega) (by omega) (by omega) v0 v1 w r0 r1)
 have HK := Ba (fun v w h => Bgm (s0 := s0) (s1 := s1) (K := 10000) (by omega) (by omega) (by omega) v w h)
 generalize hR : zI ((Nat.gcd (Bc s0) (Bc s1) : Nat) : Int) = R at *
 obtain ⟨za, zb, rfl⟩ : ∃ a b, R = .agg #[Iz a, I b] := ⟨_, _, hR.symm⟩
 clear hR
 go_enter Tryz.func110, Tryz.ntmps110
 go_wp2
 obtain ⟨w0, hw0, k0, k1, k2, bb⟩ := rb3 w (Iz n0) (I s0) (Iz n1) (I s1)
 rw [← hw0]
 clear hw0
 obtain ⟨a0, a1⟩ := B7 k0
 obtain ⟨a2, a3⟩ := B7 k1
 go_region_held3 (fun w' => Fb w' w.heap.size (Iz n0) (I s0) ∧ Fb w' (w.heap.size + 1) (Iz n1) (I s1)) (first | exact ⟨B7 k0, B7 k1⟩ | exact ⟨B7 ((k0.w (by omega) _ _).w (by omega) _ _), B7 ((k1.w (by omega) _ _).w (by omega) _ _)⟩) (first | (go_at_call 115; refine (HK.out _ w3 rv).mono ?_; rintro e w4 ⟨rfl, b4⟩; replace k0 := k0.b b4; replace k1 := k1.b b4; have q2 := k2.b b4; have e0 := Bw q2; have e1 := C8 q2; have f0 := q2.o 0; have f1 := q2.o 1; replace bb := Ia bb b4) | (go_at_call 159; refine (HM.out _ _ w2 rx ry).mono ?_; rintro e w3 ⟨v, rfl, rv, b3⟩; obtain ⟨av, cv, rfl, -, -⟩ := id rv; replace k0 := k0.b b3; replace k1 := k1.b b3; replace k2 := k2.b b3; replace bb := Ia bb b3; have g0 := Bw k0; have g2 := Bw k1) | (go_at_call 113; have _x := rx; refine (Dc _ _ z1).mono ?_; rintro e w2 ⟨vy, rfl, ry, b2⟩; obtain ⟨ay, cy, rfl, -, -⟩ := id ry; replace rx := rx.b b2; replace k0 := k0.b b2; replace k1 := k1.b b2; replace k2 := k2.b b2; replace bb := Ia bb b2; have h0 := Bw k0; have h2 := Bw k1) | (go_at_call 113; refine (Dc _ _ z0).mono ?_; rintro e w1 ⟨vx, rfl, rx, b1⟩; obtain ⟨ax, cx, rfl, -, -⟩ := id rx; replace k0 := k0.b (un b1); replace k1 := k1.b (un b1); replace k2 := k2.b (un b1); replace bb := Ia bb (un b1); have i0 := Bw k0; have i2 := Bw k1; have i3 := C8 k1))
 all_goals try go_wp2
 all_goals exact Dg (p := 4) (by kernel_rfl) rfl rfl ((q2.set 0 _).set 1 _) ⟨rfl, (bb.setCell (by simp; omega) _).setCell (by simp; omega) _⟩
theorem Ut {X Y b j k : Nat} (hx : X < b ^ j) (hy : Y < b ^ k) : X * Y < b ^ (j + k) := by
 rw [Nat.pow_add]
 exact Nat.mul_lt_mul'' hx hy
theorem F6 (n0 n1 : Bool) (s0 s1 : ByteArray) (w : World) (z0 : s0.size ≤ 40000) (z1 : s1.size ≤ 40000) :
  Calls Tryz.prog 74 #[.agg #[Iz n0, I s0], .agg #[Iz n1, I s1]] w (Re w (zI (Cq n0 s0 * Cq n1 s1))) := by
 have HM := Ba (fun v0 v1 w r0 r1 => Bao (X := Bc s0) (Y := Bc s1) (K := 10000) (by omega) (Cj 10000 (by omega)) (Cj 10000 (by omega)) v0 v1 w r0 r1)
 have HK := Ba (fun v w h => show Calls Tryz.prog 115 #[Iz (n0 != n1), v] w fun e w' => e = .returned (zI (Cq n0 s0 * Cq n1 s1)) ∧ Below w.heap.size w w' from by
  have := Gt (n0 != n1) (V := Bc s0 * Bc s1) (K := 10000 + 10000) (by omega) (Ut (Cj 10000 (by omega)) (Cj 10000 (by omega))) v w h
  rwa [Wa, D5, D5] at this)
 generalize hR : zI (Cq n0 s0 * Cq n1 s1) = R at *
 obtain ⟨za, zb, rfl⟩ : ∃ a b, R = .agg #[Iz a, I b] := ⟨_, _, hR.symm⟩
 clear hR
 go_enter Tryz.func74, Tryz.ntmps74
 go_wp2
 obtain ⟨w0, hw0, k0, k1, k2, bb⟩ := rb3 w (Iz n0) (I s0) (Iz n1) (I s1)
 rw [← hw0]
 clear hw0
 obtain ⟨a0, a1⟩ := B7 k0
 obtain ⟨a2, a3⟩ := B7 k1
 go_region_held3 (fun w' => Fb w' w.heap.size (Iz n0) (I s0) ∧ Fb w' (w.heap.size + 1) (Iz n1) (I s1)) (first | exact ⟨B7 k0, B7 k1⟩ | exact ⟨B7 ((k0.w (by omega) _ _).w (by omega) _ _), B7 ((k1.w (by omega) _ _).w (by omega) _ _)⟩) (first | (go_at_call 115; refine (HK.out _ w3 rv).mono ?_; rintro e w4 ⟨rfl, b4⟩; replace k0 := k0.b b4; replace k1 := k1.b b4; have q2 := k2.b b4; have e0 := Bw q2; have e1 := C8 q2; have f0 := q2.o 0; have f1 := q2.o 1; replace bb := Ia bb b4) | (go_at_call 135; refine (HM.out _ _ w2 rx ry).mono ?_; rintro e w3 ⟨v, rfl, rv, b3⟩; obtain ⟨av, cv, rfl, -, -⟩ := id rv; replace k0 := k0.b b3; replace k1 := k1.b b3; replace k2 := k2.b b3; replace bb := Ia bb b3; have g0 := Bw k0; have g2 := Bw k1) | (go_at_call 113; have _x := rx; refine (Dc _ _ z1).mono ?_; rintro e w2 ⟨vy, rfl, ry, b2⟩; obtain ⟨ay, cy, rfl, -, -⟩ := id ry; replace rx := rx.b b2; replace k0 := k0.b b2; replace k1 := k1.b b2; replace k2 := k2.b b2; replace bb := Ia bb b2; have h0 := Bw k0; have h2 := Bw k1) | (go_at_call 113; refine (Dc _ _ z0).mono ?_; rintro e w1 ⟨vx, rfl, rx, b1⟩; obtain ⟨ax, cx, rfl, -, -⟩ := id rx; replace k0 := k0.b (un b1); replace k1 := k1.b (un b1); replace k2 := k2.b (un b1); replace bb := Ia bb (un b1); have i0 := Bw k0; have i2 := Bw k1; have i3 := C8 k1))
 all_goals try go_wp2
 all_goals exact Dg (p := 4) (by kernel_rfl) rfl rfl ((q2.set 0 _).set 1 _) ⟨rfl, (bb.setCell (by simp; omega) _).setCell (by simp; omega) _⟩
end Go.Proofs.YtnplifkgeeicjaaGreatDoor
