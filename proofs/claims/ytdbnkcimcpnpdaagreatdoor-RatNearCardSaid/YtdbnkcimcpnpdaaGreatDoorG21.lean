/-
  Package whole: Add.
  Package whole: Mul.
  Package whole: read of one number; powersUpTo of one limb.
  Rational numbers as they are told: a sign, bytes above, bytes below. What numbers of so many bytes come to; numbers behind names.
-/
import Derived.Test.YtdbnkcimcpnpdaaGreatDoorG10
import Derived.Test.YtdbnkcimcpnpdaaGreatDoorG20
namespace Go.Proofs.YtdbnkcimcpnpdaaGreatDoor
open Go.RowKit

/-- What a call of two numbers starts from: both boxed, a cell for the answer, and both in a row. -/
theorem boxes4 (w : World) (x0 x1 y0 y1 : Value) : ∃ w0, w0 = (((w.alloc (.cells #[x0, x1] 24)).alloc (.cells #[y0, y1] 24)).alloc (.cells #[.bool false, .string { data := #[] }] 24)).alloc (.cells #[x0, x1, y0, y1] 24) ∧
  Cel w0 w.heap.size [x0, x1] 24 ∧ Cel w0 (w.heap.size + 1) [y0, y1] 24 ∧ Cel w0 (w.heap.size + 1 + 1) [.bool false, .string { data := #[] }] 24 ∧ Cel w0 (w.heap.size + 1 + 1 + 1) [x0, x1, y0, y1] 24 ∧ Below w.heap.size w w0 := by
 refine ⟨_, rfl, (((Cel.new w [x0, x1] 24).alloc _).alloc _).alloc _, ?_, ?_, ?_, by go_grown⟩
 ·have := ((Cel.new (w.alloc (.cells #[x0, x1] 24)) [y0, y1] 24).alloc (.cells #[.bool false, .string { data := #[] }] 24)).alloc (.cells #[x0, x1, y0, y1] 24)
  simpa using this
 ·have := (Cel.new ((w.alloc (.cells #[x0, x1] 24)).alloc (.cells #[y0, y1] 24)) [.bool false, .string { data := #[] }] 24).alloc (.cells #[x0, x1, y0, y1] 24)
  simpa using this
 ·have := Cel.new (((w.alloc (.cells #[x0, x1] 24)).alloc (.cells #[y0, y1] 24)).alloc (.cells #[.bool false, .string { data := #[] }] 24)) [x0, x1, y0, y1] 24
  simpa using this

theorem sgn_natOf (neg : Bool) (s : ByteArray) : sgn neg (natOf s) = zOf neg s := rfl
/-- The sum of two signs and limbs. -/
theorem sum_any (n0 n1 : Bool) (v0 v1 : Value) (xs ys : List Nat) (w : World) (h0 : Rd w v0 xs) (h1 : Rd w v1 ys) (l0 : M.Low B64 xs) (l1 : M.Low B64 ys) (hx : xs.length ≤ 3000) (hy : ys.length ≤ 3000) :
  Calls Tryz.prog 127 #[.agg #[.bool n0, v0], .agg #[.bool n1, v1]] w fun e w' => e = .returned (zI (sgn n0 (M.val B64 xs) + sgn n1 (M.val B64 ys))) ∧ Below w.heap.size w w' := by
 by_cases h : n1 = n0
 ·subst h
  have := sum_like n1 v0 v1 xs ys w h0 h1 l0 l1 hx hy
  have e : sgn n1 (M.val B64 xs + M.val B64 ys) = sgn n1 (M.val B64 xs) + sgn n1 (M.val B64 ys) := by
   cases n1
   ·simp [sgn]
   ·simp [sgn]; omega
  rwa [e] at this
 ·have e : n1 = !n0 := by cases n0 <;> cases n1 <;> simp_all
  subst e
  have := sum_unlike n0 v0 v1 xs ys w h0 h1 l0 l1 hx hy
  rwa [difz_eq] at this
theorem digs_len_bytes {s : ByteArray} (k : Nat) (h : s.size ≤ 8 * k) : (M.digs B64 (natOf s)).length ≤ k :=
 M.digs_len_of_lt B64_two (Nat.lt_of_lt_of_le (natOf_lt s) (by rw [B64_pow]; exact Nat.pow_le_pow_right (by omega) h))

set_option maxRecDepth 100000 in
set_option maxHeartbeats 4000000 in
theorem zadd_ok (n0 n1 : Bool) (s0 s1 : ByteArray) (w : World) (o0 : OkZ n0 s0) (o1 : OkZ n1 s1) (z0 : s0.size ≤ 24000) (z1 : s1.size ≤ 24000) :
  Calls Tryz.prog 104 #[.agg #[.bool n0, .string s0], .agg #[.bool n1, .string s1]] w fun e w' => e = .returned (.tuple #[zI (zOf n0 s0 + zOf n1 s1), .int .i64 0]) ∧ Below w.heap.size w w' := by
 have hS : ∀ (v0 v1 : Value) (wx : World), Rd wx v0 (M.digs B64 (natOf s0)) → Rd wx v1 (M.digs B64 (natOf s1)) → Calls Tryz.prog 127 #[.agg #[.bool n0, v0], .agg #[.bool n1, v1]] wx fun e w' => e = .returned (zI (zOf n0 s0 + zOf n1 s1)) ∧ Below wx.heap.size wx w' := fun v0 v1 wx r0 r1 => by
  have := sum_any n0 n1 v0 v1 _ _ wx r0 r1 (M.Low.digs B64_two _) (M.Low.digs B64_two _) (digs_len_bytes 3000 (by omega)) (digs_len_bytes 3000 (by omega))
  rwa [M.val_digs B64_two, M.val_digs B64_two, sgn_natOf, sgn_natOf] at this
 have HS := shut hS
 clear hS
 generalize hR : zI (zOf n0 s0 + zOf n1 s1) = R at *
 obtain ⟨za, zb, rfl⟩ : ∃ a b, R = .agg #[.bool a, .string b] := ⟨_, _, hR.symm⟩
 clear hR
 go_enter Tryz.func104, Tryz.ntmps104
 go_wp2_with fail
 obtain ⟨w0, hw0, k0, k1, k2, k3, hb0⟩ := boxes4 w (.bool n0) (.string s0) (.bool n1) (.string s1)
 rw [← hw0]
 clear hw0
 refine (read2_ok _ n0 n1 s0 s1 w0 k3 o0 o1 (by omega) (by omega)).mono ?_
 rintro e w1 ⟨g, v0, v1, rfl, kg, r0, r1, hg, hb⟩
 have c0 := kg.cell 0
 have c1 := kg.cell 1
 have c2 := kg.cell 2
 have c3 := kg.cell 3
 simp only [List.getElem?_cons_zero, List.getElem?_cons_succ] at c0 c1 c2 c3
 have m2 := k2.below hb
 have bb := Below.after hb0 hb
 have H30 := shut (HS.out v0 v1 w1.drew (show Rd w1 _ _ from r0.rd) (show Rd w1 _ _ from r1.rd))
 clear HS k0 k1 k2 k3 kg
 obtain ⟨a0, p0, rfl, -, -⟩ := id r0
 obtain ⟨a1, p1, rfl, -, -⟩ := id r1
 go_wp2
 go_region_with (first | (go_at_call 127; refine (H30.out).mono ?_; rintro e w2 ⟨rfl, hb2'⟩; have hb2 : Below w1.heap.size w1 w2 := ⟨hb2'.os, hb2'.tape, hb2'.output, hb2'.size, hb2'.block⟩; have q2 := m2.below hb2; have e0 := cel2_0 q2; have e1 := cel2_1 q2; have f0 := q2.frozen 0; have f1 := q2.frozen 1))
 all_goals try go_wp2
 all_goals refine post_z1 (p := 4) (u := 5) (by kernel_rfl) rfl rfl rfl ((q2.set 0 _).set 1 _) ⟨rfl, ((Below.after bb hb2).setCell (by simp; omega) _).setCell (by simp; omega) _⟩
end Go.Proofs.YtdbnkcimcpnpdaaGreatDoor
namespace Go.Proofs.YtdbnkcimcpnpdaaGreatDoor
open Go.RowKit

theorem sgn_mul (a b : Bool) (X Y : Nat) : sgn (a != b) (X * Y) = sgn a X * sgn b Y := by
 cases a <;> cases b <;> simp [sgn, Int.natCast_mul, Int.neg_mul, Int.mul_neg]
theorem digs_len_mul {x y j k : Nat} (hx : x < B64 ^ j) (hy : y < B64 ^ k) : (M.digs B64 (x * y)).length ≤ j + k := by
 refine M.digs_len_of_lt B64_two ?_
 rw [Nat.pow_add]
 exact Nat.mul_lt_mul'' hx hy
theorem natOf_lt8 {s : ByteArray} (k : Nat) (h : s.size ≤ 8 * k) : natOf s < B64 ^ k := Nat.lt_of_lt_of_le (natOf_lt s) (by rw [B64_pow]; exact Nat.pow_le_pow_right (by omega) h)
theorem len_mul8 {s0 s1 : ByteArray} (j k : Nat) (h0 : s0.size ≤ 8 * j) (h1 : s1.size ≤ 8 * k) : (M.digs B64 (natOf s0 * natOf s1)).length ≤ j + k := digs_len_mul (natOf_lt8 j h0) (natOf_lt8 k h1)

set_option maxRecDepth 100000 in
set_option maxHeartbeats 4000000 in
theorem zmul_ok (n0 n1 : Bool) (s0 s1 : ByteArray) (w : World) (o0 : OkZ n0 s0) (o1 : OkZ n1 s1) (z0 : s0.size ≤ 16000) (z1 : s1.size ≤ 16000) :
  Calls Tryz.prog 78 #[.agg #[.bool n0, .string s0], .agg #[.bool n1, .string s1]] w fun e w' => e = .returned (.tuple #[zI (zOf n0 s0 * zOf n1 s1), .int .i64 0]) ∧ Below w.heap.size w w' := by
 have hM : ∀ (v0 v1 : Value) (wx : World), Rd wx v0 (M.digs B64 (natOf s0)) → Rd wx v1 (M.digs B64 (natOf s1)) → Calls Tryz.prog 103 #[v0, v1] wx fun e w' => ∃ v, e = .returned (.tuple #[v, .int .i64 0]) ∧ Rd w' v (M.digs B64 (natOf s0 * natOf s1)) ∧ Below wx.heap.size wx w' := fun v0 v1 wx r0 r1 => by
  have := mul_any v0 v1 _ _ wx r0 r1 (M.Low.digs B64_two _) (M.Low.digs B64_two _) (Nat.le_trans (digs_len_bytes 2000 (by omega)) (by omega)) (Nat.le_trans (digs_len_bytes 2000 (by omega)) (by omega))
  rwa [M.val_digs B64_two, M.val_digs B64_two] at this
 have hT : ∀ (v : Value) (wx : World), Rd wx v (M.digs B64 (natOf s0 * natOf s1)) → Calls Tryz.prog 86 #[.agg #[.bool (n0 != n1), v]] wx fun e w' => e = .returned (zI (zOf n0 s0 * zOf n1 s1)) ∧ Below wx.heap.size wx w' := fun v wx hr => by
  have := tell_any (n0 != n1) v _ wx hr (M.Low.digs B64_two _) (by have := len_mul8 2000 2000 (s0 := s0) (s1 := s1) (by omega) (by omega); omega)
  rwa [M.val_digs B64_two, sgn_mul, sgn_natOf, sgn_natOf] at this
 have HM := shut hM
 have HT := shut hT
 clear hM hT
 generalize hR : zI (zOf n0 s0 * zOf n1 s1) = R at *
 obtain ⟨za, zb, rfl⟩ : ∃ a b, R = .agg #[.bool a, .string b] := ⟨_, _, hR.symm⟩
 clear hR
 go_enter Tryz.func78, Tryz.ntmps78
 go_wp2_with fail
 obtain ⟨w0, hw0, k0, k1, k2, k3, hb0⟩ := boxes4 w (.bool n0) (.string s0) (.bool n1) (.string s1)
 rw [← hw0]
 clear hw0
 refine (read2_ok _ n0 n1 s0 s1 w0 k3 o0 o1 (by omega) (by omega)).mono ?_
 rintro e w1 ⟨g, v0, v1, rfl, kg, r0, r1, hg, hb⟩
 have c0 := kg.cell 0
 have c1 := kg.cell 1
 have c2 := kg.cell 2
 have c3 := kg.cell 3
 simp only [List.getElem?_cons_zero, List.getElem?_cons_succ] at c0 c1 c2 c3
 have m0 := k0.below hb
 have m1 := k1.below hb
 have m2 := k2.below hb
 have bb := Below.after hb0 hb
 have H31 := shut (HM.out v0 v1 w1.drew (show Rd w1 _ _ from r0.rd) (show Rd w1 _ _ from r1.rd))
 clear HM k0 k1 k2 k3 kg
 obtain ⟨a0, p0, rfl, -, -⟩ := id r0
 obtain ⟨a1, p1, rfl, -, -⟩ := id r1
 go_wp2
 go_region_held3 (fun w' => w'.cell? ⟨g, 1, none⟩ = some (.slice a0 (M.digs B64 (natOf s0)).length p0) ∧ w'.cell? ⟨g, 3, none⟩ = some (.slice a1 (M.digs B64 (natOf s1)).length p1)) (first | exact ⟨c1, c3⟩ | exact ⟨cell_below c1 b31, cell_below c3 b31⟩) (first | (go_at_call 103; refine (H31.out).mono ?_; rintro e w2 ⟨v, rfl, rv, b31'⟩; have b31 : Below w1.heap.size w1 w2 := ⟨b31'.os, b31'.tape, b31'.output, b31'.size, b31'.block⟩; obtain ⟨av, cv, rfl, -, -⟩ := id rv))
 have q0 := m0.below b31
 have q1 := m1.below b31
 have q2 := m2.below b31
 have bb2 := Below.after bb b31
 have d0 := cel2_0 q0
 have d1 := cel2_0 q1
 clear m0 m1 m2 c0 c1 c2 c3 r0 r1 H31
 go_wp2_with fail
 refine (HT.out _ _ rv).mono ?_
 rintro e w4 ⟨rfl, hb4⟩
 have p2 := q2.below hb4
 have bb4 := Below.after bb2 hb4
 have e0 := cel2_0 p2
 have e1 := cel2_1 p2
 have f0 := p2.frozen 0
 have f1 := p2.frozen 1
 go_wp2
 exact post_z1 (p := 4) (u := 5) (by kernel_rfl) rfl rfl rfl ((p2.set 0 _).set 1 _) ⟨rfl, (bb4.setCell (by simp; omega) _).setCell (by simp; omega) _⟩
end Go.Proofs.YtdbnkcimcpnpdaaGreatDoor
namespace Go.Proofs.YtdbnkcimcpnpdaaGreatDoor
open Go.RowKit Go.Shelf

theorem run_mk1 (w : World) : (Instr.makeSlice 93 (.int .i64 1) (.int .i64 1)).run Tryz.prog w = .ok (.slice (some ⟨w.heap.size, 0, none⟩) 1 1) (w.alloc (.cells #[.bool false, .slice none 0 0] 89)) := by
 obtain ⟨i0, hi, hz0, hz1, hz2⟩ := info_parts (show (Tryz.prog.info? 89).map (fun i => (i.zero, i.size, i.bytes)) = some (some (.agg #[.bool false, .slice none 0 0]), 2, 32) by kernel_rfl)
 have h := run_make (P := Tryz.prog) w 93 89 i0 (.agg #[.bool false, .slice none 0 0]) Tryz.underlying93 hi hz0 .i64 .i64 1 1 (by omega) (by omega) (by rw [hz2]; omega) (by omega)
 rw [h, hz1]
 have e : madeCells (Value.cells (.agg #[.bool false, .slice none 0 0])) (Int.toNat 1 * 2) = #[.bool false, .slice none 0 0] := by
  have : Value.cells (.agg #[.bool false, .slice none 0 0]) = #[.bool false, .slice none 0 0] := by kernel_rfl
  rw [this]
  unfold madeCells
  apply Array.toList_inj.1
  rw [Array.toList_map, Array.toList_range]
  rfl
 rw [e]
 rfl
theorem no_ints1 (n0 : Bool) (a : Option Addr) (l c : Nat) : ∀ (j : Nat) (k : IntKind) (n : Int), [Value.bool n0, .slice a l c][j]? ≠ some (.int k n) := by
 intro j k n
 match j with
 | 0 => simp
 | 1 => simp
 | j + 2 => simp

set_option maxRecDepth 100000 in
set_option maxHeartbeats 2000000 in
theorem read1_ok (B : Nat) (n0 : Bool) (s0 : ByteArray) (w : World) (hB : Cel w B [.bool n0, .string s0] 24) (o0 : OkZ n0 s0) (z0 : s0.size ≤ 32000) :
  Calls Tryz.prog 88 #[.slice (some ⟨B, 0, none⟩) 1 1] w fun e w' => ∃ g v0, e = .returned (.tuple #[.slice (some ⟨g, 0, none⟩) 1 1, .int .i64 0]) ∧ Cel w' g [.bool n0, v0] 89 ∧ RdX w' v0 (M.digs B64 (natOf s0)) g ∧ w.heap.size ≤ g ∧ Below w.heap.size w w' := by
 have hmk := run_mk1 w
 have Z0 := shut ((chk_ok z0).2 o0)
 have H0 := shut o0.1
 clear o0
 go_enter Tryz.func88, Tryz.ntmps88
 go_wp2
 go_loopw [15] (fun i wr => Below w.heap.size w wr ∧ ((i = .int .i64 0 ∧ Cel wr w.heap.size [.bool false, .slice none 0 0] 89) ∨
   (i = .int .i64 1 ∧ ∃ v0, Cel wr w.heap.size [.bool n0, v0] 89 ∧ RdX wr v0 (M.digs B64 (natOf s0)) w.heap.size))) (fun i _ => 1 - (intOf i).toNat)
 case atStart => exact ⟨(Below.refl _ _).alloc (Nat.le_refl _) _, Or.inl ⟨rfl, Cel.new w [.bool false, .slice none 0 0] _⟩⟩
 case round =>
  obtain ⟨hbel, hc⟩ := hrel
  have kB := hB.below hbel
  have b0 := cel2_0' kB
  have b1 := cel2_1' kB
  clear kB
  rcases hc with ⟨rfl, hc⟩ | ⟨rfl, v0, hc, r0⟩
  ·go_wp2_with fail
   obtain ⟨w1, hw1⟩ : ∃ w1, w1 = wr.alloc (.cells #[.bool n0, .string s0] 24) := ⟨_, rfl⟩
   have hb1 : Below wr.heap.size wr w1 := by rw [hw1]; exact (Below.refl _ _).alloc (Nat.le_refl _) _
   have k1 : Cel w1 wr.heap.size [.bool n0, .string s0] 24 := by rw [hw1]; exact Cel.new wr _ _
   rw [← hw1]
   clear hw1 b0 b1
   refine (check_any n0 s0 w1).mono ?_
   rintro e w2 ⟨rfl, hb2⟩
   rw [Z0.out]
   have k2 := k1.below hb2
   have d0 := cel2_0' k2
   have d1 := cel2_1' k2
   go_wp2_with fail
   refine (of_any s0 w2 z0 H0.out).mono ?_
   rintro e w3 ⟨v, rfl, rv, hb3⟩
   obtain ⟨av, cv, rfl, -, -⟩ := id rv
   have k3' := k2.below hb3
   have d0 := cel2_0' k3'
   have k3 := ((hc.below hb1).below hb2).below hb3
   have bb3 := Below.after (Below.after (Below.after hbel hb1) hb2) hb3
   have e0 := cel2_0' k3
   have e1 := cel2_1' k3
   have f0 := k3.frozen 0
   have f1 := k3.frozen 1
   have rx := rdx_of_cel rv k3 (no_ints1 _ _ _ _)
   have HRX := shut ((rx.setX 0 (.bool n0)).setX 1 (.slice av (M.digs B64 (natOf s0)).length cv))
   clear rx
   go_wp2
   exact ⟨⟨(bb3.setCell (Nat.le_refl _) _).setCell (Nat.le_refl _) _, Or.inr ⟨by go_num, _, (k3.set 0 _).set 1 _, HRX.out⟩⟩, by simp [intOf]⟩
  ·go_wp2
   go_ret2
   exact ⟨_, v0, rfl, hc, r0, Nat.le_refl _, hbel⟩

/-- 10^19. -/
def ten19 : Nat := 10000000000000000000
def slen : Value → Nat
 | .slice _ n _ => n
 | _ => 0

end Go.Proofs.YtdbnkcimcpnpdaaGreatDoor
namespace Go.Proofs.YtdbnkcimcpnpdaaGreatDoor
open Go.RowKit

/-- At most k bytes. -/
def Bd (z : Int) (k : Nat) : Prop := z.natAbs < 256 ^ k
theorem pow256_pos (k : Nat) : 0 < 256 ^ k := Nat.pow_pos (by omega)
theorem Bd.zero (k : Nat) : Bd 0 k := pow256_pos k
theorem Bd.mono {z : Int} {j k : Nat} (h : Bd z j) (hk : j ≤ k) : Bd z k := Nat.lt_of_lt_of_le h (Nat.pow_le_pow_right (by omega) hk)
theorem bd_zOf {n : Bool} {s : ByteArray} {k : Nat} (h : s.size ≤ k) : Bd (zOf n s) k := by
 unfold Bd
 rw [natAbs_zOf]
 exact Nat.lt_of_lt_of_le (natOf_lt s) (Nat.pow_le_pow_right (by omega) h)
theorem Bd.add {x y : Int} {k : Nat} (hx : Bd x k) (hy : Bd y k) : Bd (x + y) (k + 1) := by
 unfold Bd at *
 rw [Nat.pow_succ]
 generalize 256 ^ k = p at *
 omega
theorem Bd.neg {x : Int} {k : Nat} (hx : Bd x k) : Bd (-x) k := by
 unfold Bd at *
 rwa [Int.natAbs_neg]
theorem Bd.mul {x y : Int} {j k : Nat} (hx : Bd x j) (hy : Bd y k) : Bd (x * y) (j + k) := by
 unfold Bd at *
 rw [Int.natAbs_mul, Nat.pow_add]
 exact Nat.mul_lt_mul'' hx hy
theorem Bd.le {x y : Int} {k : Nat} (hy : Bd y k) (h : x.natAbs ≤ y.natAbs) : Bd x k := Nat.lt_of_le_of_lt h hy
theorem Bd.div {x : Int} {k : Nat} (hx : Bd x k) (g : Nat) (hg : (g : Int) ∣ x) : Bd (x / (g : Int)) k := by
 refine hx.le ?_
 rw [Int.natAbs_ediv_of_dvd hg]
 exact Nat.div_le_self _ _
theorem Bd.nat {a b k : Nat} (hb : Bd (b : Int) k) (h : a ≤ b) : Bd (a : Int) k := hb.le (by simpa using h)
theorem Bd.size {z : Int} {k : Nat} (h : Bd z k) : (strOf z.natAbs).size ≤ k := strOf_lt h
/-- A sign and bytes of each number, behind names. -/
theorem named : ∃ (nf : Int → Bool) (sf : Int → ByteArray), (∀ z, zI z = .agg #[.bool (nf z), .string (sf z)]) ∧ (∀ z, OkZ (nf z) (sf z)) ∧ (∀ z k, Bd z k → (sf z).size ≤ k) ∧ (∀ z, zOf (nf z) (sf z) = z) ∧ (∀ n s, OkZ n s → nf (zOf n s) = n ∧ sf (zOf n s) = s) ∧ (∀ z, natOf (sf z) = z.natAbs) ∧ (∀ z, nf z = decide (z < 0)) ∧ (∀ z, sf z = strOf z.natAbs) :=
 ⟨fun z => decide (z < 0), fun z => strOf z.natAbs, fun _ => rfl, okZ_zI, fun z k h => h.size, zOf_zI, fun n s h => by
  have e := zV_ok h
  unfold zI zV at e
  simp only [Value.agg.injEq] at e
  have e' : [Value.bool n, .string s] = [.bool (decide (zOf n s < 0)), .string (strOf (zOf n s).natAbs)] := congrArg Array.toList e
  simp only [List.cons.injEq, Value.bool.injEq, Value.string.injEq] at e'
  exact ⟨e'.1.symm, e'.2.1.symm⟩, fun z => natOf_strOf _, fun _ => rfl, fun _ => rfl⟩
theorem strOf_one : strOf 1 = ⟨#[1]⟩ := by decide +kernel
theorem natOf_one : natOf ⟨#[1]⟩ = 1 := by rw [← strOf_one, natOf_strOf]
theorem zI_one : zI 1 = .agg #[.bool false, .string ⟨#[1]⟩] := by
 show zV (decide ((1 : Int) < 0)) (strOf 1) = _
 rw [strOf_one]
 rfl
theorem okS_one {s : ByteArray} (hs : OkS s) : s = ⟨#[1]⟩ ↔ natOf s = 1 := by
 constructor
 ·intro h; rw [h, natOf_one]
 ·intro h; rw [← strOf_natOf hs, h, strOf_one]
theorem okS_nil {s : ByteArray} (hs : OkS s) : s.size = 0 ↔ natOf s = 0 := by
 constructor
 ·exact natOf_empty
 ·intro h
  refine Nat.eq_zero_of_not_pos fun hp => ?_
  have := natOf_pos hs hp
  omega

/-- That a rational number may be so. -/
def OkQ (n : Bool) (s d : ByteArray) : Prop := OkZ n s ∧ OkS d ∧ 0 < natOf d ∧ Nat.gcd (natOf s) (natOf d) = 1
/-- The number that it is. -/
def qOf (n : Bool) (s d : ByteArray) : Rat := mkRat (zOf n s) (natOf d)
/-- Its one form. -/
def qI (q : Rat) : Value := .agg #[.bool (decide (q.num < 0)), .string (strOf q.num.natAbs), .string (strOf q.den)]
theorem OkQ.low {n : Bool} {s d : ByteArray} (h : OkQ n s d) : (qOf n s d).num = zOf n s ∧ (qOf n s d).den = natOf d :=
 Q.mk_low h.2.2.1 (by rw [natAbs_zOf]; exact h.2.2.2)
theorem OkQ.parts {n : Bool} {s d : ByteArray} (h : OkQ n s d) : decide ((qOf n s d).num < 0) = n ∧ strOf (qOf n s d).num.natAbs = s ∧ strOf (qOf n s d).den = d := by
 rw [h.low.1, h.low.2, natAbs_zOf, strOf_natOf h.1.1, strOf_natOf h.2.1]
 refine ⟨?_, rfl, rfl⟩
 cases n with
 | false => simp [zOf]
 | true =>
  have := natOf_pos h.1.1 (h.1.2 rfl)
  simp [zOf]; omega
theorem okQ_qI (q : Rat) : OkQ (decide (q.num < 0)) (strOf q.num.natAbs) (strOf q.den) := by
 refine ⟨okZ_zI _, okS_strOf _, ?_, ?_⟩
 ·rw [natOf_strOf]; exact q.den_pos
 ·rw [natOf_strOf, natOf_strOf]; exact q.reduced
theorem qOf_qI (q : Rat) : qOf (decide (q.num < 0)) (strOf q.num.natAbs) (strOf q.den) = q := by
 unfold qOf
 rw [zOf_zI, natOf_strOf, Rat.mkRat_self]
/-- What makes a number's form out of its parts. -/
theorem qI_of {q : Rat} {z : Int} {m : Nat} (h : q.num = z ∧ q.den = m) {n : Bool} {s d : ByteArray} (hz : zI z = .agg #[.bool n, .string s]) (hd : d = strOf m) : qI q = .agg #[.bool n, .string s, .string d] := by
 obtain ⟨rfl, rfl⟩ := h
 subst hd
 have e : (#[.bool (decide (q.num < 0)), .string (strOf q.num.natAbs)] : Array Value) = #[.bool n, .string s] := by
  have : zI q.num = .agg #[.bool (decide (q.num < 0)), .string (strOf q.num.natAbs)] := rfl
  rw [this] at hz
  simpa using hz
 have e' : [Value.bool (decide (q.num < 0)), .string (strOf q.num.natAbs)] = [.bool n, .string s] := congrArg Array.toList e
 simp only [List.cons.injEq, Value.bool.injEq, Value.string.injEq, and_true] at e'
 unfold qI
 rw [e'.1, e'.2]
/-- At most k bytes above and below. -/
def Bq (q : Rat) (k : Nat) : Prop := Bd q.num k ∧ Bd (q.den : Int) k
/-- A number's parts, behind names. -/
theorem named3 : ∃ (nf : Rat → Bool) (sf df : Rat → ByteArray), (∀ q, qI q = .agg #[.bool (nf q), .string (sf q), .string (df q)]) ∧ (∀ q, OkQ (nf q) (sf q) (df q)) ∧ (∀ q k, Bq q k → (sf q).size ≤ k ∧ (df q).size ≤ k) ∧ (∀ q, qOf (nf q) (sf q) (df q) = q) ∧ (∀ n s d, OkQ n s d → nf (qOf n s d) = n ∧ sf (qOf n s d) = s ∧ df (qOf n s d) = d) :=
 ⟨fun q => decide (q.num < 0), fun q => strOf q.num.natAbs, fun q => strOf q.den, fun _ => rfl, okQ_qI, fun q k h => ⟨h.1.size, by have := h.2.size; simpa using this⟩, qOf_qI, fun n s d h => h.parts⟩
theorem OkQ.bq {n : Bool} {s d : ByteArray} {k : Nat} (h : OkQ n s d) (hs : s.size ≤ k) (hd : d.size ≤ k) : Bq (qOf n s d) k := by
 refine ⟨?_, ?_⟩
 ·rw [h.low.1]; exact bd_zOf hs
 ·rw [h.low.2]; exact bd_zOf (n := false) hd
theorem Bq.mono {q : Rat} {j k : Nat} (h : Bq q j) (hk : j ≤ k) : Bq q k := ⟨h.1.mono hk, h.2.mono hk⟩

/-- What Check tells. -/
def chkq (n : Bool) (s d : ByteArray) : Nat := if 8000 < s.size ∨ 8000 < d.size then 5 else if chk n s ≠ 0 ∨ d.size = 0 ∨ lm (byts d) 0 = 0 ∨ Nat.gcd (natOf s) (natOf d) ≠ 1 then 1 else 0
theorem chkq_zero {n : Bool} {s d : ByteArray} (h : chkq n s d = 0) : OkQ n s d ∧ s.size ≤ 8000 ∧ d.size ≤ 8000 := by
 unfold chkq at h
 by_cases h1 : 8000 < s.size ∨ 8000 < d.size
 ·rw [if_pos h1] at h; omega
 ·rw [if_neg h1] at h
  by_cases h2 : chk n s ≠ 0 ∨ d.size = 0 ∨ lm (byts d) 0 = 0 ∨ Nat.gcd (natOf s) (natOf d) ≠ 1
  ·rw [if_pos h2] at h; omega
  ·have hs : s.size ≤ 8000 := by omega
   have c0 : chk n s = 0 := by
    refine Classical.byContradiction fun e => h2 (Or.inl e)
   have d0 : 0 < d.size := Nat.pos_of_ne_zero fun e => h2 (Or.inr (Or.inl e))
   have od : OkS d := fun _ e => h2 (Or.inr (Or.inr (Or.inl e)))
   have g1 : Nat.gcd (natOf s) (natOf d) = 1 := Classical.byContradiction fun e => h2 (Or.inr (Or.inr (Or.inr e)))
   exact ⟨⟨(chk_ok (by omega)).1 c0, od, natOf_pos od d0, g1⟩, hs, by omega⟩
theorem chkq_ok {n : Bool} {s d : ByteArray} (h : OkQ n s d) (hs : s.size ≤ 8000) (hd : d.size ≤ 8000) : chkq n s d = 0 := by
 unfold chkq
 rw [if_neg (by omega), if_neg]
 have d0 : 0 < d.size := Nat.pos_of_ne_zero fun e => by have := natOf_empty e; have := h.2.2.1; omega
 rintro (a | a | a | a)
 ·exact a ((chk_ok (by omega)).2 h.1)
 ·omega
 ·exact h.2.1 d0 a
 ·exact a h.2.2.2
end Go.Proofs.YtdbnkcimcpnpdaaGreatDoor
