/-
  Package gussetref01: half.
  Package whole: Add.
  Package whole: Mul.
  gussetref02: make0, Of.
-/
import Derived.Test.YtiiigiggcbbgjaaGreatDoorH21
import Derived.Test.YtiiigiggcbbgjaaGreatDoorH25
import Derived.Test.YtiiigiggcbbgjaaGreatDoorH27
set_option maxRecDepth 100000
set_option maxHeartbeats 4000000
namespace Go.Proofs.YtiiigiggcbbgjaaGreatDoor
open Go.RowKit
def HfAt (xs zs : List Nat) (k r : Nat) : Prop := zs.length = xs.length - k ∧ M.Low D32 zs ∧ r ≤ 1 ∧ 2 * M.val D32 zs + r = M.val D32 (xs.drop k)
theorem HfAt.step {xs zs : List Nat} {k r : Nat} (lx : M.Low D32 xs) (hk : k + 1 ≤ xs.length) (h : HfAt xs zs (k + 1) r) : HfAt xs ((D32 * r + lm xs k) / 2 :: zs) k ((D32 * r + lm xs k) % 2) := by
 obtain ⟨h1, h2, h3, h4⟩ := h
 have b1 : lm xs k < D32 := lm_lt D32_pos lx k
 refine ⟨by simp; omega, ?_, by omega, ?_⟩
 ·intro x hx
  rcases List.mem_cons.1 hx with rfl | hx
  ·unfold D32 at *; omega
  ·exact h2 x hx
 ·rw [drop_lm xs k (by omega), M.val_cons, M.val_cons, ← h4]
  have e := Nat.div_add_mod (D32 * r + lm xs k) 2
  rw [Nat.mul_add D32]
  have e2 : D32 * (2 * M.val D32 zs) = 2 * (D32 * M.val D32 zs) := Nat.mul_left_comm _ _ _
  omega
theorem rhalf_any (va : Value) (xs : List Nat) (w : World) (ha : Rd w va xs) (la : M.Low D32 xs) (hx : xs.length ≤ 100000) :
  Calls Tryz.prog 187 #[va] w fun e w' => ∃ v, e = .returned (.tuple #[v, .bool (decide (M.val D32 xs % 2 = 1))]) ∧ Rd w' v (M.digs D32 (M.val D32 xs / 2)) ∧ Below w.heap.size w w' := by
 have ha0 := ha
 obtain ⟨a, ca, rfl, hca, -⟩ := ha
 obtain ⟨n, hn⟩ : ∃ n, n = xs.length := ⟨_, rfl⟩
 rw [← hn] at ha0 hca hx ⊢
 have HN := shut hn
 clear hn
 go_enter Tryz.func187, Tryz.ntmps187
 go_wp2_with (at_make; refine wpList_mk rfl _ _ rfl _ n rfl rfl (by omega) (by omega) ?_; intro w2 hblk hbel)
 go_loopw [5, 6] (fun r i wr => ∃ (k rr : Nat) (zs : List Nat), k ≤ n ∧ i = .int .i64 ((k : Int) - 1) ∧ r = .int .u64 rr ∧ HfAt xs zs k rr ∧ Blk wr w.heap.size (List.replicate k 0 ++ zs) ∧ Below w.heap.size w wr) (fun _ i _ => (intOf i + 1).toNat)
 case atStart => exact ⟨n, 0, [], Nat.le_refl _, rfl, rfl, ⟨by rw [HN.out]; simp, M.Low.nil _, by omega, by rw [HN.out]; simp [M.val]⟩, by simpa using hblk, hbel⟩
 case round =>
  obtain ⟨k, rr, zs, hk, rfl, rfl, hat, hblk', hbel'⟩ := hrel
  match k with
  | 0 =>
   obtain ⟨h1, h2, h3, h4⟩ := hat
   rw [List.drop_zero] at h4
   rw [List.replicate_zero, List.nil_append] at hblk'
   have hzl : zs.length = n := by rw [h1, HN.out]; omega
   have hrd : Rd wr (.slice (some ⟨w.heap.size, 0, none⟩) n n) zs := by
    have := hblk'.rd0 n (by omega)
    rwa [hzl] at this
   have e1 : M.val D32 zs = M.val D32 xs / 2 := by omega
   have e2 : ((rr : Int) == 1) = decide (M.val D32 xs % 2 = 1) := by
    rw [Bool.eq_iff_iff]
    simp
    omega
   have E1 := shut e1
   have E2 := shut e2
   have hlen : zs.length ≤ 1000000 := by omega
   clear h4 e1 e2 h1 h3 hzl
   go_wp2_with fail
   refine (trim_any D32 D32_two _ _ zs hrd h2 hlen).mono ?_
   rintro e w' ⟨v', rfl, hv', rfl⟩
   go_wp2
   go_ret2
   exact ⟨_, by rw [← E2.out]; rfl, by rw [← E1.out]; exact hv', hbel'⟩
  | k + 1 =>
   have HST := shut (hat.step la (by rw [← HN.out]; exact hk))
   have b1 : lm xs k < 4294967296 := lm_lt D32_pos la k
   have hr1 : rr ≤ 1 := hat.2.2.1
   have hzl : zs.length = n - (k + 1) := by rw [hat.1, HN.out]
   obtain ⟨b1', o1, rfl, q1⟩ := ha0.at hbel' (j := k) (by rw [← HN.out]; omega)
   have hc1 := hblk'.cell (j := k) (by simp; omega)
   have hf1 := hblk'.frozen k
   have hset : ∀ y, Blk (wr.setCell ⟨w.heap.size, k, none⟩ (.int .u64 (y : Nat))) w.heap.size (List.replicate k 0 ++ y :: zs) := fun y => by
    have h := hblk'.set k y
    have e : (List.replicate (k + 1) 0 ++ zs).set k y = List.replicate k 0 ++ y :: zs := by
     rw [List.replicate_succ', List.append_assoc, List.set_append_right _ _ (by simp)]
     simp
    rwa [e] at h
   have HS := shut (hset ((D32 * rr + lm xs k) / 2))
   have ik : (k : Int) < n := by omega
   clear hset hat hzl
   go_wp2
   have e1 : ((rr : Int) * 4294967296 + (lm xs k : Int)) % 2 = (((D32 * rr + lm xs k) % 2 : Nat) : Int) := by unfold D32; omega
   have e2 : ((rr : Int) * 4294967296 + (lm xs k : Int)) / 2 = (((D32 * rr + lm xs k) / 2 : Nat) : Int) := by unfold D32; omega
   rw [e1, e2]
   exact ⟨⟨k, _, _, by omega, rfl, rfl, HST.out, HS.out, hbel'.setCell (Nat.le_refl _) _⟩, by simp only [intOf]; omega⟩
theorem boxes4 (w : World) (x0 x1 y0 y1 : Value) : ∃ w0, w0 = (((w.alloc (.cells #[x0, x1] 24)).alloc (.cells #[y0, y1] 24)).alloc (.cells #[.bool false, .string { data := #[] }] 24)).alloc (.cells #[x0, x1, y0, y1] 24) ∧
  Cel w0 w.heap.size [x0, x1] 24 ∧ Cel w0 (w.heap.size + 1) [y0, y1] 24 ∧ Cel w0 (w.heap.size + 1 + 1) [.bool false, .string { data := #[] }] 24 ∧ Cel w0 (w.heap.size + 1 + 1 + 1) [x0, x1, y0, y1] 24 ∧ Below w.heap.size w w0 := by
 refine ⟨_, rfl, (((Cel.new w [x0, x1] 24).alloc _).alloc _).alloc _, ?_, ?_, ?_, by go_grown⟩
 ·have := ((Cel.new (w.alloc (.cells #[x0, x1] 24)) [y0, y1] 24).alloc (.cells #[.bool false, .string { data := #[] }] 24)).alloc (.cells #[x0, x1, y0, y1] 24)
  simpa using this
 ·have := (Cel.new ((w.alloc (.cells #[x0, x1] 24)).alloc (.cells #[y0, y1] 24)) [.bool false, .string { data := #[] }] 24).alloc (.cells #[x0, x1, y0, y1] 24)
  simpa using this
 ·have := Cel.new (((w.alloc (.cells #[x0, x1] 24)).alloc (.cells #[y0, y1] 24)).alloc (.cells #[.bool false, .string { data := #[] }] 24)) [x0, x1, y0, y1] 24
  simpa using this
theorem sgn_natOf (neg : Bool) (s : ByteArray) : sgn neg (natOf s) = zOf neg s := rfl
theorem sum_any (n0 n1 : Bool) (v0 v1 : Value) (xs ys : List Nat) (w : World) (h0 : Rd w v0 xs) (h1 : Rd w v1 ys) (l0 : M.Low B64 xs) (l1 : M.Low B64 ys) (hx : xs.length ≤ 3000) (hy : ys.length ≤ 3000) :
  Calls Tryz.prog 211 #[.agg #[.bool n0, v0], .agg #[.bool n1, v1]] w (Re w (zI (sgn n0 (M.val B64 xs) + sgn n1 (M.val B64 ys)))) := by
 by_cases h : n1 = n0
 ·subst h
  have := sum_like n1 v0 v1 xs ys w h0 h1 l0 l1 hx hy
  have e : sgn n1 (M.val B64 xs + M.val B64 ys) = sgn n1 (M.val B64 xs) + sgn n1 (M.val B64 ys) := by
   cases n1
   ·simp [sgn]
   ·simp [sgn]; omega
  rwa [e] at this
 ·have e : n1 = !n0 := by cases n0 <;> cases n1 <;> simp_all
  subst e
  have := sum_unlike n0 v0 v1 xs ys w h0 h1 l0 l1 hx hy
  rwa [difz_eq] at this
theorem digs_len_bytes {s : ByteArray} (k : Nat) (h : s.size ≤ 8 * k) : (M.digs B64 (natOf s)).length ≤ k :=
 M.digs_len_of_lt B64_two (Nat.lt_of_lt_of_le (natOf_lt s) (by rw [B64_pow]; exact Nat.pow_le_pow_right (by omega) h))
theorem zadd_ok (n0 n1 : Bool) (s0 s1 : ByteArray) (w : World) (o0 : OkZ n0 s0) (o1 : OkZ n1 s1) (z0 : s0.size ≤ 24000) (z1 : s1.size ≤ 24000) :
  Calls Tryz.prog 192 #[.agg #[.bool n0, .string s0], .agg #[.bool n1, .string s1]] w (Re w (.tuple #[zI (zOf n0 s0 + zOf n1 s1), .int .i64 0])) := by
 have hS : ∀ (v0 v1 : Value) (wx : World), Rd wx v0 (M.digs B64 (natOf s0)) → Rd wx v1 (M.digs B64 (natOf s1)) → Calls Tryz.prog 211 #[.agg #[.bool n0, v0], .agg #[.bool n1, v1]] wx (Re wx (zI (zOf n0 s0 + zOf n1 s1))) := fun v0 v1 wx r0 r1 => by
  have := sum_any n0 n1 v0 v1 _ _ wx r0 r1 (M.Low.digs B64_two _) (M.Low.digs B64_two _) (digs_len_bytes 3000 (by omega)) (digs_len_bytes 3000 (by omega))
  rwa [M.val_digs B64_two, M.val_digs B64_two, sgn_natOf, sgn_natOf] at this
 have HS := shut hS
 clear hS
 generalize hR : zI (zOf n0 s0 + zOf n1 s1) = R at *
 obtain ⟨za, zb, rfl⟩ : ∃ a b, R = .agg #[.bool a, .string b] := ⟨_, _, hR.symm⟩
 clear hR
 go_enter Tryz.func192, Tryz.ntmps192
 go_wp2_with fail
 obtain ⟨w0, hw0, k0, k1, k2, k3, hb0⟩ := boxes4 w (.bool n0) (.string s0) (.bool n1) (.string s1)
 rw [← hw0]
 clear hw0
 refine (read2_ok _ n0 n1 s0 s1 w0 k3 o0 o1 (by omega) (by omega)).mono ?_
 rintro e w1 ⟨g, v0, v1, rfl, kg, r0, r1, hg, hb⟩
 have c0 := kg.cell 0
 have c1 := kg.cell 1
 have c2 := kg.cell 2
 have c3 := kg.cell 3
 simp only [List.getElem?_cons_zero, List.getElem?_cons_succ] at c0 c1 c2 c3
 have m2 := k2.below hb
 have bb := Below.after hb0 hb
 have H30 := shut (HS.out v0 v1 w1.drew (show Rd w1 _ _ from r0.rd) (show Rd w1 _ _ from r1.rd))
 clear HS k0 k1 k2 k3 kg
 obtain ⟨a0, p0, rfl, -, -⟩ := id r0
 obtain ⟨a1, p1, rfl, -, -⟩ := id r1
 go_wp2
 go_region_with (first | (go_at_call 211; refine (H30.out).mono ?_; rintro e w2 ⟨rfl, hb2'⟩; have hb2 : Below w1.heap.size w1 w2 := ⟨hb2'.os, hb2'.tape, hb2'.output, hb2'.size, hb2'.block⟩; have q2 := m2.below hb2; have e0 := cel2_0 q2; have e1 := cel2_1 q2; have f0 := q2.frozen 0; have f1 := q2.frozen 1))
 all_goals try go_wp2
 all_goals refine post_z1 (p := 4) (u := 5) (by kernel_rfl) rfl rfl rfl ((q2.set 0 _).set 1 _) ⟨rfl, ((Below.after bb hb2).setCell (by simp; omega) _).setCell (by simp; omega) _⟩
theorem sgn_mul (a b : Bool) (X Y : Nat) : sgn (a != b) (X * Y) = sgn a X * sgn b Y := by
 cases a <;> cases b <;> simp [sgn, Int.natCast_mul, Int.neg_mul, Int.mul_neg]
theorem digs_len_mul {x y j k : Nat} (hx : x < B64 ^ j) (hy : y < B64 ^ k) : (M.digs B64 (x * y)).length ≤ j + k := by
 refine M.digs_len_of_lt B64_two ?_
 rw [Nat.pow_add]
 exact Nat.mul_lt_mul'' hx hy
theorem natOf_lt8 {s : ByteArray} (k : Nat) (h : s.size ≤ 8 * k) : natOf s < B64 ^ k := Nat.lt_of_lt_of_le (natOf_lt s) (by rw [B64_pow]; exact Nat.pow_le_pow_right (by omega) h)
theorem len_mul8 {s0 s1 : ByteArray} (j k : Nat) (h0 : s0.size ≤ 8 * j) (h1 : s1.size ≤ 8 * k) : (M.digs B64 (natOf s0 * natOf s1)).length ≤ j + k := digs_len_mul (natOf_lt8 j h0) (natOf_lt8 k h1)
theorem zmul_ok (n0 n1 : Bool) (s0 s1 : ByteArray) (w : World) (o0 : OkZ n0 s0) (o1 : OkZ n1 s1) (z0 : s0.size ≤ 16000) (z1 : s1.size ≤ 16000) :
  Calls Tryz.prog 184 #[.agg #[.bool n0, .string s0], .agg #[.bool n1, .string s1]] w (Re w (.tuple #[zI (zOf n0 s0 * zOf n1 s1), .int .i64 0])) := by
 have hM : ∀ (v0 v1 : Value) (wx : World), Rd wx v0 (M.digs B64 (natOf s0)) → Rd wx v1 (M.digs B64 (natOf s1)) → Calls Tryz.prog 114 #[v0, v1] wx fun e w' => ∃ v, e = .returned (.tuple #[v, .int .i64 0]) ∧ Rd w' v (M.digs B64 (natOf s0 * natOf s1)) ∧ Below wx.heap.size wx w' := fun v0 v1 wx r0 r1 => by
  have := mul_any v0 v1 _ _ wx r0 r1 (M.Low.digs B64_two _) (M.Low.digs B64_two _) (Nat.le_trans (digs_len_bytes 2000 (by omega)) (by omega)) (Nat.le_trans (digs_len_bytes 2000 (by omega)) (by omega))
  rwa [M.val_digs B64_two, M.val_digs B64_two] at this
 have hT : ∀ (v : Value) (wx : World), Rd wx v (M.digs B64 (natOf s0 * natOf s1)) → Calls Tryz.prog 170 #[.agg #[.bool (n0 != n1), v]] wx (Re wx (zI (zOf n0 s0 * zOf n1 s1))) := fun v wx hr => by
  have := tell_any (n0 != n1) v _ wx hr (M.Low.digs B64_two _) (by have := len_mul8 2000 2000 (s0 := s0) (s1 := s1) (by omega) (by omega); omega)
  rwa [M.val_digs B64_two, sgn_mul, sgn_natOf, sgn_natOf] at this
 have HM := shut hM
 have HT := shut hT
 clear hM hT
 generalize hR : zI (zOf n0 s0 * zOf n1 s1) = R at *
 obtain ⟨za, zb, rfl⟩ : ∃ a b, R = .agg #[.bool a, .string b] := ⟨_, _, hR.symm⟩
 clear hR
 go_enter Tryz.func184, Tryz.ntmps184
 go_wp2_with fail
 obtain ⟨w0, hw0, k0, k1, k2, k3, hb0⟩ := boxes4 w (.bool n0) (.string s0) (.bool n1) (.string s1)
 rw [← hw0]
 clear hw0
 refine (read2_ok _ n0 n1 s0 s1 w0 k3 o0 o1 (by omega) (by omega)).mono ?_
 rintro e w1 ⟨g, v0, v1, rfl, kg, r0, r1, hg, hb⟩
 have c0 := kg.cell 0
 have c1 := kg.cell 1
 have c2 := kg.cell 2
 have c3 := kg.cell 3
 simp only [List.getElem?_cons_zero, List.getElem?_cons_succ] at c0 c1 c2 c3
 have m0 := k0.below hb
 have m1 := k1.below hb
 have m2 := k2.below hb
 have bb := Below.after hb0 hb
 have H31 := shut (HM.out v0 v1 w1.drew (show Rd w1 _ _ from r0.rd) (show Rd w1 _ _ from r1.rd))
 clear HM k0 k1 k2 k3 kg
 obtain ⟨a0, p0, rfl, -, -⟩ := id r0
 obtain ⟨a1, p1, rfl, -, -⟩ := id r1
 go_wp2
 go_region_held3 (fun w' => w'.cell? ⟨g, 1, none⟩ = some (.slice a0 (M.digs B64 (natOf s0)).length p0) ∧ w'.cell? ⟨g, 3, none⟩ = some (.slice a1 (M.digs B64 (natOf s1)).length p1)) (first | exact ⟨c1, c3⟩ | exact ⟨cell_below c1 b31, cell_below c3 b31⟩) (first | (go_at_call 114; refine (H31.out).mono ?_; rintro e w2 ⟨v, rfl, rv, b31'⟩; have b31 : Below w1.heap.size w1 w2 := ⟨b31'.os, b31'.tape, b31'.output, b31'.size, b31'.block⟩; obtain ⟨av, cv, rfl, -, -⟩ := id rv))
 have q0 := m0.below b31
 have q1 := m1.below b31
 have q2 := m2.below b31
 have bb2 := Below.after bb b31
 have d0 := cel2_0 q0
 have d1 := cel2_0 q1
 clear m0 m1 m2 c0 c1 c2 c3 r0 r1 H31
 go_wp2_with fail
 refine (HT.out _ _ rv).mono ?_
 rintro e w4 ⟨rfl, hb4⟩
 have p2 := q2.below hb4
 have bb4 := Below.after bb2 hb4
 obtain ⟨e0, e1⟩ := xk2 p2
 have f0 := p2.frozen 0
 have f1 := p2.frozen 1
 go_wp2
 exact post_z1 (p := 4) (u := 5) (by kernel_rfl) rfl rfl rfl ((p2.set 0 _).set 1 _) ⟨rfl, (bb4.setCell (by simp; omega) _).setCell (by simp; omega) _⟩
theorem make0_any (neg : Bool) (va : Value) (xs : List Nat) (w : World) (ha : Rd w va xs) (la : M.Low D32 xs) (hx : xs.length ≤ 100000) :
  Calls Tryz.prog 123 #[.bool neg, va] w (Re w (zI (sgn neg (M.val D32 xs)))) := by
 rw [zI_sgn]
 have H := shut (fun w0 h0 => rnat_any va xs w0 h0 la hx)
 have HE := shut (strOf_empty (M.val D32 xs))
 generalize strOf (M.val D32 xs) = s at *
 have ha0 := ha
 obtain ⟨a, ca, rfl, -, -⟩ := ha
 go_enter Tryz.func123, Tryz.ntmps123
 go_wp2_with fail
 obtain ⟨w0, hw0⟩ : ∃ w0, w0 = w.alloc (.cells #[.bool false, .string { data := #[] }] 24) := ⟨_, rfl⟩
 have k2 : Cel w0 w.heap.size [.bool false, .string { data := #[] }] 24 := by rw [hw0]; exact Cel.new w _ _
 have hb0 : Below w.heap.size w w0 := by rw [hw0]; exact (Below.refl _ _).alloc (Nat.le_refl _) _
 rw [← hw0]
 clear hw0
 refine (H.out w0 (ha0.below hb0)).mono ?_
 rintro e w1 ⟨rfl, hb⟩
 have k2' := k2.below hb
 have bb := Below.after hb0 hb
 obtain ⟨c1, c2⟩ := xk2 k2'
 have f1 := k2'.frozen 0
 have f2 := k2'.frozen 1
 clear H HE
 cases neg
 ·go_wp2
  exact post_z (p := 4) (by kernel_rfl) rfl rfl ((k2'.set 0 _).set 1 _) ⟨rfl, (bb.setCell (by simp) _).setCell (by simp) _⟩
 ·go_wp2
  exact post_z (p := 4) (by kernel_rfl) rfl rfl ((k2'.set 0 _).set 1 _) ⟨rfl, (bb.setCell (by simp) _).setCell (by simp) _⟩
theorem split_one {m : Nat} (hm : m < B64) (v : Value) (w : World) (h : Rd w v [m]) :
  Calls Tryz.prog 124 #[v] w fun e w' => ∃ v, e = .returned v ∧ Rd w' v (M.digs D32 m) ∧ Below w.heap.size w w' := by
 have := split_any v [m] w h (low_of_all (by simpa using hm)) (by simp)
 rwa [show M.val B64 [m] = m from by simp [M.val_cons, M.val_nil]] at this
theorem make0_dig (neg : Bool) (m : Nat) (hm : m < B64) (v : Value) (w : World) (h : Rd w v (M.digs D32 m)) :
  Calls Tryz.prog 123 #[.bool neg, v] w (Re w (zI (sgn neg m))) := by
 have hl : (M.digs D32 m).length ≤ 2 := M.digs_len_of_lt D32_two (by rw [show D32 ^ 2 = B64 from by rw [Nat.pow_two, D32_sq]]; exact hm)
 have := make0_any neg v _ w h (M.Low.digs D32_two _) (by omega)
 rwa [M.val_digs D32_two] at this
theorem rof_any (n : Int) (h1 : -9223372036854775808 ≤ n) (h2 : n < 9223372036854775808) (w : World) :
  Calls Tryz.prog 84 #[.int .i64 n] w (Re w (zI n)) := by
 obtain ⟨m, hm⟩ : ∃ m : Nat, m = n.natAbs := ⟨_, rfl⟩
 have hmB : m < B64 := by unfold B64; omega
 have HS := shut (fun v w h => split_one hmB v w h)
 by_cases hn : n < 0
 ·have HM := shut (fun v w h => make0_dig true m hmB v w h)
  rw [show sgn true m = n from by simp [sgn]; omega] at HM
  generalize hR : zI n = R at *
  obtain ⟨za, zb, rfl⟩ : ∃ a b, R = .agg #[.bool a, .string b] := ⟨_, _, hR.symm⟩
  clear hR hmB
  have g1 : IntKind.i64.wrap (n + 1) = n + 1 := by simp only [IntKind.wrap_i64]; omega
  have g2 : IntKind.i64.wrap (-(n + 1)) = -(n + 1) := by simp only [IntKind.wrap_i64]; omega
  have g3 : IntKind.u64.wrap (-(n + 1)) = -(n + 1) := by simp only [IntKind.wrap_u64]; omega
  have g4 : IntKind.u64.wrap (-(n + 1) + 1) = (m : Int) := by simp only [IntKind.wrap_u64]; omega
  clear hm
  go_enter Tryz.func84, Tryz.ntmps84
  go_wp2_with fail
  obtain ⟨w0, hw0, k0, r0, hb0⟩ := boxRow w m
  rw [← hw0]
  clear hw0
  refine (HS.out _ w0 r0).mono ?_
  rintro e w1 ⟨v, rfl, rv, hb1⟩
  obtain ⟨av, cv, rfl, -, -⟩ := id rv
  go_wp2_with fail
  refine (HM.out _ w1 rv).mono ?_
  rintro e w2 ⟨rfl, hb2⟩
  have bb2 := Below.after hb1 hb2
  have m2 := k0.below bb2
  have bb := Below.after hb0 bb2
  obtain ⟨e0, e1⟩ := xk2 m2
  have f0 := m2.frozen 0
  have f1 := m2.frozen 1
  go_wp2
  exact post_z (p := 2) (by kernel_rfl) rfl rfl ((m2.set 0 _).set 1 _) ⟨rfl, (bb.setCell (by simp) _).setCell (by simp) _⟩
 ·have g0 : n = (m : Int) := by omega
  have HM := shut (fun v w h => make0_dig false m hmB v w h)
  rw [show sgn false m = n from by simp [sgn]; omega] at HM
  generalize hR : zI n = R at *
  obtain ⟨za, zb, rfl⟩ : ∃ a b, R = .agg #[.bool a, .string b] := ⟨_, _, hR.symm⟩
  clear hR hmB hm
  subst g0
  have g1 : IntKind.u64.wrap (m : Int) = (m : Int) := by simp only [IntKind.wrap_u64]; omega
  go_enter Tryz.func84, Tryz.ntmps84
  go_wp2_with fail
  obtain ⟨w0, hw0, k0, r0, hb0⟩ := boxRow w m
  rw [← hw0]
  clear hw0
  refine (HS.out _ w0 r0).mono ?_
  rintro e w1 ⟨v, rfl, rv, hb1⟩
  obtain ⟨av, cv, rfl, -, -⟩ := id rv
  go_wp2_with fail
  refine (HM.out _ w1 rv).mono ?_
  rintro e w2 ⟨rfl, hb2⟩
  have bb2 := Below.after hb1 hb2
  have m2 := k0.below bb2
  have bb := Below.after hb0 bb2
  obtain ⟨e0, e1⟩ := xk2 m2
  have f0 := m2.frozen 0
  have f1 := m2.frozen 1
  go_wp2
  exact post_z (p := 2) (by kernel_rfl) rfl rfl ((m2.set 0 _).set 1 _) ⟨rfl, (bb.setCell (by simp) _).setCell (by simp) _⟩
end Go.Proofs.YtiiigiggcbbgjaaGreatDoor
