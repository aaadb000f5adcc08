/-
  Package gussetref01: half.
  Package whole: Add.
  Package whole: Mul.
  Package whole: the steps taken.
-/
import Derived.Test.YtmojdkjpcjfkeaaGreatDoorG23
import Derived.Test.YtmojdkjpcjfkeaaGreatDoorG26
set_option maxRecDepth 100000
set_option maxHeartbeats 4000000
namespace Go.Proofs.YtmojdkjpcjfkeaaGreatDoor
open Go.RowKit
def HfAt (xs zs : List Nat) (k r : Nat) : Prop := zs.length = xs.length - k ∧ M.Low D32 zs ∧ r ≤ 1 ∧ 2 * M.val D32 zs + r = M.val D32 (xs.drop k)
theorem HfAt.step {xs zs : List Nat} {k r : Nat} (lx : M.Low D32 xs) (hk : k + 1 ≤ xs.length) (h : HfAt xs zs (k + 1) r) : HfAt xs ((D32 * r + lm xs k) / 2 :: zs) k ((D32 * r + lm xs k) % 2) := by
 obtain ⟨h1, h2, h3, h4⟩ := h
 have b1 : lm xs k < D32 := lm_lt D32_pos lx k
 refine ⟨by simp; omega, ?_, by omega, ?_⟩
 ·intro x hx
  rcases List.mem_cons.1 hx with rfl | hx
  ·unfold D32 at *; omega
  ·exact h2 x hx
 ·rw [drop_lm xs k (by omega), M.val_cons, M.val_cons, ← h4]
  have e := Nat.div_add_mod (D32 * r + lm xs k) 2
  rw [Nat.mul_add D32]
  have e2 : D32 * (2 * M.val D32 zs) = 2 * (D32 * M.val D32 zs) := Nat.mul_left_comm _ _ _
  omega
theorem rhalf_any (va : Value) (xs : List Nat) (w : World) (ha : Rd w va xs) (la : M.Low D32 xs) (hx : xs.length ≤ 100000) :
  Calls Tryz.prog 181 #[va] w fun e w' => ∃ v, e = .returned (.tuple #[v, .bool (decide (M.val D32 xs % 2 = 1))]) ∧ Rd w' v (M.digs D32 (M.val D32 xs / 2)) ∧ Below w.heap.size w w' := by
 have ha0 := ha
 obtain ⟨a, ca, rfl, hca, -⟩ := ha
 obtain ⟨n, hn⟩ : ∃ n, n = xs.length := ⟨_, rfl⟩
 rw [← hn] at ha0 hca hx ⊢
 have HN := shut hn
 clear hn
 go_enter Tryz.func181, Tryz.ntmps181
 go_wp2_with (at_make; refine wpList_mk rfl _ _ rfl _ n rfl rfl (by omega) (by omega) ?_; intro w2 hblk hbel)
 go_loopw [5, 6] (fun r i wr => ∃ (k rr : Nat) (zs : List Nat), k ≤ n ∧ i = .int .i64 ((k : Int) - 1) ∧ r = .int .u64 rr ∧ HfAt xs zs k rr ∧ Blk wr w.heap.size (List.replicate k 0 ++ zs) ∧ Below w.heap.size w wr) (fun _ i _ => (intOf i + 1).toNat)
 case atStart => exact ⟨n, 0, [], Nat.le_refl _, rfl, rfl, ⟨by rw [HN.out]; simp, M.Low.nil _, by omega, by rw [HN.out]; simp [M.val]⟩, by simpa using hblk, hbel⟩
 case round =>
  obtain ⟨k, rr, zs, hk, rfl, rfl, hat, hblk', hbel'⟩ := hrel
  match k with
  | 0 =>
   obtain ⟨h1, h2, h3, h4⟩ := hat
   rw [List.drop_zero] at h4
   rw [List.replicate_zero, List.nil_append] at hblk'
   have hzl : zs.length = n := by rw [h1, HN.out]; omega
   have hrd : Rd wr (.slice (some ⟨w.heap.size, 0, none⟩) n n) zs := by
    have := hblk'.rd0 n (by omega)
    rwa [hzl] at this
   have e1 : M.val D32 zs = M.val D32 xs / 2 := by omega
   have e2 : ((rr : Int) == 1) = decide (M.val D32 xs % 2 = 1) := by
    rw [Bool.eq_iff_iff]
    simp
    omega
   have E1 := shut e1
   have E2 := shut e2
   have hlen : zs.length ≤ 1000000 := by omega
   clear h4 e1 e2 h1 h3 hzl
   go_wp2_with fail
   refine (trim_any D32 D32_two _ _ zs hrd h2 hlen).mono ?_
   rintro e w' ⟨v', rfl, hv', rfl⟩
   go_wp2
   go_ret2
   exact ⟨_, by rw [← E2.out]; rfl, by rw [← E1.out]; exact hv', hbel'⟩
  | k + 1 =>
   have HST := shut (hat.step la (by rw [← HN.out]; exact hk))
   have b1 : lm xs k < 4294967296 := lm_lt D32_pos la k
   have hr1 : rr ≤ 1 := hat.2.2.1
   have hzl : zs.length = n - (k + 1) := by rw [hat.1, HN.out]
   obtain ⟨b1', o1, rfl, q1⟩ := ha0.at hbel' (j := k) (by rw [← HN.out]; omega)
   have hc1 := hblk'.cell (j := k) (by simp; omega)
   have hf1 := hblk'.frozen k
   have hset : ∀ y, Blk (wr.setCell ⟨w.heap.size, k, none⟩ (.int .u64 (y : Nat))) w.heap.size (List.replicate k 0 ++ y :: zs) := fun y => by
    have h := hblk'.set k y
    have e : (List.replicate (k + 1) 0 ++ zs).set k y = List.replicate k 0 ++ y :: zs := by
     rw [List.replicate_succ', List.append_assoc, List.set_append_right _ _ (by simp)]
     simp
    rwa [e] at h
   have HS := shut (hset ((D32 * rr + lm xs k) / 2))
   have ik : (k : Int) < n := by omega
   clear hset hat hzl
   go_wp2
   have e1 : ((rr : Int) * 4294967296 + (lm xs k : Int)) % 2 = (((D32 * rr + lm xs k) % 2 : Nat) : Int) := by unfold D32; omega
   have e2 : ((rr : Int) * 4294967296 + (lm xs k : Int)) / 2 = (((D32 * rr + lm xs k) / 2 : Nat) : Int) := by unfold D32; omega
   rw [e1, e2]
   exact ⟨⟨k, _, _, by omega, rfl, rfl, HST.out, HS.out, hbel'.setCell (Nat.le_refl _) _⟩, by simp only [intOf]; omega⟩
theorem boxes4 (w : World) (x0 x1 y0 y1 : Value) : ∃ w0, w0 = (((w.alloc (.cells #[x0, x1] 24)).alloc (.cells #[y0, y1] 24)).alloc (.cells #[.bool false, .string { data := #[] }] 24)).alloc (.cells #[x0, x1, y0, y1] 24) ∧
  Cel w0 w.heap.size [x0, x1] 24 ∧ Cel w0 (w.heap.size + 1) [y0, y1] 24 ∧ Cel w0 (w.heap.size + 1 + 1) [.bool false, .string { data := #[] }] 24 ∧ Cel w0 (w.heap.size + 1 + 1 + 1) [x0, x1, y0, y1] 24 ∧ Below w.heap.size w w0 := by
 refine ⟨_, rfl, (((Cel.new w [x0, x1] 24).alloc _).alloc _).alloc _, ?_, ?_, ?_, by go_grown⟩
 ·have := ((Cel.new (w.alloc (.cells #[x0, x1] 24)) [y0, y1] 24).alloc (.cells #[.bool false, .string { data := #[] }] 24)).alloc (.cells #[x0, x1, y0, y1] 24)
  simpa using this
 ·have := (Cel.new ((w.alloc (.cells #[x0, x1] 24)).alloc (.cells #[y0, y1] 24)) [.bool false, .string { data := #[] }] 24).alloc (.cells #[x0, x1, y0, y1] 24)
  simpa using this
 ·have := Cel.new (((w.alloc (.cells #[x0, x1] 24)).alloc (.cells #[y0, y1] 24)).alloc (.cells #[.bool false, .string { data := #[] }] 24)) [x0, x1, y0, y1] 24
  simpa using this
theorem sgn_natOf (neg : Bool) (s : ByteArray) : sgn neg (natOf s) = zOf neg s := rfl
theorem sum_any (n0 n1 : Bool) (v0 v1 : Value) (xs ys : List Nat) (w : World) (h0 : Rd w v0 xs) (h1 : Rd w v1 ys) (l0 : M.Low B64 xs) (l1 : M.Low B64 ys) (hx : xs.length ≤ 3000) (hy : ys.length ≤ 3000) :
  Calls Tryz.prog 206 #[.agg #[.bool n0, v0], .agg #[.bool n1, v1]] w (Re w (zI (sgn n0 (M.val B64 xs) + sgn n1 (M.val B64 ys)))) := by
 by_cases h : n1 = n0
 ·subst h
  have := sum_like n1 v0 v1 xs ys w h0 h1 l0 l1 hx hy
  have e : sgn n1 (M.val B64 xs + M.val B64 ys) = sgn n1 (M.val B64 xs) + sgn n1 (M.val B64 ys) := by
   cases n1
   ·simp [sgn]
   ·simp [sgn]; omega
  rwa [e] at this
 ·have e : n1 = !n0 := by cases n0 <;> cases n1 <;> simp_all
  subst e
  have := sum_unlike n0 v0 v1 xs ys w h0 h1 l0 l1 hx hy
  rwa [difz_eq] at this
theorem digs_len_bytes {s : ByteArray} (k : Nat) (h : s.size ≤ 8 * k) : (M.digs B64 (natOf s)).length ≤ k :=
 M.digs_len_of_lt B64_two (Nat.lt_of_lt_of_le (natOf_lt s) (by rw [B64_pow]; exact Nat.pow_le_pow_right (by omega) h))
theorem zadd_ok (n0 n1 : Bool) (s0 s1 : ByteArray) (w : World) (o0 : OkZ n0 s0) (o1 : OkZ n1 s1) (z0 : s0.size ≤ 24000) (z1 : s1.size ≤ 24000) :
  Calls Tryz.prog 186 #[.agg #[.bool n0, .string s0], .agg #[.bool n1, .string s1]] w (Re w (.tuple #[zI (zOf n0 s0 + zOf n1 s1), .int .i64 0])) := by
 have hS : ∀ (v0 v1 : Value) (wx : World), Rd wx v0 (M.digs B64 (natOf s0)) → Rd wx v1 (M.digs B64 (natOf s1)) → Calls Tryz.prog 206 #[.agg #[.bool n0, v0], .agg #[.bool n1, v1]] wx (Re wx (zI (zOf n0 s0 + zOf n1 s1))) := fun v0 v1 wx r0 r1 => by
  have := sum_any n0 n1 v0 v1 _ _ wx r0 r1 (M.Low.digs B64_two _) (M.Low.digs B64_two _) (digs_len_bytes 3000 (by omega)) (digs_len_bytes 3000 (by omega))
  rwa [M.val_digs B64_two, M.val_digs B64_two, sgn_natOf, sgn_natOf] at this
 have HS := shut hS
 clear hS
 generalize hR : zI (zOf n0 s0 + zOf n1 s1) = R at *
 obtain ⟨za, zb, rfl⟩ : ∃ a b, R = .agg #[.bool a, .string b] := ⟨_, _, hR.symm⟩
 clear hR
 go_enter Tryz.func186, Tryz.ntmps186
 go_wp2_with fail
 obtain ⟨w0, hw0, k0, k1, k2, k3, hb0⟩ := boxes4 w (.bool n0) (.string s0) (.bool n1) (.string s1)
 rw [← hw0]
 clear hw0
 refine (read2_ok _ n0 n1 s0 s1 w0 k3 o0 o1 (by omega) (by omega)).mono ?_
 rintro e w1 ⟨g, v0, v1, rfl, kg, r0, r1, hg, hb⟩
 have c0 := kg.cell 0
 have c1 := kg.cell 1
 have c2 := kg.cell 2
 have c3 := kg.cell 3
 simp only [List.getElem?_cons_zero, List.getElem?_cons_succ] at c0 c1 c2 c3
 have m2 := k2.below hb
 have bb := Below.after hb0 hb
 have H30 := shut (HS.out v0 v1 w1.drew (show Rd w1 _ _ from r0.rd) (show Rd w1 _ _ from r1.rd))
 clear HS k0 k1 k2 k3 kg
 obtain ⟨a0, p0, rfl, -, -⟩ := id r0
 obtain ⟨a1, p1, rfl, -, -⟩ := id r1
 go_wp2
 go_region_with (first | (go_at_call 206; refine (H30.out).mono ?_; rintro e w2 ⟨rfl, hb2'⟩; have hb2 : Below w1.heap.size w1 w2 := ⟨hb2'.os, hb2'.tape, hb2'.output, hb2'.size, hb2'.block⟩; have q2 := m2.below hb2; have e0 := cel2_0 q2; have e1 := cel2_1 q2; have f0 := q2.frozen 0; have f1 := q2.frozen 1))
 all_goals try go_wp2
 all_goals refine post_z1 (p := 4) (u := 5) (by kernel_rfl) rfl rfl rfl ((q2.set 0 _).set 1 _) ⟨rfl, ((Below.after bb hb2).setCell (by simp; omega) _).setCell (by simp; omega) _⟩
theorem sgn_mul (a b : Bool) (X Y : Nat) : sgn (a != b) (X * Y) = sgn a X * sgn b Y := by
 cases a <;> cases b <;> simp [sgn, Int.natCast_mul, Int.neg_mul, Int.mul_neg]
theorem digs_len_mul {x y j k : Nat} (hx : x < B64 ^ j) (hy : y < B64 ^ k) : (M.digs B64 (x * y)).length ≤ j + k := by
 refine M.digs_len_of_lt B64_two ?_
 rw [Nat.pow_add]
 exact Nat.mul_lt_mul'' hx hy
theorem natOf_lt8 {s : ByteArray} (k : Nat) (h : s.size ≤ 8 * k) : natOf s < B64 ^ k := Nat.lt_of_lt_of_le (natOf_lt s) (by rw [B64_pow]; exact Nat.pow_le_pow_right (by omega) h)
theorem len_mul8 {s0 s1 : ByteArray} (j k : Nat) (h0 : s0.size ≤ 8 * j) (h1 : s1.size ≤ 8 * k) : (M.digs B64 (natOf s0 * natOf s1)).length ≤ j + k := digs_len_mul (natOf_lt8 j h0) (natOf_lt8 k h1)
theorem zmul_ok (n0 n1 : Bool) (s0 s1 : ByteArray) (w : World) (o0 : OkZ n0 s0) (o1 : OkZ n1 s1) (z0 : s0.size ≤ 16000) (z1 : s1.size ≤ 16000) :
  Calls Tryz.prog 177 #[.agg #[.bool n0, .string s0], .agg #[.bool n1, .string s1]] w (Re w (.tuple #[zI (zOf n0 s0 * zOf n1 s1), .int .i64 0])) := by
 have hM : ∀ (v0 v1 : Value) (wx : World), Rd wx v0 (M.digs B64 (natOf s0)) → Rd wx v1 (M.digs B64 (natOf s1)) → Calls Tryz.prog 103 #[v0, v1] wx fun e w' => ∃ v, e = .returned (.tuple #[v, .int .i64 0]) ∧ Rd w' v (M.digs B64 (natOf s0 * natOf s1)) ∧ Below wx.heap.size wx w' := fun v0 v1 wx r0 r1 => by
  have := mul_any v0 v1 _ _ wx r0 r1 (M.Low.digs B64_two _) (M.Low.digs B64_two _) (Nat.le_trans (digs_len_bytes 2000 (by omega)) (by omega)) (Nat.le_trans (digs_len_bytes 2000 (by omega)) (by omega))
  rwa [M.val_digs B64_two, M.val_digs B64_two] at this
 have hT : ∀ (v : Value) (wx : World), Rd wx v (M.digs B64 (natOf s0 * natOf s1)) → Calls Tryz.prog 175 #[.agg #[.bool (n0 != n1), v]] wx (Re wx (zI (zOf n0 s0 * zOf n1 s1))) := fun v wx hr => by
  have := tell_any (n0 != n1) v _ wx hr (M.Low.digs B64_two _) (by have := len_mul8 2000 2000 (s0 := s0) (s1 := s1) (by omega) (by omega); omega)
  rwa [M.val_digs B64_two, sgn_mul, sgn_natOf, sgn_natOf] at this
 have HM := shut hM
 have HT := shut hT
 clear hM hT
 generalize hR : zI (zOf n0 s0 * zOf n1 s1) = R at *
 obtain ⟨za, zb, rfl⟩ : ∃ a b, R = .agg #[.bool a, .string b] := ⟨_, _, hR.symm⟩
 clear hR
 go_enter Tryz.func177, Tryz.ntmps177
 go_wp2_with fail
 obtain ⟨w0, hw0, k0, k1, k2, k3, hb0⟩ := boxes4 w (.bool n0) (.string s0) (.bool n1) (.string s1)
 rw [← hw0]
 clear hw0
 refine (read2_ok _ n0 n1 s0 s1 w0 k3 o0 o1 (by omega) (by omega)).mono ?_
 rintro e w1 ⟨g, v0, v1, rfl, kg, r0, r1, hg, hb⟩
 have c0 := kg.cell 0
 have c1 := kg.cell 1
 have c2 := kg.cell 2
 have c3 := kg.cell 3
 simp only [List.getElem?_cons_zero, List.getElem?_cons_succ] at c0 c1 c2 c3
 have m0 := k0.below hb
 have m1 := k1.below hb
 have m2 := k2.below hb
 have bb := Below.after hb0 hb
 have H31 := shut (HM.out v0 v1 w1.drew (show Rd w1 _ _ from r0.rd) (show Rd w1 _ _ from r1.rd))
 clear HM k0 k1 k2 k3 kg
 obtain ⟨a0, p0, rfl, -, -⟩ := id r0
 obtain ⟨a1, p1, rfl, -, -⟩ := id r1
 go_wp2
 go_region_held3 (fun w' => w'.cell? ⟨g, 1, none⟩ = some (.slice a0 (M.digs B64 (natOf s0)).length p0) ∧ w'.cell? ⟨g, 3, none⟩ = some (.slice a1 (M.digs B64 (natOf s1)).length p1)) (first | exact ⟨c1, c3⟩ | exact ⟨cell_below c1 b31, cell_below c3 b31⟩) (first | (go_at_call 103; refine (H31.out).mono ?_; rintro e w2 ⟨v, rfl, rv, b31'⟩; have b31 : Below w1.heap.size w1 w2 := ⟨b31'.os, b31'.tape, b31'.output, b31'.size, b31'.block⟩; obtain ⟨av, cv, rfl, -, -⟩ := id rv))
 have q0 := m0.below b31
 have q1 := m1.below b31
 have q2 := m2.below b31
 have bb2 := Below.after bb b31
 have d0 := cel2_0 q0
 have d1 := cel2_0 q1
 clear m0 m1 m2 c0 c1 c2 c3 r0 r1 H31
 go_wp2_with fail
 refine (HT.out _ _ rv).mono ?_
 rintro e w4 ⟨rfl, hb4⟩
 have p2 := q2.below hb4
 have bb4 := Below.after bb2 hb4
 obtain ⟨e0, e1⟩ := xk2 p2
 have f0 := p2.frozen 0
 have f1 := p2.frozen 1
 go_wp2
 exact post_z1 (p := 4) (u := 5) (by kernel_rfl) rfl rfl rfl ((p2.set 0 _).set 1 _) ⟨rfl, (bb4.setCell (by simp; omega) _).setCell (by simp; omega) _⟩
structure Grew2 (g g' : Nat) (w w' : World) : Prop where
 os : w'.os = w.os
 tape : w'.tape = w.tape
 output : w'.output = w.output
 size : w.heap.size ≤ w'.heap.size
 block : ∀ k, k < w.heap.size → k ≠ g → k ≠ g' → w'.heap[k]? = w.heap[k]?
theorem Grew2.trans {g g' : Nat} {a b c : World} (h : Grew2 g g' a b) (k : Grew2 g g' b c) : Grew2 g g' a c :=
 ⟨k.os.trans h.os, k.tape.trans h.tape, k.output.trans h.output, Nat.le_trans h.size k.size, fun i hl hi hj => (k.block i (Nat.lt_of_lt_of_le hl h.size) hi hj).trans (h.block i hl hi hj)⟩
theorem Grew2.left {g g' : Nat} {a b : World} (h : Only g a b) : Grew2 g g' a b := ⟨h.os, h.tape, h.output, by rw [h.size]; exact Nat.le_refl _, fun i _ hi _ => h.block i hi⟩
theorem Grew2.right {g g' : Nat} {a b : World} (h : Only g' a b) : Grew2 g g' a b := ⟨h.os, h.tape, h.output, by rw [h.size]; exact Nat.le_refl _, fun i _ _ hi => h.block i hi⟩
theorem Grew2.of {g g' : Nat} {a b : World} (h : Below a.heap.size a b) : Grew2 g g' a b := ⟨h.os, h.tape, h.output, h.size, fun i hl _ _ => h.block i hl⟩
theorem Grew2.set0 {g g' : Nat} {a w : World} (h : Grew2 g g' a w) (j : Nat) (u : Value) : Grew2 g g' a (w.setCell ⟨g, j, none⟩ u) := h.trans (Grew2.left ((Only.refl _ _).setCell _ _))
theorem Grew2.set1 {g g' : Nat} {a w : World} (h : Grew2 g g' a w) (j : Nat) (u : Value) : Grew2 g g' a (w.setCell ⟨g', j, none⟩ u) := h.trans (Grew2.right ((Only.refl _ _).setCell _ _))
theorem Grew2.below {g g' B : Nat} {a w w' : World} (h : Below B a w) (k : Grew2 g g' w w') (hB : B ≤ w.heap.size) (h0 : B ≤ g) (h1 : B ≤ g') : Below B a w' :=
 ⟨k.os.trans h.os, k.tape.trans h.tape, k.output.trans h.output, Nat.le_trans h.size k.size, fun i hi => (k.block i (by omega) (by omega) (by omega)).trans (h.block i hi)⟩
theorem Cel.grew2 {w w' : World} {g a b : Nat} {cs : List Value} {t : TypeId} (h : Cel w g cs t) (k : Grew2 a b w w') (ha : g ≠ a) (hb : g ≠ b) : Cel w' g cs t := by
 have := h.lt
 unfold Cel at h ⊢
 rw [k.block g this ha hb]; exact h
def TkAt (xs ys d : List Nat) (a b k p m l : Nat) : Prop :=
 d.length = k ∧ M.Low B64 d ∧ p < B64 ∧ m < B64 ∧ l ≤ 1 ∧ M.val B64 d + b * M.val B64 (ys.take k) + B64 ^ k * p = a * M.val B64 (xs.take k) + B64 ^ k * (m + l)
theorem tk_step {B P V X Y a b x y o lx hx ly hy p m l l' : Nat} (h : V + b * Y + P * p = a * X + P * (m + l)) (h1 : lx + B * hx = x * a + p) (h2 : ly + B * hy = y * b + m) (h3 : o + ly + l = lx + B * l') :
  (V + P * o) + b * (Y + P * y) + P * B * hx = a * (X + P * x) + P * B * (hy + l') := by
 have e1 : P * (lx + B * hx) = P * (x * a + p) := by rw [h1]
 have e2 : P * (ly + B * hy) = P * (y * b + m) := by rw [h2]
 have e3 : P * (o + ly + l) = P * (lx + B * l') := by rw [h3]
 grind
theorem TkAt.step {xs ys d : List Nat} {a b k p m l : Nat} (lx : M.Low B64 xs) (ly : M.Low B64 ys) (ha : a < B64) (hb : b < B64) (h : TkAt xs ys d a b k p m l) :
  TkAt xs ys (d ++ [dif64 (tLo (lm xs k) a p) (tLo (lm ys k) b m) l]) a b (k + 1) (tHi (lm xs k) a p) (tHi (lm ys k) b m) (bor64 (tLo (lm xs k) a p) (tLo (lm ys k) b m) l) := by
 obtain ⟨h1, h2, h3, h4, h5, h6⟩ := h
 obtain ⟨f1, f2, f3⟩ := t_facts (lm_lt B64_pos lx k) ha h3
 obtain ⟨g1, g2, g3⟩ := t_facts (lm_lt B64_pos ly k) hb h4
 generalize tLo (lm xs k) a p = u at *
 generalize tLo (lm ys k) b m = v at *
 have k1 : dif64 u v l < B64 := by unfold dif64 B64; omega
 have k2 : bor64 u v l ≤ 1 := by unfold bor64; split <;> omega
 have k3 : dif64 u v l + v + l = u + B64 * bor64 u v l := by
  unfold dif64 bor64
  unfold B64 at *
  split <;> omega
 refine ⟨by simp [h1], h2.snoc k1, f1, g1, k2, ?_⟩
 rw [M.val_snoc, h1, M.val_take_succ, M.val_take_succ, Nat.pow_succ]
 exact tk_step h6 f3 g3 k3
theorem tk_fin {P V A C p m l N : Nat} (h : V + C + P * p = A + P * (m + l)) (hV : V < P) (hN : N < P) (hl : l ≤ 1) (hA : A = C + N ∨ C = A + N) :
  (¬ (p < m ∨ (p = m ∧ l ≠ 0)) ∧ V = N) ∨ ((p < m ∨ (p = m ∧ l ≠ 0)) ∧ V ≠ 0 ∧ ∀ V', V' + V = P → V' = N) := by
 rcases hA with rfl | rfl
 ·left
  have h' : V + P * p = N + P * (m + l) := by omega
  have e : p = m + l := by
   rcases Nat.lt_trichotomy p (m + l) with g | g | g
   ·have := Nat.mul_le_mul_left P (show p + 1 ≤ m + l from g)
    rw [Nat.mul_add, Nat.mul_one] at this
    omega
   ·exact g
   ·have := Nat.mul_le_mul_left P (show m + l + 1 ≤ p from g)
    rw [Nat.mul_add, Nat.mul_one] at this
    omega
  rw [e] at h'
  exact ⟨by omega, by omega⟩
 ·have h' : V + N + P * p = P * (m + l) := by omega
  by_cases h0 : N = 0
  ·left
   subst h0
   have e : p = m + l := by
    rcases Nat.lt_trichotomy p (m + l) with g | g | g
    ·have := Nat.mul_le_mul_left P (show p + 1 ≤ m + l from g)
     rw [Nat.mul_add, Nat.mul_one] at this
     omega
    ·exact g
    ·have := Nat.mul_le_mul_left P (show m + l + 1 ≤ p from g)
     rw [Nat.mul_add, Nat.mul_one] at this
     omega
   rw [e] at h'
   exact ⟨by omega, by omega⟩
  ·right
   have e : m + l = p + 1 := by
    rcases Nat.lt_trichotomy (m + l) (p + 1) with g | g | g
    ·have := Nat.mul_le_mul_left P (show m + l ≤ p by omega)
     omega
    ·exact g
    ·have := Nat.mul_le_mul_left P (show p + 2 ≤ m + l from g)
     rw [Nat.mul_add] at this
     omega
   rw [e, Nat.mul_add, Nat.mul_one] at h'
   refine ⟨by omega, by omega, fun V' hV' => by omega⟩
theorem take_walk (a b c d g0 g1 : Nat) (t : TypeId) (xs ys q0 q1 : List Nat) (c0 n1 c1 : Nat) (w : World) (h0 : Bk w g0 (xs ++ q0) t) (h1 : Bk w g1 (ys ++ q1) t) (hg : g0 ≠ g1) (hxy : ys.length = xs.length)
  (ha : a < B64) (hb : b < B64) (hc : c < B64) (hd : d < B64) (lx : M.Low B64 xs) (ly : M.Low B64 ys) (hc1 : xs.length ≤ c1) (hm : xs.length ≤ 1000000)
  (X' Y' : Nat) (eX : a * M.val B64 xs = b * M.val B64 ys + X' ∨ b * M.val B64 ys = a * M.val B64 xs + X') (eY : c * M.val B64 xs = d * M.val B64 ys + Y' ∨ d * M.val B64 ys = c * M.val B64 xs + Y')
  (bX : X' < B64 ^ xs.length) (bY : Y' < B64 ^ xs.length) :
  Calls Tryz.prog 201 #[.agg #[.int .u64 (a : Nat), .int .u64 (b : Nat), .int .u64 (c : Nat), .int .u64 (d : Nat)], .slice (some ⟨g0, 0, none⟩) xs.length c0, .slice (some ⟨g1, 0, none⟩) n1 c1] w fun e w' =>
   ∃ xs' ys' : List Nat, e = .returned (.tuple #[]) ∧ Bk w' g0 (xs' ++ q0) t ∧ Bk w' g1 (ys' ++ q1) t ∧ xs'.length = xs.length ∧ ys'.length = xs.length ∧ M.Low B64 xs' ∧ M.Low B64 ys' ∧ M.val B64 xs' = X' ∧ M.val B64 ys' = Y' ∧ Grew2 g0 g1 w w' := by
 have hcc1 : (xs.length : Int) ≤ c1 := by omega
 have EX := shut eX
 have EY := shut eY
 have BX := shut bX
 have BY := shut bY
 clear eX eY bX bY
 go_enter Tryz.func201, Tryz.ntmps201
 go_wp2
 have kS := Cel.new w [.int .u64 (a : Nat), .int .u64 (b : Nat), .int .u64 (c : Nat), .int .u64 (d : Nat)] 199
 have gS : Grew2 g0 g1 w (w.alloc (.cells #[.int .u64 (a : Nat), .int .u64 (b : Nat), .int .u64 (c : Nat), .int .u64 (d : Nat)] 199)) := Grew2.of ((Below.refl _ _).alloc (Nat.le_refl _) _)
 have lt0 := h0.lt
 have lt1 := h1.lt
 go_loopw [6, 7, 8, 9, 10, 11, 23] (fun va vb vc vd vl vl' i wr => ∃ (k p m p' m' l l' : Nat) (u v : List Nat), k ≤ xs.length ∧ i = .int .i64 k ∧ va = .int .u64 p ∧ vb = .int .u64 m ∧ vc = .int .u64 p' ∧ vd = .int .u64 m' ∧ vl = .int .u64 l ∧ vl' = .int .u64 l' ∧
   TkAt xs ys u a b k p m l ∧ TkAt xs ys v c d k p' m' l' ∧ Bk wr g0 ([] ++ u ++ xs.drop k ++ q0) t ∧ Bk wr g1 ([] ++ v ++ ys.drop k ++ q1) t ∧ Cel wr w.heap.size [.int .u64 (a : Nat), .int .u64 (b : Nat), .int .u64 (c : Nat), .int .u64 (d : Nat)] 199 ∧ Grew2 g0 g1 w wr)
  (fun _ _ _ _ _ _ i _ => xs.length - (intOf i).toNat)
 case atStart => exact ⟨0, 0, 0, 0, 0, 0, 0, [], [], by omega, rfl, rfl, rfl, rfl, rfl, rfl, rfl, ⟨rfl, M.Low.nil _, B64_pos, B64_pos, by omega, by simp [M.val]⟩, ⟨rfl, M.Low.nil _, B64_pos, B64_pos, by omega, by simp [M.val]⟩,
   by simpa using h0.below ((Below.refl _ _).alloc (Nat.le_refl _) _), by simpa using h1.below ((Below.refl _ _).alloc (Nat.le_refl _) _), kS, gS⟩
 case round =>
  clear kS gS
  obtain ⟨k, p, m, p', m', l, l', u, v, hk, rfl, rfl, rfl, rfl, rfl, rfl, rfl, at1, at2, k0, k1, kS, gS⟩ := hrel
  have hul : u.length = k := at1.1
  have hvl : v.length = k := at2.1
  obtain ⟨-, -, ip, im, il, -⟩ := id at1
  obtain ⟨-, -, ip', im', il', -⟩ := id at2
  by_cases hlt : k < xs.length
  ·rw [drop_lm xs k hlt] at k0
   rw [drop_lm ys k (by omega)] at k1
   have x1 := k0.cell (j := k) (by simp; omega)
   have em := lm_mid [] u (xs.drop (k + 1)) q0 (lm xs k)
   rw [List.length_nil, Nat.zero_add, hul] at em
   rw [em] at x1
   have y1 := k1.cell (j := k) (by simp; omega)
   have em := lm_mid [] v (ys.drop (k + 1)) q1 (lm ys k)
   rw [List.length_nil, Nat.zero_add, hvl] at em
   rw [em] at y1
   have f0 := k0.frozen k
   have s0 := kS.cell 0
   have s1 := kS.cell 1
   have s2 := kS.cell 2
   have s3 := kS.cell 3
   simp only [List.getElem?_cons_zero, List.getElem?_cons_succ] at s0 s1 s2 s3
   have hks : (k : Int) < xs.length := by omega
   have hky : (k : Int) < ys.length := by omega
   have ixl := lm_lt B64_pos lx k
   have iyl := lm_lt B64_pos ly k
   have T1 := shut (at1.step lx ly ha hb)
   have T2 := shut (at2.step lx ly hc hd)
   have M1 := shut (fun w => times_any (lm xs k) a p ixl ha ip w)
   have M2 := shut (fun w => times_any (lm ys k) b m iyl hb im w)
   have M3 := shut (fun w => times_any (lm xs k) c p' ixl hc ip' w)
   have M4 := shut (fun w => times_any (lm ys k) d m' iyl hd im' w)
   clear ixl iyl at1 at2 em
   go_wp2_with fail
   refine (M1.out _).mono ?_
   rintro e w1 ⟨rfl, rfl⟩
   go_wp2_with fail
   refine (M2.out _).mono ?_
   rintro e w1 ⟨rfl, rfl⟩
   obtain ⟨o, ho⟩ : ∃ o, o = dif64 (tLo (lm xs k) a p) (tLo (lm ys k) b m) l := ⟨_, rfl⟩
   have HS1 := shut (fun w => sub64 (tLo (lm xs k) a p) (tLo (lm ys k) b m) l il w)
   obtain ⟨w2, hw2⟩ : ∃ w2, w2 = w1.setCell ⟨g0, k, none⟩ (.int .u64 (o : Nat)) := ⟨_, rfl⟩
   have j0 : Bk w2 g0 ([] ++ (u ++ [o]) ++ xs.drop (k + 1) ++ q0) t := by
    have hset := k0.set k o
    have es := set_mid [] u (xs.drop (k + 1)) q0 (lm xs k) o
    rw [List.length_nil, Nat.zero_add, hul] at es
    rw [es, ← hw2] at hset
    exact hset
   have j1 : Bk w2 g1 ([] ++ v ++ (lm ys k :: ys.drop (k + 1)) ++ q1) t := by rw [hw2]; exact k1.other (Ne.symm hg) _ _
   have jS : Cel w2 w.heap.size [.int .u64 (a : Nat), .int .u64 (b : Nat), .int .u64 (c : Nat), .int .u64 (d : Nat)] 199 := by rw [hw2]; exact kS.other (by omega) _ _
   have jG : Grew2 g0 g1 w w2 := by rw [hw2]; exact gS.set0 _ _
   have s2' := jS.cell 2
   have s3' := jS.cell 3
   have f1 := j1.frozen k
   have y2 := j1.cell (j := k) (by simp; omega)
   simp only [List.getElem?_cons_zero, List.getElem?_cons_succ] at s2' s3'
   rw [hw2, ho] at s2' s3' f1 y2
   go_wp2_with (first | simp only [HS1.out])
   rw [← ho, ← hw2]
   rw [← ho, ← hw2] at s2' s3' f1 y2
   have j0' := j0
   rw [ho] at j0'
   clear hw2 ho
   clear s0 s1 s2 s3 HS1 k0 k1 kS gS x1 y1 f0
   refine (M3.out _).mono ?_
   rintro e w3 ⟨rfl, rfl⟩
   go_wp2_with fail
   refine (M4.out _).mono ?_
   rintro e w3 ⟨rfl, rfl⟩
   have HS2 := shut (fun w => sub64 (tLo (lm xs k) c p') (tLo (lm ys k) d m') l' il' w)
   have z1 : Bk (w3.setCell ⟨g1, k, none⟩ (.int .u64 (dif64 (tLo (lm xs k) c p') (tLo (lm ys k) d m') l' : Nat))) g1 ([] ++ (v ++ [dif64 (tLo (lm xs k) c p') (tLo (lm ys k) d m') l']) ++ ys.drop (k + 1) ++ q1) t := by
    have hset := j1.set k (dif64 (tLo (lm xs k) c p') (tLo (lm ys k) d m') l')
    have es := set_mid [] v (ys.drop (k + 1)) q1 (lm ys k) (dif64 (tLo (lm xs k) c p') (tLo (lm ys k) d m') l')
    rw [List.length_nil, Nat.zero_add, hvl] at es
    rw [es] at hset
    exact hset
   have Z1 := shut z1
   have Z0 := shut (j0'.other hg k (.int .u64 (dif64 (tLo (lm xs k) c p') (tLo (lm ys k) d m') l' : Nat)))
   have ZS := shut (jS.other (show w.heap.size ≠ g1 by omega) k (.int .u64 (dif64 (tLo (lm xs k) c p') (tLo (lm ys k) d m') l' : Nat)))
   have ZG := shut (jG.set1 k (.int .u64 (dif64 (tLo (lm xs k) c p') (tLo (lm ys k) d m') l' : Nat)))
   clear z1
   go_wp2_with (first | simp only [HS2.out])
   exact ⟨⟨k + 1, _, _, _, _, _, _, _, _, by omega, by go_num, rfl, rfl, rfl, rfl, rfl, rfl, T1.out, T2.out, Z0.out, Z1.out, ZS.out, ZG.out⟩, by simp [intOf]; omega⟩
  ·have hke : k = xs.length := by omega
   rw [List.drop_of_length_le (by omega), List.append_nil, List.nil_append] at k0 k1
   obtain ⟨-, lu, -, -, -, e1⟩ := at1
   obtain ⟨-, lv, -, -, -, e2⟩ := at2
   rw [M.val_take_all _ _ _ (by omega), M.val_take_all _ _ _ (by omega), hke] at e1 e2
   have lu' := M.val_lt B64_pos lu
   have lv' := M.val_lt B64_pos lv
   rw [hul, hke] at lu'
   rw [hvl, hke] at lv'
   have F1 := shut (tk_fin e1 lu' BX.out il EX.out)
   have F2 := shut (tk_fin e2 lv' BY.out il' EY.out)
   have HU : Hid (u.length = xs.length) := by show _ = _; omega
   have HV : Hid (v.length = xs.length) := by show _ = _; omega
   have A1 : (p < m) ∨ (p = m ∧ l = 1) ∨ (p = m ∧ l = 0) ∨ (m < p) := by omega
   have A2 : (p' < m') ∨ (p' = m' ∧ l' = 1) ∨ (p' = m' ∧ l' = 0) ∨ (m' < p') := by omega
   clear e1 e2 lu' lv' hke hul hvl ip im il ip' im' il' ha hb hc hd lx ly h0 h1
   rcases A1 with h1 | ⟨rfl, rfl⟩ | ⟨rfl, rfl⟩ | h1
   ·have nz : M.val B64 u ≠ 0 ∧ ∀ V', V' + M.val B64 u = B64 ^ xs.length → V' = X' := by
     rcases F1.out with ⟨h, -⟩ | ⟨-, h⟩
     ·exact absurd (by first | exact Or.inl h1 | exact Or.inr ⟨rfl, by omega⟩) h
     ·exact h
    have NZ1 := shut nz
    have HT1 := shut (fun wx (hx : Bk wx g0 (u ++ q0) t) => turn_any g0 t u q0 c0 wx hx lu (by rw [HU.out]; exact hm) nz.1)
    rw [HU.out] at HT1
    clear nz
    go_wp2_with fail
    refine (HT1.out _ k0).mono ?_
    rintro e w5 ⟨u', rfl, k0', lv1, lu', lv3, ov⟩
    replace k1 := k1.only ov (by omega)
    replace gS := gS.trans (Grew2.left ov)
    have V1 := shut (NZ1.out.2 _ lv3)
    replace HU : Hid (u'.length = xs.length) := lv1
    clear lv3 lv1 HT1 NZ1 k0 lu F1 ov
    have k0 := k0'
    have lu := lu'
    clear k0' lu'
    rcases A2 with h2 | ⟨rfl, rfl⟩ | ⟨rfl, rfl⟩ | h2
    ·have nz : M.val B64 v ≠ 0 ∧ ∀ V', V' + M.val B64 v = B64 ^ xs.length → V' = Y' := by
      rcases F2.out with ⟨h, -⟩ | ⟨-, h⟩
      ·exact absurd (by first | exact Or.inl h2 | exact Or.inr ⟨rfl, by omega⟩) h
      ·exact h
     have NZ := shut nz
     have HT2 := shut (fun wx (hx : Bk wx g1 (v ++ q1) t) => turn_any g1 t v q1 c1 wx hx lv (by rw [HV.out]; exact hm) nz.1)
     rw [HV.out] at HT2
     clear nz
     go_wp2_with fail
     refine (HT2.out _ k1).mono ?_
     rintro e w5 ⟨v', rfl, k1', lv1, lv2, lv3, ov⟩
     have k0' := k0.only ov (by omega)
     have gS' := gS.trans (Grew2.right ov)
     have LV := shut (NZ.out.2 _ lv3)
     have LV1 := shut lv1
     clear lv3 lv1 HT2 NZ
     go_wp2
     go_end0
     exact ⟨_, v', rfl, k0', k1', HU.out, LV1.out, lu, lv2, V1.out, LV.out, gS'⟩
    ·have nz : M.val B64 v ≠ 0 ∧ ∀ V', V' + M.val B64 v = B64 ^ xs.length → V' = Y' := by
      rcases F2.out with ⟨h, -⟩ | ⟨-, h⟩
      ·exact absurd (by first | exact Or.inl h2 | exact Or.inr ⟨rfl, by omega⟩) h
      ·exact h
     have NZ := shut nz
     have HT2 := shut (fun wx (hx : Bk wx g1 (v ++ q1) t) => turn_any g1 t v q1 c1 wx hx lv (by rw [HV.out]; exact hm) nz.1)
     rw [HV.out] at HT2
     clear nz
     go_wp2_with fail
     refine (HT2.out _ k1).mono ?_
     rintro e w5 ⟨v', rfl, k1', lv1, lv2, lv3, ov⟩
     have k0' := k0.only ov (by omega)
     have gS' := gS.trans (Grew2.right ov)
     have LV := shut (NZ.out.2 _ lv3)
     have LV1 := shut lv1
     clear lv3 lv1 HT2 NZ
     go_wp2
     go_end0
     exact ⟨_, v', rfl, k0', k1', HU.out, LV1.out, lu, lv2, V1.out, LV.out, gS'⟩
    ·have V2 : Hid (M.val B64 v = Y') := by
      rcases F2.out with ⟨-, h⟩ | ⟨h, -⟩
      ·exact h
      ·exact absurd h (by omega)
     go_wp2_with fail
     go_end0
     first | exact ⟨_, v, rfl, k0, k1, HU.out, HV.out, lu, lv, V1.out, V2.out, gS⟩ | exact ⟨rfl, _, v, k0, k1, HU.out, HV.out, lu, lv, V1.out, V2.out, gS⟩ | exact ⟨rfl, _, k0, v, k1, HU.out, HV.out, lu, lv, V1.out, V2.out, gS⟩
    ·have V2 : Hid (M.val B64 v = Y') := by
      rcases F2.out with ⟨-, h⟩ | ⟨h, -⟩
      ·exact h
      ·exact absurd h (by omega)
     go_wp2_with fail
     go_end0
     first | exact ⟨_, v, rfl, k0, k1, HU.out, HV.out, lu, lv, V1.out, V2.out, gS⟩ | exact ⟨rfl, _, v, k0, k1, HU.out, HV.out, lu, lv, V1.out, V2.out, gS⟩ | exact ⟨rfl, _, k0, v, k1, HU.out, HV.out, lu, lv, V1.out, V2.out, gS⟩
   ·have nz : M.val B64 u ≠ 0 ∧ ∀ V', V' + M.val B64 u = B64 ^ xs.length → V' = X' := by
     rcases F1.out with ⟨h, -⟩ | ⟨-, h⟩
     ·exact absurd (by first | exact Or.inl h1 | exact Or.inr ⟨rfl, by omega⟩) h
     ·exact h
    have NZ1 := shut nz
    have HT1 := shut (fun wx (hx : Bk wx g0 (u ++ q0) t) => turn_any g0 t u q0 c0 wx hx lu (by rw [HU.out]; exact hm) nz.1)
    rw [HU.out] at HT1
    clear nz
    go_wp2_with fail
    refine (HT1.out _ k0).mono ?_
    rintro e w5 ⟨u', rfl, k0', lv1, lu', lv3, ov⟩
    replace k1 := k1.only ov (by omega)
    replace gS := gS.trans (Grew2.left ov)
    have V1 := shut (NZ1.out.2 _ lv3)
    replace HU : Hid (u'.length = xs.length) := lv1
    clear lv3 lv1 HT1 NZ1 k0 lu F1 ov
    have k0 := k0'
    have lu := lu'
    clear k0' lu'
    rcases A2 with h2 | ⟨rfl, rfl⟩ | ⟨rfl, rfl⟩ | h2
    ·have nz : M.val B64 v ≠ 0 ∧ ∀ V', V' + M.val B64 v = B64 ^ xs.length → V' = Y' := by
      rcases F2.out with ⟨h, -⟩ | ⟨-, h⟩
      ·exact absurd (by first | exact Or.inl h2 | exact Or.inr ⟨rfl, by omega⟩) h
      ·exact h
     have NZ := shut nz
     have HT2 := shut (fun wx (hx : Bk wx g1 (v ++ q1) t) => turn_any g1 t v q1 c1 wx hx lv (by rw [HV.out]; exact hm) nz.1)
     rw [HV.out] at HT2
     clear nz
     go_wp2_with fail
     refine (HT2.out _ k1).mono ?_
     rintro e w5 ⟨v', rfl, k1', lv1, lv2, lv3, ov⟩
     have k0' := k0.only ov (by omega)
     have gS' := gS.trans (Grew2.right ov)
     have LV := shut (NZ.out.2 _ lv3)
     have LV1 := shut lv1
     clear lv3 lv1 HT2 NZ
     go_wp2
     go_end0
     exact ⟨_, v', rfl, k0', k1', HU.out, LV1.out, lu, lv2, V1.out, LV.out, gS'⟩
    ·have nz : M.val B64 v ≠ 0 ∧ ∀ V', V' + M.val B64 v = B64 ^ xs.length → V' = Y' := by
      rcases F2.out with ⟨h, -⟩ | ⟨-, h⟩
      ·exact absurd (by first | exact Or.inl h2 | exact Or.inr ⟨rfl, by omega⟩) h
      ·exact h
     have NZ := shut nz
     have HT2 := shut (fun wx (hx : Bk wx g1 (v ++ q1) t) => turn_any g1 t v q1 c1 wx hx lv (by rw [HV.out]; exact hm) nz.1)
     rw [HV.out] at HT2
     clear nz
     go_wp2_with fail
     refine (HT2.out _ k1).mono ?_
     rintro e w5 ⟨v', rfl, k1', lv1, lv2, lv3, ov⟩
     have k0' := k0.only ov (by omega)
     have gS' := gS.trans (Grew2.right ov)
     have LV := shut (NZ.out.2 _ lv3)
     have LV1 := shut lv1
     clear lv3 lv1 HT2 NZ
     go_wp2
     go_end0
     exact ⟨_, v', rfl, k0', k1', HU.out, LV1.out, lu, lv2, V1.out, LV.out, gS'⟩
    ·have V2 : Hid (M.val B64 v = Y') := by
      rcases F2.out with ⟨-, h⟩ | ⟨h, -⟩
      ·exact h
      ·exact absurd h (by omega)
     go_wp2_with fail
     go_end0
     first | exact ⟨_, v, rfl, k0, k1, HU.out, HV.out, lu, lv, V1.out, V2.out, gS⟩ | exact ⟨rfl, _, v, k0, k1, HU.out, HV.out, lu, lv, V1.out, V2.out, gS⟩ | exact ⟨rfl, _, k0, v, k1, HU.out, HV.out, lu, lv, V1.out, V2.out, gS⟩
    ·have V2 : Hid (M.val B64 v = Y') := by
      rcases F2.out with ⟨-, h⟩ | ⟨h, -⟩
      ·exact h
      ·exact absurd h (by omega)
     go_wp2_with fail
     go_end0
     first | exact ⟨_, v, rfl, k0, k1, HU.out, HV.out, lu, lv, V1.out, V2.out, gS⟩ | exact ⟨rfl, _, v, k0, k1, HU.out, HV.out, lu, lv, V1.out, V2.out, gS⟩ | exact ⟨rfl, _, k0, v, k1, HU.out, HV.out, lu, lv, V1.out, V2.out, gS⟩
   ·have V1 : Hid (M.val B64 u = X') := by
     rcases F1.out with ⟨-, h⟩ | ⟨h, -⟩
     ·exact h
     ·exact absurd h (by omega)
    clear F1
    rcases A2 with h2 | ⟨rfl, rfl⟩ | ⟨rfl, rfl⟩ | h2
    ·have nz : M.val B64 v ≠ 0 ∧ ∀ V', V' + M.val B64 v = B64 ^ xs.length → V' = Y' := by
      rcases F2.out with ⟨h, -⟩ | ⟨-, h⟩
      ·exact absurd (by first | exact Or.inl h2 | exact Or.inr ⟨rfl, by omega⟩) h
      ·exact h
     have NZ := shut nz
     have HT2 := shut (fun wx (hx : Bk wx g1 (v ++ q1) t) => turn_any g1 t v q1 c1 wx hx lv (by rw [HV.out]; exact hm) nz.1)
     rw [HV.out] at HT2
     clear nz
     go_wp2_with fail
     refine (HT2.out _ k1).mono ?_
     rintro e w5 ⟨v', rfl, k1', lv1, lv2, lv3, ov⟩
     have k0' := k0.only ov (by omega)
     have gS' := gS.trans (Grew2.right ov)
     have LV := shut (NZ.out.2 _ lv3)
     have LV1 := shut lv1
     clear lv3 lv1 HT2 NZ
     go_wp2
     go_end0
     exact ⟨_, v', rfl, k0', k1', HU.out, LV1.out, lu, lv2, V1.out, LV.out, gS'⟩
    ·have nz : M.val B64 v ≠ 0 ∧ ∀ V', V' + M.val B64 v = B64 ^ xs.length → V' = Y' := by
      rcases F2.out with ⟨h, -⟩ | ⟨-, h⟩
      ·exact absurd (by first | exact Or.inl h2 | exact Or.inr ⟨rfl, by omega⟩) h
      ·exact h
     have NZ := shut nz
     have HT2 := shut (fun wx (hx : Bk wx g1 (v ++ q1) t) => turn_any g1 t v q1 c1 wx hx lv (by rw [HV.out]; exact hm) nz.1)
     rw [HV.out] at HT2
     clear nz
     go_wp2_with fail
     refine (HT2.out _ k1).mono ?_
     rintro e w5 ⟨v', rfl, k1', lv1, lv2, lv3, ov⟩
     have k0' := k0.only ov (by omega)
     have gS' := gS.trans (Grew2.right ov)
     have LV := shut (NZ.out.2 _ lv3)
     have LV1 := shut lv1
     clear lv3 lv1 HT2 NZ
     go_wp2
     go_end0
     exact ⟨_, v', rfl, k0', k1', HU.out, LV1.out, lu, lv2, V1.out, LV.out, gS'⟩
    ·have V2 : Hid (M.val B64 v = Y') := by
      rcases F2.out with ⟨-, h⟩ | ⟨h, -⟩
      ·exact h
      ·exact absurd h (by omega)
     go_wp2_with fail
     go_end0
     first | exact ⟨_, v, rfl, k0, k1, HU.out, HV.out, lu, lv, V1.out, V2.out, gS⟩ | exact ⟨rfl, _, v, k0, k1, HU.out, HV.out, lu, lv, V1.out, V2.out, gS⟩ | exact ⟨rfl, _, k0, v, k1, HU.out, HV.out, lu, lv, V1.out, V2.out, gS⟩
    ·have V2 : Hid (M.val B64 v = Y') := by
      rcases F2.out with ⟨-, h⟩ | ⟨h, -⟩
      ·exact h
      ·exact absurd h (by omega)
     go_wp2_with fail
     go_end0
     first | exact ⟨_, v, rfl, k0, k1, HU.out, HV.out, lu, lv, V1.out, V2.out, gS⟩ | exact ⟨rfl, _, v, k0, k1, HU.out, HV.out, lu, lv, V1.out, V2.out, gS⟩ | exact ⟨rfl, _, k0, v, k1, HU.out, HV.out, lu, lv, V1.out, V2.out, gS⟩
   ·have V1 : Hid (M.val B64 u = X') := by
     rcases F1.out with ⟨-, h⟩ | ⟨h, -⟩
     ·exact h
     ·exact absurd h (by omega)
    clear F1
    rcases A2 with h2 | ⟨rfl, rfl⟩ | ⟨rfl, rfl⟩ | h2
    ·have nz : M.val B64 v ≠ 0 ∧ ∀ V', V' + M.val B64 v = B64 ^ xs.length → V' = Y' := by
      rcases F2.out with ⟨h, -⟩ | ⟨-, h⟩
      ·exact absurd (by first | exact Or.inl h2 | exact Or.inr ⟨rfl, by omega⟩) h
      ·exact h
     have NZ := shut nz
     have HT2 := shut (fun wx (hx : Bk wx g1 (v ++ q1) t) => turn_any g1 t v q1 c1 wx hx lv (by rw [HV.out]; exact hm) nz.1)
     rw [HV.out] at HT2
     clear nz
     go_wp2_with fail
     refine (HT2.out _ k1).mono ?_
     rintro e w5 ⟨v', rfl, k1', lv1, lv2, lv3, ov⟩
     have k0' := k0.only ov (by omega)
     have gS' := gS.trans (Grew2.right ov)
     have LV := shut (NZ.out.2 _ lv3)
     have LV1 := shut lv1
     clear lv3 lv1 HT2 NZ
     go_wp2
     go_end0
     exact ⟨_, v', rfl, k0', k1', HU.out, LV1.out, lu, lv2, V1.out, LV.out, gS'⟩
    ·have nz : M.val B64 v ≠ 0 ∧ ∀ V', V' + M.val B64 v = B64 ^ xs.length → V' = Y' := by
      rcases F2.out with ⟨h, -⟩ | ⟨-, h⟩
      ·exact absurd (by first | exact Or.inl h2 | exact Or.inr ⟨rfl, by omega⟩) h
      ·exact h
     have NZ := shut nz
     have HT2 := shut (fun wx (hx : Bk wx g1 (v ++ q1) t) => turn_any g1 t v q1 c1 wx hx lv (by rw [HV.out]; exact hm) nz.1)
     rw [HV.out] at HT2
     clear nz
     go_wp2_with fail
     refine (HT2.out _ k1).mono ?_
     rintro e w5 ⟨v', rfl, k1', lv1, lv2, lv3, ov⟩
     have k0' := k0.only ov (by omega)
     have gS' := gS.trans (Grew2.right ov)
     have LV := shut (NZ.out.2 _ lv3)
     have LV1 := shut lv1
     clear lv3 lv1 HT2 NZ
     go_wp2
     go_end0
     exact ⟨_, v', rfl, k0', k1', HU.out, LV1.out, lu, lv2, V1.out, LV.out, gS'⟩
    ·have V2 : Hid (M.val B64 v = Y') := by
      rcases F2.out with ⟨-, h⟩ | ⟨h, -⟩
      ·exact h
      ·exact absurd h (by omega)
     go_wp2_with fail
     go_end0
     first | exact ⟨_, v, rfl, k0, k1, HU.out, HV.out, lu, lv, V1.out, V2.out, gS⟩ | exact ⟨rfl, _, v, k0, k1, HU.out, HV.out, lu, lv, V1.out, V2.out, gS⟩ | exact ⟨rfl, _, k0, v, k1, HU.out, HV.out, lu, lv, V1.out, V2.out, gS⟩
    ·have V2 : Hid (M.val B64 v = Y') := by
      rcases F2.out with ⟨-, h⟩ | ⟨h, -⟩
      ·exact h
      ·exact absurd h (by omega)
     go_wp2_with fail
     go_end0
     first | exact ⟨_, v, rfl, k0, k1, HU.out, HV.out, lu, lv, V1.out, V2.out, gS⟩ | exact ⟨rfl, _, v, k0, k1, HU.out, HV.out, lu, lv, V1.out, V2.out, gS⟩ | exact ⟨rfl, _, k0, v, k1, HU.out, HV.out, lu, lv, V1.out, V2.out, gS⟩
end Go.Proofs.YtmojdkjpcjfkeaaGreatDoor
