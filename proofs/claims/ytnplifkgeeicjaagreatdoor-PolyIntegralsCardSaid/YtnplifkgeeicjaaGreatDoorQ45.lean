import Derived.Test.YtnplifkgeeicjaaGreatDoorQ44
set_option maxRecDepth 100000
set_option maxHeartbeats 16000000
namespace Go.Proofs.YtnplifkgeeicjaaGreatDoor
open Go.RowKit
theorem Fw {w : World} {d g i a b c : Nat} {u : Value} (h : w.cell? ⟨d, i, none⟩ = some u) (hne : ¬ d = g) (x y z : Value) : (((w.setCell ⟨g, a, none⟩ x).setCell ⟨g, b, none⟩ y).setCell ⟨g, c, none⟩ z).cell? ⟨d, i, none⟩ = some u := by
 rw [World.cell?_setCell_other _ _ _ _ (fun e => hne (by injection e with e; exact e.symm)), World.cell?_setCell_other _ _ _ _ (fun e => hne (by injection e with e; exact e.symm)), World.cell?_setCell_other _ _ _ _ (fun e => hne (by injection e with e; exact e.symm))]
 exact h
theorem Ue (N M' A : Nat → Bool) (S D T E B C : Nat → ByteArray) (p0 p1 : Bool) (q0 r0 q1 r1 : ByteArray) (w : World)
  (hM : M' 1 = p0 ∧ T 1 = q0 ∧ E 1 = r0 ∧ M' 2 = p1 ∧ T 2 = q1 ∧ E 2 = r1)
  (H1 : Hid (∀ w1, Calls Tryz.prog 40 #[.int .i64 1] w1 (Re w1 ((Bo (M' 0) (T 0) (E 0))))))
  (H2 : Hid (∀ w1, Calls Tryz.prog 137 #[(Bo p0 q0 r0)] w1 (Re w1 ((Bo (M' 3) (T 3) (E 3))))))
  (H3 : Hid (∀ w1, Calls Tryz.prog 36 #[(Bo p0 q0 r0), (Bo p1 q1 r1)] w1 (Re w1 ((Bo (M' 4) (T 4) (E 4))))))
  (H4 : Hid (∀ w1, Calls Tryz.prog 137 #[(Bo p1 q1 r1)] w1 (Re w1 ((Bo (M' 5) (T 5) (E 5))))))
  (H0 : Hid (∀ w1, Calls Tryz.prog 40 #[.int .i64 0] w1 (Re w1 ((Bo (A 0) (B 0) (C 0))))))
  (HT : Hid (∀ k w1, k < 6 → Calls Tryz.prog 36 #[(Bo (N k) (S k) (D k)), (Bo (M' k) (T k) (E k))] w1 fun e w' => ∃ n s d, e = .returned ((Bo n s d)) ∧ (∀ w2, Calls Tryz.prog 41 #[(Bo (A k) (B k) (C k)), (Bo n s d)] w2 (Re w2 ((Bo (A (k + 1)) (B (k + 1)) (C (k + 1)))))) ∧ Below w1.heap.size w1 w')) :
  Calls Tryz.prog 78 #[(Cp (N 0) (S 0) (D 0) (N 1) (S 1) (D 1) (N 2) (S 2) (D 2) (N 3) (S 3) (D 3) (N 4) (S 4) (D 4) (N 5) (S 5) (D 5)), (B4 p0 q0 r0 p1 q1 r1)] w (Re w ((Bo (A 6) (B 6) (C 6)))) := by
 obtain ⟨rfl, rfl, rfl, rfl, rfl, rfl⟩ := hM
 go_enter Tryz.func78, Tryz.ntmps78
 go_upto_region 1 with fail
 obtain ⟨w0, hq, kf, kp, kr, bb⟩ := K9 w (Di (N 0) (S 0) (D 0) (N 1) (S 1) (D 1) (N 2) (S 2) (D 2) (N 3) (S 3) (D 3) (N 4) (S 4) (D 4) (N 5) (S 5) (D 5)) (Cn (M' 1) (T 1) (E 1) (M' 2) (T 2) (E 2)) (Bx false eB eB) 28 30 26
 rw [← hq]
 clear hq
 have bd := Cd w0
 replace kf := kf.b bd
 replace kp := kp.b bd
 replace kr := kr.b bd
 replace bb := Ia bb bd
 clear bd
 refine Jc (S := fun w' => Gl w' (w.heap.size + 1) (Iz (M' 1)) (I (T 1)) (I (E 1)) (Iz (M' 2)) (I (T 2)) (I (E 2))) (by kernel_rfl) (Cw kp) (fun hS => ?_)
 generalize w0.drew = wd at *
 refine WA.start (n := 18) (by kernel_rfl) ?_
 refine WA.tp 1 rfl ?_
 refine WA.tp 2 rfl ?_
 refine WA.tp 3 rfl ?_
 refine WA.tp 4 rfl ?_
 refine WA.tp 5 rfl ?_
 refine WA.tp 6 rfl ?_
 refine WA.tp 8 rfl ?_
 refine WA.tp 9 rfl ?_
 refine WA.tp 10 rfl ?_
 refine WA.tp 11 rfl ?_
 refine WA.tp 13 rfl ?_
 refine WA.tp 14 rfl ?_
 clear hS
 refine WA.cal 0 rfl (fun K hK => ?_)
 simp only [List.getElem_toArray, List.getElem_cons_zero]
 go_simp
 go_fit (H1.out _)
 rintro e w1 ⟨rfl, b1⟩
 replace kf := kf.b b1
 replace kp := kp.b b1
 replace kr := kr.b b1
 replace bb := Ia bb b1
 clear b1
 try go_wp2_with fail
 refine hK.out _ _ (Cw kp) (fun hS => ?_)
 clear hK K hS
 refine WA.cal 7 rfl (fun K hK => ?_)
 simp only [Jq]
 go_simp
 go_fit (H2.out _)
 rintro e w2 ⟨rfl, b1⟩
 replace kf := kf.b b1
 replace kp := kp.b b1
 replace kr := kr.b b1
 replace bb := Ia bb b1
 clear b1
 try go_wp2_with fail
 refine hK.out _ _ (Cw kp) (fun hS => ?_)
 clear hK K hS
 refine WA.cal 12 rfl (fun K hK => ?_)
 simp only [Jq]
 go_simp
 go_fit (H3.out _)
 rintro e w3 ⟨rfl, b1⟩
 replace kf := kf.b b1
 replace kp := kp.b b1
 replace kr := kr.b b1
 replace bb := Ia bb b1
 clear b1
 try go_wp2_with fail
 refine hK.out _ _ (Cw kp) (fun hS => ?_)
 clear hK K hS
 refine WA.cal 15 rfl (fun K hK => ?_)
 simp only [Jq]
 go_simp
 go_fit (H4.out _)
 rintro e w4 ⟨rfl, b1⟩
 replace kf := kf.b b1
 replace kp := kp.b b1
 replace kr := kr.b b1
 replace bb := Ia bb b1
 clear b1
 try go_wp2_with fail
 refine hK.out _ _ (Cw kp) (fun hS => ?_)
 clear hK K hS
 refine WA.cal 16 rfl (fun K hK => ?_)
 simp only [Jq]
 go_simp
 try go_wp2_with fail
 obtain ⟨w5, hw, kv, b1⟩ := D7 w4 (Di (M' 0) (T 0) (E 0) (M' 1) (T 1) (E 1) (M' 2) (T 2) (E 2) (M' 3) (T 3) (E 3) (M' 4) (T 4) (E 4) (M' 5) (T 5) (E 5)) 26
 rw [← hw]
 clear hw
 replace kf := kf.b b1
 replace kp := kp.b b1
 replace kr := kr.b b1
 replace bb := Ia bb b1
 clear b1
 refine hK.out _ _ (Cw kp) (fun hS => ?_)
 clear hK K
 refine WA.tp 17 rfl ?_
 refine WA.done (by kernel_rfl) ?_
 clear hS kp
 go_wp2_with fail
 go_fit (H0.out _)
 rintro e w6 ⟨rfl, b1⟩
 replace kf := kf.b b1
 replace kv := kv.b b1
 replace kr := kr.b b1
 replace bb := Ia bb b1
 clear b1
 have hf := Ba (X7 kf)
 have hv := Ba (X7 kv)
 have tf := kf.lt
 have tv := kv.lt
 have tr := kr.lt
 clear kf kv
 have b6 := bb
 clear bb
 go_upto_region 3 with fail
 obtain ⟨w7, hw, ks, bb⟩ := D7 w6 (Bx (A 0) (B 0) (C 0)) 26
 rw [← hw]
 clear hw
 go_wp2_with fail
 go_loopw [7] (fun i wr => Below w6.heap.size w6 wr ∧ ∃ k : Nat, k ≤ 6 ∧ i = .int .i64 k ∧ Be wr w6.heap.size (Bx (A k) (B k) (C k)) 26) (fun i _ => 6 - (intOf i).toNat)
 case atStart => exact ⟨bb, 0, by omega, rfl, ks⟩
 case round =>
  clear bb ks
  obtain ⟨bb, k, hk, rfl, ks⟩ := hrel
  by_cases hkm : k < 6
  ·obtain ⟨b, off, e, g0, g1, g2⟩ := hf.out.b bb k hkm
   injection e with e
   injection e with e1 e2
   subst e1 e2
   obtain ⟨b, off, e, h0, h1, h2⟩ := hv.out.b bb k hkm
   injection e with e
   injection e with e1 e2
   subst e1 e2
   rw [Nat.zero_add] at g0 g1 g2 h0 h1 h2
   have i1 : (k : Int) < 6 := by omega
   have i2 : ¬ (k : Int) < 0 := by omega
   replace tf := Ba tf
   replace tv := Ba tv
   replace tr := Ba tr
   go_wp2_with fail
   have bd := Cd wr
   replace ks := ks.b bd
   replace g0 := Bh g0 bd
   replace g1 := Bh g1 bd
   replace g2 := Bh g2 bd
   replace h0 := Bh h0 bd
   replace h1 := Bh h1 bd
   replace h2 := Bh h2 bd
   replace bb := Ia bb bd
   clear bd
   refine Jc (S := fun w' => (w'.cell? ⟨w.heap.size, k * 3, none⟩ = some (Iz (N k)) ∧ w'.cell? ⟨w.heap.size, k * 3 + 1, none⟩ = some (I (S k)) ∧ w'.cell? ⟨w.heap.size, k * 3 + 2, none⟩ = some (I (D k))) ∧ (w'.cell? ⟨w4.heap.size, k * 3, none⟩ = some (Iz (M' k)) ∧ w'.cell? ⟨w4.heap.size, k * 3 + 1, none⟩ = some (I (T k)) ∧ w'.cell? ⟨w4.heap.size, k * 3 + 2, none⟩ = some (I (E k)))) (by kernel_rfl) ⟨⟨g0, g1, g2⟩, ⟨h0, h1, h2⟩⟩ (fun hS => ?_)
   generalize wr.drew = wd at *
   refine WA.start (n := 11) (by kernel_rfl) ?_
   refine WA.tp 1 rfl ?_
   refine WA.tp 2 rfl ?_
   refine WA.tp 3 rfl ?_
   refine WA.tp 4 rfl ?_
   refine WA.tp 5 rfl ?_
   refine WA.tp 6 rfl ?_
   refine WA.tp 7 rfl ?_
   refine WA.genR (i := 0) (s := 30) ((Bo (A k) (B k) (C k))) (fun b x hz => ?_)
   simp only [Jp]
   obtain ⟨c0, c1, c2⟩ := Ch ks
   revert b x
   refine WA.oneR 11 254 8 0 rfl rfl hS ?_
   clear hS c0 c1 c2
   intro b x hz K hK
   simp only [Jq]
   go_simp
   go_fit (HT.out k _ hkm)
   rintro e w8 ⟨n, s, d, rfl, HU, b1⟩
   replace HU := Ba HU
   replace ks := ks.b b1
   replace g0 := Bh g0 b1
   replace g1 := Bh g1 b1
   replace g2 := Bh g2 b1
   replace h0 := Bh h0 b1
   replace h1 := Bh h1 b1
   replace h2 := Bh h2 b1
   replace bb := Ia bb b1
   clear b1
   try go_wp2_with fail
   refine hK.out _ _ ⟨⟨g0, g1, g2⟩, ⟨h0, h1, h2⟩⟩ (fun hS => ?_)
   clear hK K
   obtain ⟨c0, c1, c2⟩ := Ch ks
   revert b x
   refine WA.finR 0 rfl hS ?_
   clear c0 c1 c2
   refine WA.cal 9 rfl (fun K hK => ?_)
   simp only [Jq]
   go_simp
   go_fit (HU.out _)
   rintro e w9 ⟨rfl, b1⟩
   clear HU
   replace ks := ks.b b1
   replace g0 := Bh g0 b1
   replace g1 := Bh g1 b1
   replace g2 := Bh g2 b1
   replace h0 := Bh h0 b1
   replace h1 := Bh h1 b1
   replace h2 := Bh h2 b1
   replace bb := Ia bb b1
   clear b1
   try go_wp2_with fail
   clear hS
   refine hK.out _ _ ⟨⟨g0, g1, g2⟩, ⟨h0, h1, h2⟩⟩ (fun hS => ?_)
   clear hK K
   obtain ⟨c0, c1, c2⟩ := Ch ks
   have f0 := Be.o ks 0
   have f1 := Be.o ks 1
   have f2 := Be.o ks 2
   refine WA.cal 10 rfl (fun K hK => ?_)
   simp only [Jq]
   go_simp
   try go_wp2_with fail
   clear c0 c1 c2 f0 f1 f2 hS
   have hnf : ¬ (w.heap.size = w6.heap.size) := by have := tf.out; omega
   have hnv : ¬ (w4.heap.size = w6.heap.size) := by have := tv.out; omega
   refine hK.out _ _ ⟨⟨Fw g0 hnf _ _ _, Fw g1 hnf _ _ _, Fw g2 hnf _ _ _⟩, ⟨Fw h0 hnv _ _ _, Fw h1 hnv _ _ _, Fw h2 hnv _ _ _⟩⟩ (fun hS => ?_)
   clear hK K
   refine WA.done (by kernel_rfl) ?_
   clear hS g0 g1 g2 h0 h1 h2
   have bs := Bi (Bi (Bi bb (Jb w6.heap.size) 0 (Iz (A (k + 1)))) (Jb w6.heap.size) 1 (I (B (k + 1)))) (Jb w6.heap.size) 2 (I (C (k + 1)))
   replace ks := ((ks.set 0 (Iz (A (k + 1)))).set 1 (I (B (k + 1)))).set 2 (I (C (k + 1)))
   clear bb
   go_wp2_with fail
   refine ⟨⟨bs, k + 1, by omega, by go_num, ks⟩, ?_⟩
   simp [intOf]; omega
  ·obtain rfl : k = 6 := by omega
   have i3 : ¬ ((6 : Nat) : Int) < 6 := by omega
   have kr' := kr.b bb
   have bR := Ia b6 bb
   have hne : ¬ (w6.heap.size = w.heap.size + 1 + 1) := by omega
   clear kr tf tv tr
   obtain ⟨c0, c1, c2⟩ := Ch ks
   obtain ⟨e0, e1, e2⟩ := Ch kr'
   have f0 := Be.o kr' 0
   have f1 := Be.o kr' 1
   have f2 := Be.o kr' 2
   go_wp2
   exact Cu (p := 4) (by kernel_rfl) rfl rfl (((kr'.set 0 _).set 1 _).set 2 _) ⟨rfl, Bi (Bi (Bi bR (by omega) 0 _) (by omega) 1 _) (by omega) 2 _⟩
def ss (r v : Nat → Rat) : Nat → Rat
 | 0 => 0
 | k + 1 => ss r v k + r k * v k
theorem Bfa {r v : Nat → Rat} {M' : Nat} : ∀ n, (∀ k, k < n → Bq (r k * v k) M') → Bq (ss r v n) ((M' + 1) * n + 1)
 | 0, _ => by
  constructor
  ·exact Bd.zero _
  ·show Bd ((1 : Nat) : Int) _
   unfold Bd
   simp
 | n + 1, h => by
  have := Ld (Bfa n (fun k hk => h k (by omega))) (h n (by omega))
  refine Ci this ?_
  rw [Nat.mul_add]
  omega
theorem ofJ (n : Int) (h1 : -1000 ≤ n) (h2 : n ≤ 1000) (w : World) : Calls Tryz.prog 40 #[.int .i64 n] w (Ra w (rq (n : Rat))) := by
 have := Kd n h1 h2 w
 rw [Bf5]
 exact this
theorem Bfb (x : Rat) {K : Nat} (hK : K ≤ 4000) (bx : Bq x K) (w : World) : Calls Tryz.prog 137 #[rq x] w (Ra w (rq (x * x))) :=
 Xx _ _ _ _ _ _ w (fun w1 _ => C5 x x hK bx bx w1)
theorem Ma (r : Nat → Rat) (x y : Rat) {K K' : Nat} (hK : (K + (K' + K') + 1) * 6 + 1 ≤ 4000) (h1 : 1 ≤ K') (hb : ∀ k, k < 6 → Bq (r k) K) (bx : Bq x K') (bY : Bq y K') (w : World) :
  Calls Tryz.prog 78 #[Qr r, pq x y] w (Ra w (rq (ev r x y))) := by
 have hv : ∀ k, k < 6 → Bq (Cx 1 x y (x * x) (x * y) (y * y) k) (K' + K') := fun k hk => by
  match k, hk with
  | 0, _ => exact Ci (show Bq (1 : Rat) 1 from ⟨(by decide : (1 : Rat).num.natAbs < 256 ^ 1), (by decide : ((1 : Rat).den : Int).natAbs < 256 ^ 1)⟩) (show 1 ≤ K' + K' by omega)
  | 1, _ => exact Ci bx (by omega)
  | 2, _ => exact Ci bY (by omega)
  | 3, _ => exact Et bx bx
  | 4, _ => exact Et bx bY
  | 5, _ => exact Et bY bY
 have hm : ∀ k, k < 6 → Bq (r k * Cx 1 x y (x * x) (x * y) (y * y) k) (K + (K' + K')) := fun k hk => Et (hb k hk) (hv k hk)
 have e6 : ss r (Cx 1 x y (x * x) (x * y) (y * y)) 6 = ev r x y := by
  unfold ss ss ss ss ss ss ss ev
  show 0 + r 0 * 1 + r 1 * x + r 2 * y + r 3 * (x * x) + r 4 * (x * y) + r 5 * (y * y) = _
  grind
 rw [← e6]
 refine Ue (fun k => Bs (r k).num) (fun k => Bs (Cx 1 x y (x * x) (x * y) (y * y) k).num) (fun k => Bs (ss r (Cx 1 x y (x * x) (x * y) (y * y)) k).num) (fun k => Bp (r k).num) (fun k => Bf (r k).den) (fun k => Bp (Cx 1 x y (x * x) (x * y) (y * y) k).num) (fun k => Bf (Cx 1 x y (x * x) (x * y) (y * y) k).den) (fun k => Bp (ss r (Cx 1 x y (x * x) (x * y) (y * y)) k).num) (fun k => Bf (ss r (Cx 1 x y (x * x) (x * y) (y * y)) k).den) _ _ _ _ _ _ w ⟨rfl, rfl, rfl, rfl, rfl, rfl⟩ (fun w1 => ofJ 1 (by omega) (by omega) w1) (fun w1 => Bfb x (K := K') (by omega) bx w1) (fun w1 => C5 x y (K := K') (by omega) bx bY w1) (fun w1 => Bfb y (K := K') (by omega) bY w1) (fun w1 => ofJ 0 (by omega) (by omega) w1) (fun k w1 hk => ?_)
 refine (C5 (r k) (Cx 1 x y (x * x) (x * y) (y * y) k) (K := K + (K' + K')) (by omega) (Ci (hb k hk) (by omega)) (Ci (hv k hk) (by omega)) w1).mono (fun e w' h => ⟨_, _, _, h.1, fun w2 => ?_, h.2⟩)
 have hs := Bfa (r := r) (v := Cx 1 x y (x * x) (x * y) (y * y)) (M' := K + (K' + K')) k (fun j hj => hm j (by omega))
 exact F7 (ss r (Cx 1 x y (x * x) (x * y) (y * y)) k) (r k * Cx 1 x y (x * x) (x * y) (y * y) k) (K := (K + (K' + K') + 1) * 6 + 1) hK (Ci hs (by have := Nat.mul_le_mul_left (K + (K' + K') + 1) (show k ≤ 6 by omega); omega)) (Ci (hm k hk) (by omega)) w2
abbrev t18 (x0 z0 x1 z1 x2 z2 : Rat) : Value := (Cp (Bs x0.num) (Bp x0.num) (Bf x0.den) (Bs z0.num) (Bp z0.num) (Bf z0.den) (Bs x1.num) (Bp x1.num) (Bf x1.den) (Bs z1.num) (Bp z1.num) (Bf z1.den) (Bs x2.num) (Bp x2.num) (Bf x2.den) (Bs z2.num) (Bp z2.num) (Bf z2.den))
theorem Hy {c : Nat → Nat} : ∀ {n : Nat}, Br c n = 0 → ∀ k, k < n → c k = 0
 | 0, _, k, hk => absurd hk (by omega)
 | n + 1, h, k, hk => by
  unfold Br at h
  split at h
  ·rename_i hz
   rcases Nat.lt_or_ge k n with q | q
   ·exact Hy hz k q
   ·obtain rfl : k = n := by omega
    exact h
  ·rename_i hz
   exact absurd h hz
theorem Bfk (n0 n1 n2 n3 n4 n5 p0 p1 p2 p3 p4 p5 : Bool) (s0 d0 s1 d1 s2 d2 s3 d3 s4 d4 s5 d5 q0 r0 q1 r1 q2 r2 q3 r3 q4 r4 q5 r5 : ByteArray) (w : World) : Calls Tryz.prog 9 #[(Cp n0 s0 d0 n1 s1 d1 n2 s2 d2 n3 s3 d3 n4 s4 d4 n5 s5 d5), (Cp p0 q0 r0 p1 q1 r1 p2 q2 r2 p3 q3 r3 p4 q4 r4 p5 q5 r5)] w (Re w (Iz (Fp (fun k => He (Cm s0 s1 s2 s3 s4 s5 k) (Cm d0 d1 d2 d3 d4 d5 k)) 6 && Fp (fun k => He (f4 q0 q2 q4 q4 k) (f4 r0 r2 r4 r4 k) && He (f4 q1 q3 q5 q5 k) (f4 r1 r3 r5 r5 k)) 3))) :=
 Bb4 (Cm n0 n1 n2 n3 n4 n5) (f4 p0 p2 p4 p4) (f4 p1 p3 p5 p5) (Cm s0 s1 s2 s3 s4 s5) (Cm d0 d1 d2 d3 d4 d5) (f4 q0 q2 q4 q4) (f4 r0 r2 r4 r4) (f4 q1 q3 q5 q5) (f4 r1 r3 r5 r5) w
theorem Bd1 {r s : Nat → Rat} {K : Nat} (hr : ∀ k, k < 6 → Bq (r k) K) (hs : ∀ k, k < 6 → Bq (s k) K) {k : Nat} (hk : k < 6) : Bd (Ff (zu r 6) (zu s 6) (((um s 6 : Nat) : Int) + ((um s 6 : Nat) : Int)) k) (K * 21 + 21) := by
 unfold Ff
 have hz : ∀ q, q < 6 → Bd (zu s 6 q) (K + (K * 6 + 1)) := fun q hq => Vr hs hq
 have hc : ∀ q, q < 6 → Bd (zu r 6 q) (K * 7 + 5) := fun q hq => (Vr hr hq).mono (by omega)
 have hX := Gz (V := zu s 6) (W := Hl k) 3 (fun q hq => hz q (by omega)) (fun q hq => Qk k hk q hq)
 have hY := Gz (V := fun q => zu s 6 (3 + q)) (W := Hl k) 3 (fun q hq => hz (3 + q) (by omega)) (fun q hq => Qk k hk q hq)
 have ht : Bd ((um s 6 : Nat) : Int) (K * 6 + 1) := Mi hs
 exact (Bfm (A := K * 7 + 5) (B := K * 7 + 5) (hc 0 (by omega)) (hc 1 (by omega)) (hc 2 (by omega)) (hc 3 (by omega)) (hc 4 (by omega)) (hc 5 (by omega)) (hX.mono (by omega)) (hY.mono (by omega)) ((ht.add ht).mono (by omega))).mono (by omega)
theorem Bc3 {r s : Nat → Rat} {K : Nat} (hr : ∀ k, k < 6 → Bq (r k) K) (hs : ∀ k, k < 6 → Bq (s k) K) : Bd (((um r 6 : Nat) : Int) * ((((um s 6 : Nat) : Int) + ((um s 6 : Nat) : Int)) * (((um s 6 : Nat) : Int) + ((um s 6 : Nat) : Int)))) (K * 18 + 5) := by
 have ht : Bd ((um s 6 : Nat) : Int) (K * 6 + 1) := Mi hs
 exact ((Mi hr).mul ((ht.add ht).mul (ht.add ht))).mono (by omega)
theorem Bc2 (r s : Nat → Rat) : ((um r 6 : Nat) : Int) * ((((um s 6 : Nat) : Int) + ((um s 6 : Nat) : Int)) * (((um s 6 : Nat) : Int) + ((um s 6 : Nat) : Int))) ≠ 0 := by
 have h1 := upn r 6
 have h2 := upn s 6
 have h3 : 0 < ((um s 6 : Nat) : Int) + ((um s 6 : Nat) : Int) := by omega
 exact Int.ne_of_gt (Int.mul_pos h1 (Int.mul_pos h3 h3))
theorem Qg {x : Rat} {K : Nat} (h : Bq x K) : Bq (C7 x) K := by
 unfold C7
 exact Nj x.den_pos h.1.abs h.2
theorem Ol (x0 y0 x1 y1 x2 y2 : Rat) {K : Nat} (b0 : Bq x0 K) (b1 : Bq y0 K) (b2 : Bq x1 K) (b3 : Bq y1 K) (b4 : Bq x2 K) (b5 : Bq y2 K) : Bq ((x1 - x0) * (y2 - y0) - (y1 - y0) * (x2 - x0)) (K * 8 + 5) := Ci (Dw (Et (Dw b2 b0) (Dw b5 b1)) (Et (Dw b3 b1) (Dw b4 b0))) (by omega)
def Zj (w : World) : Prop := ∃ tg fr, w.heap[1]? = some (.cells #[.int .i64 2, .int .i64 (-1), .int .i64 (-1), .int .i64 8, .int .i64 4, .int .i64 8, .int .i64 (-1), .int .i64 2, .int .i64 (-1), .int .i64 8, .int .i64 8, .int .i64 4, .int .i64 (-1), .int .i64 (-1), .int .i64 2, .int .i64 4, .int .i64 8, .int .i64 8] tg fr)
theorem Zj.b {w w' : World} (h : Zj w) (b : Below w.heap.size w w') : Zj w' := by
 obtain ⟨t1, f1, h1⟩ := h
 exact ⟨t1, f1, (b.block _ (Wx h1)).trans h1⟩
theorem Bia (r : Nat → Rat) (x0 y0 x1 y1 x2 y2 : Rat) {K : Nat} (hK : K ≤ 100) (hb : ∀ k, k < 6 → Bq (r k) K) (b0 : Bq x0 K) (b1 : Bq y0 K) (b2 : Bq x1 K) (b3 : Bq y1 K) (b4 : Bq x2 K) (b5 : Bq y2 K) (w : World) (hT : Fi w) (hP : Om w) (hQ : Zj w) (hA : ((x1 - x0) * (y2 - y0) - (y1 - y0) * (x2 - x0)) ≠ 0) :
  Calls Tryz.prog 12 #[Qr r, pq x0 y0, pq x1 y1, pq x2 y2] w (Ra w (.tuple #[(Wj (Bs (C7 ((x1 - x0) * (y2 - y0) - (y1 - y0) * (x2 - x0)) * C6 (Eh 0) (Fn r (Cx x0 x1 x2 y0 y1 y2)) * Rat.divInt 1 (120 : Nat)).num) (Bp (C7 ((x1 - x0) * (y2 - y0) - (y1 - y0) * (x2 - x0)) * C6 (Eh 0) (Fn r (Cx x0 x1 x2 y0 y1 y2)) * Rat.divInt 1 (120 : Nat)).num) (Bf (C7 ((x1 - x0) * (y2 - y0) - (y1 - y0) * (x2 - x0)) * C6 (Eh 0) (Fn r (Cx x0 x1 x2 y0 y1 y2)) * Rat.divInt 1 (120 : Nat)).den) (Bs (C7 ((x1 - x0) * (y2 - y0) - (y1 - y0) * (x2 - x0)) * C6 (Eh 1) (Fn r (Cx x0 x1 x2 y0 y1 y2)) * Rat.divInt 1 (120 : Nat)).num) (Bp (C7 ((x1 - x0) * (y2 - y0) - (y1 - y0) * (x2 - x0)) * C6 (Eh 1) (Fn r (Cx x0 x1 x2 y0 y1 y2)) * Rat.divInt 1 (120 : Nat)).num) (Bf (C7 ((x1 - x0) * (y2 - y0) - (y1 - y0) * (x2 - x0)) * C6 (Eh 1) (Fn r (Cx x0 x1 x2 y0 y1 y2)) * Rat.divInt 1 (120 : Nat)).den) (Bs (C7 ((x1 - x0) * (y2 - y0) - (y1 - y0) * (x2 - x0)) * C6 (Eh 2) (Fn r (Cx x0 x1 x2 y0 y1 y2)) * Rat.divInt 1 (120 : Nat)).num) (Bp (C7 ((x1 - x0) * (y2 - y0) - (y1 - y0) * (x2 - x0)) * C6 (Eh 2) (Fn r (Cx x0 x1 x2 y0 y1 y2)) * Rat.divInt 1 (120 : Nat)).num) (Bf (C7 ((x1 - x0) * (y2 - y0) - (y1 - y0) * (x2 - x0)) * C6 (Eh 2) (Fn r (Cx x0 x1 x2 y0 y1 y2)) * Rat.divInt 1 (120 : Nat)).den)), .int .i64 0])) := by
 obtain ⟨tg, fr, ht⟩ := hQ
 have hl := Zi.of hK hb (G6 x0 y0 x1 y1 x2 y2 b0 b1 b2 b3 b4 b5) (Ng x0 y0 x1 y1 x2 y2 hK b0 b1 b2 b3 b4 b5)
 have hw : ∀ k, k < 3 → ∀ j, j < 6 → -100 ≤ Eh k j ∧ Eh k j ≤ 100 := by decide
 exact Bdv _ _ _ _ _ _ _ _ _ _ _ _ _ _ _ _ _ _ _ _ _ _ _ _ _ _ _ _ _ _ _ _ _ _ _ _ (fun k => Bs (C7 ((x1 - x0) * (y2 - y0) - (y1 - y0) * (x2 - x0)) * C6 (Eh k) (Fn r (Cx x0 x1 x2 y0 y1 y2)) * Rat.divInt 1 (120 : Nat)).num) (fun k => Bp (C7 ((x1 - x0) * (y2 - y0) - (y1 - y0) * (x2 - x0)) * C6 (Eh k) (Fn r (Cx x0 x1 x2 y0 y1 y2)) * Rat.divInt 1 (120 : Nat)).num) (fun k => Bf (C7 ((x1 - x0) * (y2 - y0) - (y1 - y0) * (x2 - x0)) * C6 (Eh k) (Fn r (Cx x0 x1 x2 y0 y1 y2)) * Rat.divInt 1 (120 : Nat)).den) w tg fr ht (Zl r (Cx x0 x1 x2 y0 y1 y2) ((x1 - x0) * (y2 - y0) - (y1 - y0) * (x2 - x0))) Zl.b (fun w1 b => Bai r x0 y0 x1 y1 x2 y2 hK hb b0 b1 b2 b3 b4 b5 w1 (hT.b b) (hP.b b) hA) (fun k w1 B g gy c a2 l2 c2 a3 l3 c3 hk b sp kw => Bhk r (Cx x0 x1 x2 y0 y1 y2) ((x1 - x0) * (y2 - y0) - (y1 - y0) * (x2 - x0)) (Eh k) hl (hw k hk) w1 (hT.b b) B g gy c a2 l2 c2 a3 l3 c3 sp kw rfl)
theorem Z8 (n0 n1 n2 n3 n4 n5 p0 p1 p2 p3 p4 p5 : Bool) (s0 d0 s1 d1 s2 d2 s3 d3 s4 d4 s5 d5 q0 r0 q1 r1 q2 r2 q3 r3 q4 r4 q5 r5 : ByteArray) (E : Int) (hE : ¬ E = 0) (w : World)
  (H1 : Hid (∀ w1, Below w.heap.size w w1 → Calls Tryz.prog 33 #[(Cp n0 s0 d0 n1 s1 d1 n2 s2 d2 n3 s3 d3 n4 s4 d4 n5 s5 d5)] w1 (Re w1 (.int .i64 E)))) :
  Calls Tryz.prog 14 #[(Cp n0 s0 d0 n1 s1 d1 n2 s2 d2 n3 s3 d3 n4 s4 d4 n5 s5 d5), (Cp p0 q0 r0 p1 q1 r1 p2 q2 r2 p3 q3 r3 p4 q4 r4 p5 q5 r5)] w (Re w (.int .i64 E)) := by
 go_enter Tryz.func14, Tryz.ntmps14
 go_upto_region 1 with fail
 obtain ⟨w0, hq, kf, kt, bb⟩ := Gx w (Di n0 s0 d0 n1 s1 d1 n2 s2 d2 n3 s3 d3 n4 s4 d4 n5 s5 d5) (Di p0 q0 r0 p1 q1 r1 p2 q2 r2 p3 q3 r3 p4 q4 r4 p5 q5 r5) 28 31
 rw [← hq]
 clear hq
 go_wp2_with (refine Je rfl 28 _ rfl _ rfl 28 _ (0, 0) _ kf Tryz.underlying28 rfl (by kernel_rfl) ?_)
 go_fit (H1.out _ bb)
 rintro e w1 ⟨rfl, b1⟩
 replace kf := kf.b b1
 replace kt := kt.b b1
 replace bb := Ia bb b1
 clear b1
 clear kf
 clear kt
 go_wp2
 go_ret
 exact ⟨rfl, bb⟩
theorem Zz (n0 n1 n2 n3 n4 n5 p0 p1 p2 p3 p4 p5 : Bool) (s0 d0 s1 d1 s2 d2 s3 d3 s4 d4 s5 d5 q0 r0 q1 r1 q2 r2 q3 r3 q4 r4 q5 r5 : ByteArray) (E : Int) (hE : ¬ E = 0) (w : World)
  (H1 : Hid (∀ w1, Below w.heap.size w w1 → Calls Tryz.prog 33 #[(Cp n0 s0 d0 n1 s1 d1 n2 s2 d2 n3 s3 d3 n4 s4 d4 n5 s5 d5)] w1 (Re w1 (.int .i64 0))))
  (H2 : Hid (∀ w1 B, Below w.heap.size w w1 → Be w1 B (Di p0 q0 r0 p1 q1 r1 p2 q2 r2 p3 q3 r3 p4 q4 r4 p5 q5 r5) 30 → Calls Tryz.prog 34 #[.slice (some ⟨B, 0, none⟩) 3 3] w1 (Re w1 (.int .i64 E)))) :
  Calls Tryz.prog 14 #[(Cp n0 s0 d0 n1 s1 d1 n2 s2 d2 n3 s3 d3 n4 s4 d4 n5 s5 d5), (Cp p0 q0 r0 p1 q1 r1 p2 q2 r2 p3 q3 r3 p4 q4 r4 p5 q5 r5)] w (Re w (.int .i64 E)) := by
 go_enter Tryz.func14, Tryz.ntmps14
 go_upto_region 1 with fail
 obtain ⟨w0, hq, kf, kt, bb⟩ := Gx w (Di n0 s0 d0 n1 s1 d1 n2 s2 d2 n3 s3 d3 n4 s4 d4 n5 s5 d5) (Di p0 q0 r0 p1 q1 r1 p2 q2 r2 p3 q3 r3 p4 q4 r4 p5 q5 r5) 28 31
 rw [← hq]
 clear hq
 go_wp2_with (refine Je rfl 28 _ rfl _ rfl 28 _ (0, 0) _ kf Tryz.underlying28 rfl (by kernel_rfl) ?_)
 go_fit (H1.out _ bb)
 rintro e w1 ⟨rfl, b1⟩
 replace kf := kf.b b1
 replace kt := kt.b b1
 replace bb := Ia bb b1
 clear b1
 clear kf
 have x0 := kt.cell 0
 have x1 := kt.cell 1
 have x2 := kt.cell 2
 have x3 := kt.cell 3
 have x4 := kt.cell 4
 have x5 := kt.cell 5
 have x6 := kt.cell 6
 have x7 := kt.cell 7
 have x8 := kt.cell 8
 have x9 := kt.cell 9
 have x10 := kt.cell 10
 have x11 := kt.cell 11
 have x12 := kt.cell 12
 have x13 := kt.cell 13
 have x14 := kt.cell 14
 have x15 := kt.cell 15
 have x16 := kt.cell 16
 have x17 := kt.cell 17
 simp only [Jn, Jm] at x0 x1 x2 x3 x4 x5 x6 x7 x8 x9 x10 x11 x12 x13 x14 x15 x16 x17
 go_wp2_with fail
 clear x0 x1 x2 x3 x4 x5 x6 x7 x8 x9 x10 x11 x12 x13 x14 x15 x16 x17
 obtain ⟨w2, hq, kl, b1⟩ := D7 w1 (Di p0 q0 r0 p1 q1 r1 p2 q2 r2 p3 q3 r3 p4 q4 r4 p5 q5 r5) 30
 rw [← hq]
 clear hq
 replace kt := kt.b b1
 replace bb := Ia bb b1
 clear b1
 go_fit (H2.out _ _ bb kl)
 rintro e w3 ⟨rfl, b1⟩
 clear kl
 replace kt := kt.b b1
 replace bb := Ia bb b1
 clear b1
 clear kt
 go_wp2
 go_ret
 exact ⟨rfl, bb⟩
theorem Zy (n0 n1 n2 n3 n4 n5 p0 p1 p2 p3 p4 p5 : Bool) (s0 d0 s1 d1 s2 d2 s3 d3 s4 d4 s5 d5 q0 r0 q1 r1 q2 r2 q3 r3 q4 r4 q5 r5 : ByteArray) (w : World)
  (H1 : Hid (∀ w1, Below w.heap.size w w1 → Calls Tryz.prog 33 #[(Cp n0 s0 d0 n1 s1 d1 n2 s2 d2 n3 s3 d3 n4 s4 d4 n5 s5 d5)] w1 (Re w1 (.int .i64 0))))
  (H2 : Hid (∀ w1 B, Below w.heap.size w w1 → Be w1 B (Di p0 q0 r0 p1 q1 r1 p2 q2 r2 p3 q3 r3 p4 q4 r4 p5 q5 r5) 30 → Calls Tryz.prog 34 #[.slice (some ⟨B, 0, none⟩) 3 3] w1 (Re w1 (.int .i64 0))))
  (H3 : Hid (∀ w1, Below w.heap.size w w1 → Calls Tryz.prog 35 #[(B4 p0 q0 r0 p1 q1 r1), (B4 p2 q2 r2 p3 q3 r3), (B4 p4 q4 r4 p5 q5 r5)] w1 (Re w1 (.int .i64 0)))) :
  Calls Tryz.prog 14 #[(Cp n0 s0 d0 n1 s1 d1 n2 s2 d2 n3 s3 d3 n4 s4 d4 n5 s5 d5), (Cp p0 q0 r0 p1 q1 r1 p2 q2 r2 p3 q3 r3 p4 q4 r4 p5 q5 r5)] w (Re w (.int .i64 6)) := by
 go_enter Tryz.func14, Tryz.ntmps14
 go_upto_region 1 with fail
 obtain ⟨w0, hq, kf, kt, bb⟩ := Gx w (Di n0 s0 d0 n1 s1 d1 n2 s2 d2 n3 s3 d3 n4 s4 d4 n5 s5 d5) (Di p0 q0 r0 p1 q1 r1 p2 q2 r2 p3 q3 r3 p4 q4 r4 p5 q5 r5) 28 31
 rw [← hq]
 clear hq
 go_wp2_with (refine Je rfl 28 _ rfl _ rfl 28 _ (0, 0) _ kf Tryz.underlying28 rfl (by kernel_rfl) ?_)
 go_fit (H1.out _ bb)
 rintro e w1 ⟨rfl, b1⟩
 replace kf := kf.b b1
 replace kt := kt.b b1
 replace bb := Ia bb b1
 clear b1
 clear kf
 have x0 := kt.cell 0
 have x1 := kt.cell 1
 have x2 := kt.cell 2
 have x3 := kt.cell 3
 have x4 := kt.cell 4
 have x5 := kt.cell 5
 have x6 := kt.cell 6
 have x7 := kt.cell 7
 have x8 := kt.cell 8
 have x9 := kt.cell 9
 have x10 := kt.cell 10
 have x11 := kt.cell 11
 have x12 := kt.cell 12
 have x13 := kt.cell 13
 have x14 := kt.cell 14
 have x15 := kt.cell 15
 have x16 := kt.cell 16
 have x17 := kt.cell 17
 simp only [Jn, Jm] at x0 x1 x2 x3 x4 x5 x6 x7 x8 x9 x10 x11 x12 x13 x14 x15 x16 x17
 go_wp2_with fail
 clear x0 x1 x2 x3 x4 x5 x6 x7 x8 x9 x10 x11 x12 x13 x14 x15 x16 x17
 obtain ⟨w2, hq, kl, b1⟩ := D7 w1 (Di p0 q0 r0 p1 q1 r1 p2 q2 r2 p3 q3 r3 p4 q4 r4 p5 q5 r5) 30
 rw [← hq]
 clear hq
 replace kt := kt.b b1
 replace bb := Ia bb b1
 clear b1
 go_fit (H2.out _ _ bb kl)
 rintro e w3 ⟨rfl, b1⟩
 clear kl
 replace kt := kt.b b1
 replace bb := Ia bb b1
 clear b1
 have x0 := kt.cell 0
 have x1 := kt.cell 1
 have x2 := kt.cell 2
 have x3 := kt.cell 3
 have x4 := kt.cell 4
 have x5 := kt.cell 5
 have x6 := kt.cell 6
 have x7 := kt.cell 7
 have x8 := kt.cell 8
 have x9 := kt.cell 9
 have x10 := kt.cell 10
 have x11 := kt.cell 11
 have x12 := kt.cell 12
 have x13 := kt.cell 13
 have x14 := kt.cell 14
 have x15 := kt.cell 15
 have x16 := kt.cell 16
 have x17 := kt.cell 17
 simp only [Jn, Jm] at x0 x1 x2 x3 x4 x5 x6 x7 x8 x9 x10 x11 x12 x13 x14 x15 x16 x17
 go_wp2_with fail
 clear x0 x1 x2 x3 x4 x5 x6 x7 x8 x9 x10 x11 x12 x13 x14 x15 x16 x17
 clear kt
 go_fit (H3.out _ bb)
 rintro e w4 ⟨rfl, b1⟩
 replace bb := Ia bb b1
 clear b1
 go_wp2
 go_ret
 exact ⟨rfl, bb⟩
theorem Zx (n0 n1 n2 n3 n4 n5 p0 p1 p2 p3 p4 p5 : Bool) (s0 d0 s1 d1 s2 d2 s3 d3 s4 d4 s5 d5 q0 r0 q1 r1 q2 r2 q3 r3 q4 r4 q5 r5 : ByteArray) (E : Int) (hE : ¬ E = 0) (w : World)
  (H1 : Hid (∀ w1, Below w.heap.size w w1 → Calls Tryz.prog 33 #[(Cp n0 s0 d0 n1 s1 d1 n2 s2 d2 n3 s3 d3 n4 s4 d4 n5 s5 d5)] w1 (Re w1 (.int .i64 0))))
  (H2 : Hid (∀ w1 B, Below w.heap.size w w1 → Be w1 B (Di p0 q0 r0 p1 q1 r1 p2 q2 r2 p3 q3 r3 p4 q4 r4 p5 q5 r5) 30 → Calls Tryz.prog 34 #[.slice (some ⟨B, 0, none⟩) 3 3] w1 (Re w1 (.int .i64 0))))
  (H3 : Hid (∀ w1, Below w.heap.size w w1 → Calls Tryz.prog 35 #[(B4 p0 q0 r0 p1 q1 r1), (B4 p2 q2 r2 p3 q3 r3), (B4 p4 q4 r4 p5 q5 r5)] w1 (Re w1 (.int .i64 E)))) :
  Calls Tryz.prog 14 #[(Cp n0 s0 d0 n1 s1 d1 n2 s2 d2 n3 s3 d3 n4 s4 d4 n5 s5 d5), (Cp p0 q0 r0 p1 q1 r1 p2 q2 r2 p3 q3 r3 p4 q4 r4 p5 q5 r5)] w (Re w (.int .i64 0)) := by
 go_enter Tryz.func14, Tryz.ntmps14
 go_upto_region 1 with fail
 obtain ⟨w0, hq, kf, kt, bb⟩ := Gx w (Di n0 s0 d0 n1 s1 d1 n2 s2 d2 n3 s3 d3 n4 s4 d4 n5 s5 d5) (Di p0 q0 r0 p1 q1 r1 p2 q2 r2 p3 q3 r3 p4 q4 r4 p5 q5 r5) 28 31
 rw [← hq]
 clear hq
 go_wp2_with (refine Je rfl 28 _ rfl _ rfl 28 _ (0, 0) _ kf Tryz.underlying28 rfl (by kernel_rfl) ?_)
 go_fit (H1.out _ bb)
 rintro e w1 ⟨rfl, b1⟩
 replace kf := kf.b b1
 replace kt := kt.b b1
 replace bb := Ia bb b1
 clear b1
 clear kf
 have x0 := kt.cell 0
 have x1 := kt.cell 1
 have x2 := kt.cell 2
 have x3 := kt.cell 3
 have x4 := kt.cell 4
 have x5 := kt.cell 5
 have x6 := kt.cell 6
 have x7 := kt.cell 7
 have x8 := kt.cell 8
 have x9 := kt.cell 9
 have x10 := kt.cell 10
 have x11 := kt.cell 11
 have x12 := kt.cell 12
 have x13 := kt.cell 13
 have x14 := kt.cell 14
 have x15 := kt.cell 15
 have x16 := kt.cell 16
 have x17 := kt.cell 17
 simp only [Jn, Jm] at x0 x1 x2 x3 x4 x5 x6 x7 x8 x9 x10 x11 x12 x13 x14 x15 x16 x17
 go_wp2_with fail
 clear x0 x1 x2 x3 x4 x5 x6 x7 x8 x9 x10 x11 x12 x13 x14 x15 x16 x17
 obtain ⟨w2, hq, kl, b1⟩ := D7 w1 (Di p0 q0 r0 p1 q1 r1 p2 q2 r2 p3 q3 r3 p4 q4 r4 p5 q5 r5) 30
 rw [← hq]
 clear hq
 replace kt := kt.b b1
 replace bb := Ia bb b1
 clear b1
 go_fit (H2.out _ _ bb kl)
 rintro e w3 ⟨rfl, b1⟩
 clear kl
 replace kt := kt.b b1
 replace bb := Ia bb b1
 clear b1
 have x0 := kt.cell 0
 have x1 := kt.cell 1
 have x2 := kt.cell 2
 have x3 := kt.cell 3
 have x4 := kt.cell 4
 have x5 := kt.cell 5
 have x6 := kt.cell 6
 have x7 := kt.cell 7
 have x8 := kt.cell 8
 have x9 := kt.cell 9
 have x10 := kt.cell 10
 have x11 := kt.cell 11
 have x12 := kt.cell 12
 have x13 := kt.cell 13
 have x14 := kt.cell 14
 have x15 := kt.cell 15
 have x16 := kt.cell 16
 have x17 := kt.cell 17
 simp only [Jn, Jm] at x0 x1 x2 x3 x4 x5 x6 x7 x8 x9 x10 x11 x12 x13 x14 x15 x16 x17
 go_wp2_with fail
 clear x0 x1 x2 x3 x4 x5 x6 x7 x8 x9 x10 x11 x12 x13 x14 x15 x16 x17
 clear kt
 go_fit (H3.out _ bb)
 rintro e w4 ⟨rfl, b1⟩
 replace bb := Ia bb b1
 clear b1
 go_wp2
 go_ret
 exact ⟨rfl, bb⟩
def upd (L : List Value) : Nat → List Value → List Value
 | _, [] => L
 | o, v :: r => upd (L.set o v) (o + 1) r
theorem Be.midS {w : World} {g : Nat} {L : List Value} {t : TypeId} (h : Be w g L t) (o : Nat) (vs : List Value) : Be (w.setCells g o vs) g (upd L o vs) t := by
 induction vs generalizing w L o with
 | nil => exact h
 | cons v r ih => exact ih (h.set o v) (o + 1)
theorem Be.midO {w : World} {g g' : Nat} {L : List Value} {t : TypeId} (h : Be w g L t) (hne : g ≠ g') (o : Nat) (vs : List Value) : Be (w.setCells g' o vs) g L t := by
 induction vs generalizing w o with
 | nil => exact h
 | cons v r ih => exact ih (h.w hne o v) (o + 1)
theorem Ls {N : Nat} {w wn : World} {g : Nat} (b : Below N w wn) (h : N ≤ g) (o : Nat) (vs : List Value) : Below N w (wn.setCells g o vs) := by
 induction vs generalizing wn o with
 | nil => exact b
 | cons v r ih => exact ih (b.setCell h v) (o + 1)
theorem Be.there {w : World} {g : Nat} {L : List Value} {t : TypeId} (h : Be w g L t) (o n : Nat) (hl : o + n ≤ L.length) : w.there g o n := fun j hj => by
 refine ⟨?_, h.o _⟩
 rw [h.cell (o + j), List.getElem?_eq_getElem (by omega)]
 rfl
theorem Ba4 (x : Rat) : C7 (-x) = C7 x := by
 unfold C7
 rw [Rat.neg_num, Rat.neg_den, Int.natAbs_neg]
theorem Bh2 (r : Nat → Rat) (x0 y0 x1 y1 x2 y2 : Rat) : Fn r (Cx x0 x1 x2 y0 y1 y2) 0 = ev r x0 y0 ∧ Fn r (Cx x0 x1 x2 y0 y1 y2) 1 = ev r x1 y1 ∧ Fn r (Cx x0 x1 x2 y0 y1 y2) 2 = ev r x2 y2 ∧ Fn r (Cx x0 x1 x2 y0 y1 y2) 3 = ev r ((x0 + x1) * Rat.divInt 1 2) ((y0 + y1) * Rat.divInt 1 2) ∧ Fn r (Cx x0 x1 x2 y0 y1 y2) 4 = ev r ((x1 + x2) * Rat.divInt 1 2) ((y1 + y2) * Rat.divInt 1 2) ∧ Fn r (Cx x0 x1 x2 y0 y1 y2) 5 = ev r ((x0 + x2) * Rat.divInt 1 2) ((y0 + y2) * Rat.divInt 1 2) := by
 have hh := Wy
 unfold Fn nx ny
 simp only [Cx, Hl, ndT, List.getD_cons_zero, List.getD_cons_succ]
 generalize Rat.divInt 1 2 = h at *
 refine ⟨?_, ?_, ?_, ?_, ?_, ?_⟩ <;> congr 1 <;> grind
theorem Uy (n10 n11 n12 n13 n14 n15 n16 n17 n18 n19 n30 n31 n32 n33 n34 n35 n40 n41 n42 n43 n44 n45 : Bool) (s10 d10 s11 d11 s12 d12 s13 d13 s14 d14 s15 d15 s16 d16 s17 d17 s18 d18 s19 d19 s30 d30 s31 d31 s32 d32 s33 d33 s34 d34 s35 d35 s40 d40 s41 d41 s42 d42 s43 d43 s44 d44 s45 d45 : ByteArray) (xN yN : Bool) (xS xD yS yD : ByteArray) (w : World)
  (A00 : Hid (∀ w1, Calls Tryz.prog 28 #[.int .i64 0, .int .i64 0] w1 (Re w1 ((B4 n10 s10 d10 n11 s11 d11)))))
  (A20 : Hid (∀ w1, Calls Tryz.prog 28 #[.int .i64 2, .int .i64 0] w1 (Re w1 ((B4 n12 s12 d12 n13 s13 d13)))))
  (A02 : Hid (∀ w1, Calls Tryz.prog 28 #[.int .i64 0, .int .i64 2] w1 (Re w1 ((B4 n14 s14 d14 n15 s15 d15)))))
  (A10 : Hid (∀ w1, Calls Tryz.prog 28 #[.int .i64 1, .int .i64 0] w1 (Re w1 ((B4 n16 s16 d16 n17 s17 d17)))))
  (A01 : Hid (∀ w1, Calls Tryz.prog 28 #[.int .i64 0, .int .i64 1] w1 (Re w1 ((B4 n18 s18 d18 n19 s19 d19)))))
  (S1 : Hid (∀ w1, Calls Tryz.prog 27 #[.agg #[.int .i64 0, .int .i64 1, .int .i64 0, .int .i64 0, .int .i64 0, .int .i64 0]] w1 (Re w1 ((Cp n30 s30 d30 n31 s31 d31 n32 s32 d32 n33 s33 d33 n34 s34 d34 n35 s35 d35)))))
  (S2 : Hid (∀ w1, Calls Tryz.prog 27 #[.agg #[.int .i64 1, .int .i64 0, .int .i64 0, .int .i64 0, .int .i64 0, .int .i64 0]] w1 (Re w1 ((Cp n40 s40 d40 n41 s41 d41 n42 s42 d42 n43 s43 d43 n44 s44 d44 n45 s45 d45)))))
  (F1 : Hid (∀ w1, Calls Tryz.prog 29 #[.int .i64 4, .int .i64 3] w1 (Re w1 ((Bo xN xS xD)))))
  (F2 : Hid (∀ w1, Calls Tryz.prog 29 #[.int .i64 1, .int .i64 12] w1 (Re w1 ((Bo yN yS yD)))))
  (C1 : Hid (∀ w1, Below w.heap.size w w1 → Calls Tryz.prog 11 #[(Cp n30 s30 d30 n31 s31 d31 n32 s32 d32 n33 s33 d33 n34 s34 d34 n35 s35 d35), (B4 n10 s10 d10 n11 s11 d11), (B4 n12 s12 d12 n13 s13 d13), (B4 n14 s14 d14 n15 s15 d15)] w1 (Re w1 (.tuple #[(Bo xN xS xD), .int .i64 0]))))
  (C2 : Hid (∀ w1, Below w.heap.size w w1 → Calls Tryz.prog 13 #[(Cp n30 s30 d30 n31 s31 d31 n32 s32 d32 n33 s33 d33 n34 s34 d34 n35 s35 d35), (B4 n10 s10 d10 n11 s11 d11), (B4 n16 s16 d16 n17 s17 d17), (B4 n18 s18 d18 n19 s19 d19)] w1 (Re w1 (.tuple #[(Bo yN yS yD), .int .i64 0]))))
  (C3 : Hid (∀ w1, Below w.heap.size w w1 → Calls Tryz.prog 12 #[(Cp n40 s40 d40 n41 s41 d41 n42 s42 d42 n43 s43 d43 n44 s44 d44 n45 s45 d45), (B4 n10 s10 d10 n11 s11 d11), (B4 n16 s16 d16 n17 s17 d17), (B4 n12 s12 d12 n13 s13 d13)] w1 (Re w1 (.tuple #[(Wj false eB eB false eB eB false eB eB), .int .i64 6])))) :
  Calls Tryz.prog 10 #[] w (Re w (Iz true)) := by
 go_enter Tryz.func10, Tryz.ntmps10
 have bb := Jg w.heap.size w
 go_wp2_with fail
 go_fit (S1.out _)
 rintro e w1 ⟨rfl, b1⟩
 replace bb := Ia bb b1
 clear b1
 go_wp2_with fail
 go_fit (A00.out _)
 rintro e w2 ⟨rfl, b1⟩
 replace bb := Ia bb b1
 clear b1
 go_wp2_with fail
 go_fit (A20.out _)
 rintro e w3 ⟨rfl, b1⟩
 replace bb := Ia bb b1
 clear b1
 go_wp2_with fail
 go_fit (A02.out _)
 rintro e w4 ⟨rfl, b1⟩
 replace bb := Ia bb b1
 clear b1
 go_wp2_with fail
 go_fit (C1.out _ bb)
 rintro e w5 ⟨rfl, b1⟩
 replace bb := Ia bb b1
 clear b1
 go_wp2_with fail
 obtain ⟨x5, hw, kc, b1⟩ := D7 w5 (Bx xN xS xD) 26
 rw [← hw]
 clear hw
 replace bb := Ia bb b1
 clear b1
 go_wp2_with fail
 go_fit (S1.out _)
 rintro e w6 ⟨rfl, b1⟩
 replace kc := kc.b b1
 replace bb := Ia bb b1
 clear b1
 go_wp2_with fail
 go_fit (A00.out _)
 rintro e w7 ⟨rfl, b1⟩
 replace kc := kc.b b1
 replace bb := Ia bb b1
 clear b1
 go_wp2_with fail
 go_fit (A10.out _)
 rintro e w8 ⟨rfl, b1⟩
 replace kc := kc.b b1
 replace bb := Ia bb b1
 clear b1
 go_wp2_with fail
 go_fit (A01.out _)
 rintro e w9 ⟨rfl, b1⟩
 replace kc := kc.b b1
 replace bb := Ia bb b1
 clear b1
 go_wp2_with fail
 go_fit (C2.out _ bb)
 rintro e w10 ⟨rfl, b1⟩
 replace kc := kc.b b1
 replace bb := Ia bb b1
 clear b1
 go_wp2_with fail
 obtain ⟨x10, hw, kn, b1⟩ := D7 w10 (Bx yN yS yD) 26
 rw [← hw]
 clear hw
 replace kc := kc.b b1
 replace bb := Ia bb b1
 clear b1
 go_wp2_with fail
 go_fit (S2.out _)
 rintro e w11 ⟨rfl, b1⟩
 replace kc := kc.b b1
 replace kn := kn.b b1
 replace bb := Ia bb b1
 clear b1
 go_wp2_with fail
 go_fit (A00.out _)
 rintro e w12 ⟨rfl, b1⟩
 replace kc := kc.b b1
 replace kn := kn.b b1
 replace bb := Ia bb b1
 clear b1
 go_wp2_with fail
 go_fit (A10.out _)
 rintro e w13 ⟨rfl, b1⟩
 replace kc := kc.b b1
 replace kn := kn.b b1
 replace bb := Ia bb b1
 clear b1
 go_wp2_with fail
 go_fit (A20.out _)
 rintro e w14 ⟨rfl, b1⟩
 replace kc := kc.b b1
 replace kn := kn.b b1
 replace bb := Ia bb b1
 clear b1
 go_wp2_with fail
 go_fit (C3.out _ bb)
 rintro e w15 ⟨rfl, b1⟩
 replace kc := kc.b b1
 replace kn := kn.b b1
 replace bb := Ia bb b1
 clear b1
 go_wp2_with fail
 obtain ⟨x15, hw, kz, b1⟩ := D7 w15 (Oz false eB eB false eB eB false eB eB) 37
 rw [← hw]
 clear hw
 replace kc := kc.b b1
 replace kn := kn.b b1
 replace bb := Ia bb b1
 clear b1
 clear kz
 have bd := Cd x15
 replace kc := kc.b bd
 replace kn := kn.b bd
 replace bb := Ia bb bd
 clear bd
 refine Jc (S := fun w' => Gy w' w5.heap.size (Iz xN) (I xS) (I xD) ∧ Gy w' w10.heap.size (Iz yN) (I yS) (I yD)) (by kernel_rfl) ⟨Ch kc, Ch kn⟩ (fun hS => ?_)
 refine WA.start (n := 21) (by kernel_rfl) ?_
 refine WA.tp 0 rfl ?_
 refine WA.cal 1 rfl (fun K hK => ?_)
 simp only [Jq]
 go_simp
 go_fit (F1.out _)
 rintro e wn ⟨rfl, bn⟩
 replace kc := kc.b bn
 replace kn := kn.b bn
 replace bb := Ia bb bn
 try go_wp2_with fail
 clear hS
 refine hK.out _ _ ⟨Ch kc, Ch kn⟩ (fun hS => ?_)
 clear hK K bn
 refine WA.tp 2 rfl ?_
 refine WA.tp 3 rfl ?_
 refine WA.tp 4 rfl ?_
 refine WA.tp 5 rfl ?_
 refine WA.tp 6 rfl ?_
 refine WA.tp 7 rfl ?_
 refine WA.tp 8 rfl ?_
 refine WA.cal 9 rfl (fun K hK => ?_)
 simp only [Jq]
 go_simp
 go_fit (F2.out _)
 rintro e wn ⟨rfl, bn⟩
 replace kc := kc.b bn
 replace kn := kn.b bn
 replace bb := Ia bb bn
 try go_wp2_with fail
 clear hS
 refine hK.out _ _ ⟨Ch kc, Ch kn⟩ (fun hS => ?_)
 clear hK K bn
 refine WA.tp 10 rfl ?_
 refine WA.tp 11 rfl ?_
 refine WA.tp 12 rfl ?_
 refine WA.tp 13 rfl ?_
 refine WA.tp 14 rfl ?_
 refine WA.tp 15 rfl ?_
 refine WA.tp 16 rfl ?_
 refine WA.tp 17 rfl ?_
 refine WA.tp 18 rfl ?_
 refine WA.tp 19 rfl ?_
 refine WA.tp 20 rfl ?_
 refine WA.done (by kernel_rfl) ?_
 clear hS
 go_wp2
 go_ret
 exact ⟨rfl, bb⟩
theorem Qq (l : Nat → Int) : Qr (fun k => ((l k : Int) : Rat)) = (Cp (Bs (l 0)) (Bp (l 0)) ⟨#[1]⟩ (Bs (l 1)) (Bp (l 1)) ⟨#[1]⟩ (Bs (l 2)) (Bp (l 2)) ⟨#[1]⟩ (Bs (l 3)) (Bp (l 3)) ⟨#[1]⟩ (Bs (l 4)) (Bp (l 4)) ⟨#[1]⟩ (Bs (l 5)) (Bp (l 5)) ⟨#[1]⟩) := by
 have e : Bf 1 = ⟨#[1]⟩ := by decide +kernel
 simp only [Qr, Rat.num_intCast, Rat.den_intCast, e]
def l1 (k : Nat) : Int := match k with | 1 => 1 | _ => 0
def l2 (k : Nat) : Int := match k with | 0 => 1 | _ => 0
theorem Bfl : ∀ k, k < 6 → Bq ((l1 k : Int) : Rat) 1 := fun k _ => Dm _ (by unfold l1; split <;> omega) (by unfold l1; split <;> omega)
theorem Bh0 : ∀ k, k < 6 → Bq ((l2 k : Int) : Rat) 1 := fun k _ => Dm _ (by unfold l2; split <;> omega) (by unfold l2; split <;> omega)
theorem U6 (N M : Int) (h1 : 0 < M) (h2 : M ≤ 1000) (h3 : 0 ≤ N) (h4 : N ≤ 1000) (w : World) : Calls Tryz.prog 29 #[.int .i64 N, .int .i64 M] w (Re w (rq (Rat.divInt N M))) := by
 have bb : ∀ z : Int, 0 ≤ z → z ≤ 1000 → Bd z 2 := fun z a b => by unfold Bd; omega
 refine Oe N M (Bs N) (Bs M) (Bp N) (Bp M) _ _ _ w (fun w1 _ => Lg N (by omega) (by omega) w1) (fun w1 _ => Lg M (by omega) (by omega) w1) (fun w1 _ => ?_)
 have := M7 (Bs N) (Bs M) (Bp N) (Bp M) w1 (Mc N) (Mc M) (Jf (Oj (bb N h3 (by omega))) (by omega)) (Jf (Oj (bb M (by omega) h2)) (by omega)) (by rw [Db]; omega)
 rw [L5, L5] at this
 exact this
theorem Yp (w : World) (hT : Fi w) (hP : Om w) : Calls Tryz.prog 10 #[] w (Re w (Iz true)) := by
 refine Uy (Bs 0) (Bs 0) (Bs 2) (Bs 0) (Bs 0) (Bs 2) (Bs 1) (Bs 0) (Bs 0) (Bs 1) (Bs (l1 0)) (Bs (l1 1)) (Bs (l1 2)) (Bs (l1 3)) (Bs (l1 4)) (Bs (l1 5)) (Bs (l2 0)) (Bs (l2 1)) (Bs (l2 2)) (Bs (l2 3)) (Bs (l2 4)) (Bs (l2 5)) (Bp 0) ⟨#[1]⟩ (Bp 0) ⟨#[1]⟩ (Bp 2) ⟨#[1]⟩ (Bp 0) ⟨#[1]⟩ (Bp 0) ⟨#[1]⟩ (Bp 2) ⟨#[1]⟩ (Bp 1) ⟨#[1]⟩ (Bp 0) ⟨#[1]⟩ (Bp 0) ⟨#[1]⟩ (Bp 1) ⟨#[1]⟩ (Bp (l1 0)) ⟨#[1]⟩ (Bp (l1 1)) ⟨#[1]⟩ (Bp (l1 2)) ⟨#[1]⟩ (Bp (l1 3)) ⟨#[1]⟩ (Bp (l1 4)) ⟨#[1]⟩ (Bp (l1 5)) ⟨#[1]⟩ (Bp (l2 0)) ⟨#[1]⟩ (Bp (l2 1)) ⟨#[1]⟩ (Bp (l2 2)) ⟨#[1]⟩ (Bp (l2 3)) ⟨#[1]⟩ (Bp (l2 4)) ⟨#[1]⟩ (Bp (l2 5)) ⟨#[1]⟩ (Bs (Rat.divInt 4 3).num) (Bs (Rat.divInt 1 12).num) (Bp (Rat.divInt 4 3).num) (Bf (Rat.divInt 4 3).den) (Bp (Rat.divInt 1 12).num) (Bf (Rat.divInt 1 12).den) w ?_ ?_ ?_ ?_ ?_ ?_ ?_ ?_ ?_ ?_ ?_ ?_
 ·exact fun w1 => Hx 0 0 (by omega) (by omega) (by omega) (by omega) w1
 ·exact fun w1 => Hx 2 0 (by omega) (by omega) (by omega) (by omega) w1
 ·exact fun w1 => Hx 0 2 (by omega) (by omega) (by omega) (by omega) w1
 ·exact fun w1 => Hx 1 0 (by omega) (by omega) (by omega) (by omega) w1
 ·exact fun w1 => Hx 0 1 (by omega) (by omega) (by omega) (by omega) w1
 ·exact fun w1 => Mj l1 w1 (fun k w2 hk => Kd _ (by unfold l1; split <;> omega) (by unfold l1; split <;> omega) w2)
 ·exact fun w1 => Mj l2 w1 (fun k w2 hk => Kd _ (by unfold l2; split <;> omega) (by unfold l2; split <;> omega) w2)
 ·exact fun w1 => U6 4 3 (by omega) (by omega) (by omega) (by omega) w1
 ·exact fun w1 => U6 1 12 (by omega) (by omega) (by omega) (by omega) w1
 ·intro w1 b
  have := Bhl (fun k => ((l1 k : Int) : Rat)) ((0 : Int) : Rat) ((0 : Int) : Rat) ((2 : Int) : Rat) ((0 : Int) : Rat) ((0 : Int) : Rat) ((2 : Int) : Rat) (by omega : 1 ≤ 100) (Bfl) (Dm 0 (by omega) (by omega)) (Dm 0 (by omega) (by omega)) (Dm 2 (by omega) (by omega)) (Dm 0 (by omega) (by omega)) (Dm 0 (by omega) (by omega)) (Dm 2 (by omega) (by omega)) w1 (hT.b b) (hP.b b) (by decide +kernel) (x := (Rat.divInt 4 3)) (by decide +kernel)
  simp only [Uk, Qq] at this
  exact this
 ·intro w1 b
  have := Bg6 (fun k => ((l1 k : Int) : Rat)) ((0 : Int) : Rat) ((0 : Int) : Rat) ((1 : Int) : Rat) ((0 : Int) : Rat) ((0 : Int) : Rat) ((1 : Int) : Rat) (by omega : 1 ≤ 100) (Bfl) (Dm 0 (by omega) (by omega)) (Dm 0 (by omega) (by omega)) (Dm 1 (by omega) (by omega)) (Dm 0 (by omega) (by omega)) (Dm 0 (by omega) (by omega)) (Dm 1 (by omega) (by omega)) w1 (hT.b b) (hP.b b) (by decide +kernel) (x := (Rat.divInt 1 12)) (by decide +kernel)
  simp only [Uk, Qq] at this
  exact this
 ·intro w1 b
  have := St (fun k => ((l2 k : Int) : Rat)) ((0 : Int) : Rat) ((0 : Int) : Rat) ((1 : Int) : Rat) ((0 : Int) : Rat) ((2 : Int) : Rat) ((0 : Int) : Rat) (by omega : 1 ≤ 100) (Bh0) (Dm 0 (by omega) (by omega)) (Dm 0 (by omega) (by omega)) (Dm 1 (by omega) (by omega)) (Dm 0 (by omega) (by omega)) (Dm 2 (by omega) (by omega)) (Dm 0 (by omega) (by omega)) w1 (hT.b b) (by decide +kernel)
  simp only [Uk, Qq] at this
  exact this
theorem hw : ∀ k, k < 3 → ∀ j, j < 6 → -100 ≤ Eh k j ∧ Eh k j ≤ 100 := by decide
theorem Wf {x : Rat} (h : 0 ≤ x) : C7 x = x := by
 unfold C7
 rw [Int.natAbs_of_nonneg (Rat.num_nonneg.2 h)]
 exact Rat.mkRat_self x
theorem L8 {s d : ByteArray} (h : He s d = true) : s.size ≤ 30 ∧ d.size ≤ 30 := by
 unfold He at h
 exact of_decide_eq_true h
theorem Be.rg {w : World} {g : Nat} {L : List Value} {t : TypeId} (h : Be w g L t) (o : Nat) (cs post : List Value) (e : L.drop o = cs ++ post) : w.rangeAt g o cs := fun j v hv => by
 rw [h.cell (o + j), ← List.getElem?_drop, e, List.getElem?_append_left (List.getElem?_eq_some_iff.1 hv).1]
 exact hv
theorem Be.rowO {w : World} {g g' : Nat} {cs : List Value} {t : TypeId} (h : Be w g cs t) (hne : g ≠ g') (c : Array Value) : Be (w.setRow g' c) g cs t := by
 unfold Be at h ⊢
 rw [setRow_other w g' g c (fun e => hne (by omega))]
 exact h
def q6 (a b c d e f : Rat) : Rat := a * (6*a - b - c - 4*e) + b * (-a + 6*b - c - 4*f) + c * (-a - b + 6*c - 4*d) + d * (-4*c + 32*d+16*e+16*f) + e * (-4*a+16*d+32*e+16*f) + f * (-4*b+16*d+16*e+32*f)
def in6 (d e f : Rat) : Rat := 20*d+20*e+20*f
def b6 (F0 F1 F2 F3 F4 F5 a b c : Rat) : Rat := a * (2 * a - 1) * F0 + b * (2 * b - 1) * F1 + c * (2 * c - 1) * F2 + 4 * (a * b) * F3 + 4 * (b * c) * F4 + 4 * (a * c) * F5
theorem Bhd (F : Nat → Rat) : qs F = q6 (F 0) (F 1) (F 2) (F 3) (F 4) (F 5) := by
 unfold qs C6 q6
 simp [Fz, sqT]
 grind
theorem Bgu (F : Nat → Rat) : C6 Yu F = in6 (F 3) (F 4) (F 5) := by
 unfold C6 in6
 simp [Yu, inT]
 grind
end Go.Proofs.YtnplifkgeeicjaaGreatDoor
