/-
  gussetref07: Eval.
  gussetref07: Eval, in its one form.
  gussetlaw07: live.
  Package poly: sampleOf, Integral, Square, Loads of any numbers.
  gussetlaw07: live is true.
  gussetlaw07: PolyValues holds.
-/
import Derived.Test.YtphpoknionnnfaaGreatDoorL44
import Derived.Test.YtphpoknionnnfaaGreatDoorL51
import Derived.Test.YtphpoknionnnfaaGreatDoorL52
set_option maxRecDepth 100000
set_option maxHeartbeats 16000000
namespace Go.Proofs.YtphpoknionnnfaaGreatDoor
open Go.RowKit
theorem cell_oth3 {w : World} {d g i a b c : Nat} {u : Value} (h : w.cell? ⟨d, i, none⟩ = some u) (hne : ¬ d = g) (x y z : Value) : (((w.setCell ⟨g, a, none⟩ x).setCell ⟨g, b, none⟩ y).setCell ⟨g, c, none⟩ z).cell? ⟨d, i, none⟩ = some u := by
 rw [World.cell?_setCell_other _ _ _ _ (fun e => hne (by injection e with e; exact e.symm)), World.cell?_setCell_other _ _ _ _ (fun e => hne (by injection e with e; exact e.symm)), World.cell?_setCell_other _ _ _ _ (fun e => hne (by injection e with e; exact e.symm))]
 exact h
theorem reval_walk (N M' A : Nat → Bool) (S D T E B C : Nat → ByteArray) (p0 p1 : Bool) (q0 r0 q1 r1 : ByteArray) (w : World)
  (hM : M' 1 = p0 ∧ T 1 = q0 ∧ E 1 = r0 ∧ M' 2 = p1 ∧ T 2 = q1 ∧ E 2 = r1)
  (H1 : Hid (∀ w1, Calls Tryz.prog 23 #[.int .i64 1] w1 (Re w1 (.agg #[.bool (M' 0), .string (T 0), .string (E 0)]))))
  (H2 : Hid (∀ w1, Calls Tryz.prog 39 #[.agg #[.bool p0, .string q0, .string r0]] w1 (Re w1 (.agg #[.bool (M' 3), .string (T 3), .string (E 3)]))))
  (H3 : Hid (∀ w1, Calls Tryz.prog 40 #[.agg #[.bool p0, .string q0, .string r0], .agg #[.bool p1, .string q1, .string r1]] w1 (Re w1 (.agg #[.bool (M' 4), .string (T 4), .string (E 4)]))))
  (H4 : Hid (∀ w1, Calls Tryz.prog 39 #[.agg #[.bool p1, .string q1, .string r1]] w1 (Re w1 (.agg #[.bool (M' 5), .string (T 5), .string (E 5)]))))
  (H0 : Hid (∀ w1, Calls Tryz.prog 23 #[.int .i64 0] w1 (Re w1 (.agg #[.bool (A 0), .string (B 0), .string (C 0)]))))
  (HT : Hid (∀ k w1, k < 6 → Calls Tryz.prog 40 #[.agg #[.bool (N k), .string (S k), .string (D k)], .agg #[.bool (M' k), .string (T k), .string (E k)]] w1 fun e w' => ∃ n s d, e = .returned (.agg #[.bool n, .string s, .string d]) ∧ (∀ w2, Calls Tryz.prog 24 #[.agg #[.bool (A k), .string (B k), .string (C k)], .agg #[.bool n, .string s, .string d]] w2 (Re w2 (.agg #[.bool (A (k + 1)), .string (B (k + 1)), .string (C (k + 1))]))) ∧ Below w1.heap.size w1 w')) :
  Calls Tryz.prog 14 #[.agg #[.bool (N 0), .string (S 0), .string (D 0), .bool (N 1), .string (S 1), .string (D 1), .bool (N 2), .string (S 2), .string (D 2), .bool (N 3), .string (S 3), .string (D 3), .bool (N 4), .string (S 4), .string (D 4), .bool (N 5), .string (S 5), .string (D 5)], .agg #[.bool p0, .string q0, .string r0, .bool p1, .string q1, .string r1]] w (Re w (.agg #[.bool (A 6), .string (B 6), .string (C 6)])) := by
 obtain ⟨rfl, rfl, rfl, rfl, rfl, rfl⟩ := hM
 go_enter Tryz.func14, Tryz.ntmps14
 go_upto_region 1 with fail
 obtain ⟨w0, hq, kf, kp, kr, bb⟩ := mk3 w [.bool (N 0), .string (S 0), .string (D 0), .bool (N 1), .string (S 1), .string (D 1), .bool (N 2), .string (S 2), .string (D 2), .bool (N 3), .string (S 3), .string (D 3), .bool (N 4), .string (S 4), .string (D 4), .bool (N 5), .string (S 5), .string (D 5)] [.bool (M' 1), .string (T 1), .string (E 1), .bool (M' 2), .string (T 2), .string (E 2)] [.bool false, .string { data := #[] }, .string { data := #[] }] 28 30 26
 rw [← hq]
 clear hq
 have bd := bdrew w0
 replace kf := kf.below bd
 replace kp := kp.below bd
 replace kr := kr.below bd
 replace bb := Below.after bb bd
 clear bd
 refine wp_region_held_drew (S := fun w' => xc6 w' (w.heap.size + 1) (.bool (M' 1)) (.string (T 1)) (.string (E 1)) (.bool (M' 2)) (.string (T 2)) (.string (E 2))) (by kernel_rfl) (xk6 kp) (fun hS => ?_)
 generalize w0.drew = wd at *
 refine WA.start (n := 18) (by kernel_rfl) ?_
 refine WA.tp 1 rfl ?_
 refine WA.tp 2 rfl ?_
 refine WA.tp 3 rfl ?_
 refine WA.tp 4 rfl ?_
 refine WA.tp 5 rfl ?_
 refine WA.tp 6 rfl ?_
 refine WA.tp 8 rfl ?_
 refine WA.tp 9 rfl ?_
 refine WA.tp 10 rfl ?_
 refine WA.tp 11 rfl ?_
 refine WA.tp 13 rfl ?_
 refine WA.tp 14 rfl ?_
 clear hS
 refine WA.cal 0 rfl (fun K hK => ?_)
 simp only [List.getElem_toArray, List.getElem_cons_zero]
 go_simp
 go_fit (H1.out _)
 rintro e w1 ⟨rfl, b1⟩
 replace kf := kf.below b1
 replace kp := kp.below b1
 replace kr := kr.below b1
 replace bb := Below.after bb b1
 clear b1
 try go_wp2_with fail
 refine hK.out _ _ (xk6 kp) (fun hS => ?_)
 clear hK K hS
 refine WA.cal 7 rfl (fun K hK => ?_)
 simp only [List.getElem_toArray, List.getElem_cons_succ, List.getElem_cons_zero]
 go_simp
 go_fit (H2.out _)
 rintro e w2 ⟨rfl, b1⟩
 replace kf := kf.below b1
 replace kp := kp.below b1
 replace kr := kr.below b1
 replace bb := Below.after bb b1
 clear b1
 try go_wp2_with fail
 refine hK.out _ _ (xk6 kp) (fun hS => ?_)
 clear hK K hS
 refine WA.cal 12 rfl (fun K hK => ?_)
 simp only [List.getElem_toArray, List.getElem_cons_succ, List.getElem_cons_zero]
 go_simp
 go_fit (H3.out _)
 rintro e w3 ⟨rfl, b1⟩
 replace kf := kf.below b1
 replace kp := kp.below b1
 replace kr := kr.below b1
 replace bb := Below.after bb b1
 clear b1
 try go_wp2_with fail
 refine hK.out _ _ (xk6 kp) (fun hS => ?_)
 clear hK K hS
 refine WA.cal 15 rfl (fun K hK => ?_)
 simp only [List.getElem_toArray, List.getElem_cons_succ, List.getElem_cons_zero]
 go_simp
 go_fit (H4.out _)
 rintro e w4 ⟨rfl, b1⟩
 replace kf := kf.below b1
 replace kp := kp.below b1
 replace kr := kr.below b1
 replace bb := Below.after bb b1
 clear b1
 try go_wp2_with fail
 refine hK.out _ _ (xk6 kp) (fun hS => ?_)
 clear hK K hS
 refine WA.cal 16 rfl (fun K hK => ?_)
 simp only [List.getElem_toArray, List.getElem_cons_succ, List.getElem_cons_zero]
 go_simp
 try go_wp2_with fail
 obtain ⟨w5, hw, kv, b1⟩ := mk1 w4 [.bool (M' 0), .string (T 0), .string (E 0), .bool (M' 1), .string (T 1), .string (E 1), .bool (M' 2), .string (T 2), .string (E 2), .bool (M' 3), .string (T 3), .string (E 3), .bool (M' 4), .string (T 4), .string (E 4), .bool (M' 5), .string (T 5), .string (E 5)] 26
 rw [← hw]
 clear hw
 replace kf := kf.below b1
 replace kp := kp.below b1
 replace kr := kr.below b1
 replace bb := Below.after bb b1
 clear b1
 refine hK.out _ _ (xk6 kp) (fun hS => ?_)
 clear hK K
 refine WA.tp 17 rfl ?_
 refine WA.done (by kernel_rfl) ?_
 clear hS kp
 go_wp2_with fail
 go_fit (H0.out _)
 rintro e w6 ⟨rfl, b1⟩
 replace kf := kf.below b1
 replace kv := kv.below b1
 replace kr := kr.below b1
 replace bb := Below.after bb b1
 clear b1
 have hf := shut (rdq6 kf)
 have hv := shut (rdq6 kv)
 have tf := kf.lt
 have tv := kv.lt
 have tr := kr.lt
 clear kf kv
 have b6 := bb
 clear bb
 go_upto_region 3 with fail
 obtain ⟨w7, hw, ks, bb⟩ := mk1 w6 [.bool (A 0), .string (B 0), .string (C 0)] 26
 rw [← hw]
 clear hw
 go_wp2_with fail
 go_loopw [7] (fun i wr => Below w6.heap.size w6 wr ∧ ∃ k : Nat, k ≤ 6 ∧ i = .int .i64 k ∧ Cel wr w6.heap.size [.bool (A k), .string (B k), .string (C k)] 26) (fun i _ => 6 - (intOf i).toNat)
 case atStart => exact ⟨bb, 0, by omega, rfl, ks⟩
 case round =>
  clear bb ks
  obtain ⟨bb, k, hk, rfl, ks⟩ := hrel
  by_cases hkm : k < 6
  ·obtain ⟨b, off, e, g0, g1, g2⟩ := hf.out.below bb k hkm
   injection e with e
   injection e with e1 e2
   subst e1 e2
   obtain ⟨b, off, e, h0, h1, h2⟩ := hv.out.below bb k hkm
   injection e with e
   injection e with e1 e2
   subst e1 e2
   rw [Nat.zero_add] at g0 g1 g2 h0 h1 h2
   have i1 : (k : Int) < 6 := by omega
   have i2 : ¬ (k : Int) < 0 := by omega
   replace tf := shut tf
   replace tv := shut tv
   replace tr := shut tr
   go_wp2_with fail
   have bd := bdrew wr
   replace ks := ks.below bd
   replace g0 := cell_below g0 bd
   replace g1 := cell_below g1 bd
   replace g2 := cell_below g2 bd
   replace h0 := cell_below h0 bd
   replace h1 := cell_below h1 bd
   replace h2 := cell_below h2 bd
   replace bb := Below.after bb bd
   clear bd
   refine wp_region_held_drew (S := fun w' => (w'.cell? ⟨w.heap.size, k * 3, none⟩ = some (.bool (N k)) ∧ w'.cell? ⟨w.heap.size, k * 3 + 1, none⟩ = some (.string (S k)) ∧ w'.cell? ⟨w.heap.size, k * 3 + 2, none⟩ = some (.string (D k))) ∧ (w'.cell? ⟨w4.heap.size, k * 3, none⟩ = some (.bool (M' k)) ∧ w'.cell? ⟨w4.heap.size, k * 3 + 1, none⟩ = some (.string (T k)) ∧ w'.cell? ⟨w4.heap.size, k * 3 + 2, none⟩ = some (.string (E k)))) (by kernel_rfl) ⟨⟨g0, g1, g2⟩, ⟨h0, h1, h2⟩⟩ (fun hS => ?_)
   generalize wr.drew = wd at *
   refine WA.start (n := 11) (by kernel_rfl) ?_
   refine WA.tp 1 rfl ?_
   refine WA.tp 2 rfl ?_
   refine WA.tp 3 rfl ?_
   refine WA.tp 4 rfl ?_
   refine WA.tp 5 rfl ?_
   refine WA.tp 6 rfl ?_
   refine WA.tp 7 rfl ?_
   refine WA.genR (i := 0) (s := 30) (.agg #[.bool (A k), .string (B k), .string (C k)]) (fun b x hz => ?_)
   simp only [Act.put, List.setIfInBounds_toArray, List.set_cons_zero, List.set_cons_succ]
   obtain ⟨c0, c1, c2⟩ := xk3 ks
   revert b x
   refine WA.oneR 11 254 8 0 rfl rfl hS ?_
   clear hS c0 c1 c2
   intro b x hz K hK
   simp only [List.getElem_toArray, List.getElem_cons_succ, List.getElem_cons_zero]
   go_simp
   go_fit (HT.out k _ hkm)
   rintro e w8 ⟨n, s, d, rfl, HU, b1⟩
   replace HU := shut HU
   replace ks := ks.below b1
   replace g0 := cell_below g0 b1
   replace g1 := cell_below g1 b1
   replace g2 := cell_below g2 b1
   replace h0 := cell_below h0 b1
   replace h1 := cell_below h1 b1
   replace h2 := cell_below h2 b1
   replace bb := Below.after bb b1
   clear b1
   try go_wp2_with fail
   refine hK.out _ _ ⟨⟨g0, g1, g2⟩, ⟨h0, h1, h2⟩⟩ (fun hS => ?_)
   clear hK K
   obtain ⟨c0, c1, c2⟩ := xk3 ks
   revert b x
   refine WA.finR 0 rfl hS ?_
   clear c0 c1 c2
   refine WA.cal 9 rfl (fun K hK => ?_)
   simp only [List.getElem_toArray, List.getElem_cons_succ, List.getElem_cons_zero]
   go_simp
   go_fit (HU.out _)
   rintro e w9 ⟨rfl, b1⟩
   clear HU
   replace ks := ks.below b1
   replace g0 := cell_below g0 b1
   replace g1 := cell_below g1 b1
   replace g2 := cell_below g2 b1
   replace h0 := cell_below h0 b1
   replace h1 := cell_below h1 b1
   replace h2 := cell_below h2 b1
   replace bb := Below.after bb b1
   clear b1
   try go_wp2_with fail
   clear hS
   refine hK.out _ _ ⟨⟨g0, g1, g2⟩, ⟨h0, h1, h2⟩⟩ (fun hS => ?_)
   clear hK K
   obtain ⟨c0, c1, c2⟩ := xk3 ks
   have f0 := Cel.frozen ks 0
   have f1 := Cel.frozen ks 1
   have f2 := Cel.frozen ks 2
   refine WA.cal 10 rfl (fun K hK => ?_)
   simp only [List.getElem_toArray, List.getElem_cons_succ, List.getElem_cons_zero]
   go_simp
   try go_wp2_with fail
   clear c0 c1 c2 f0 f1 f2 hS
   have hnf : ¬ (w.heap.size = w6.heap.size) := by have := tf.out; omega
   have hnv : ¬ (w4.heap.size = w6.heap.size) := by have := tv.out; omega
   refine hK.out _ _ ⟨⟨cell_oth3 g0 hnf _ _ _, cell_oth3 g1 hnf _ _ _, cell_oth3 g2 hnf _ _ _⟩, ⟨cell_oth3 h0 hnv _ _ _, cell_oth3 h1 hnv _ _ _, cell_oth3 h2 hnv _ _ _⟩⟩ (fun hS => ?_)
   clear hK K
   refine WA.done (by kernel_rfl) ?_
   clear hS g0 g1 g2 h0 h1 h2
   have bs := bset (bset (bset bb (Nat.le_refl w6.heap.size) 0 (.bool (A (k + 1)))) (Nat.le_refl w6.heap.size) 1 (.string (B (k + 1)))) (Nat.le_refl w6.heap.size) 2 (.string (C (k + 1)))
   replace ks := ((ks.set 0 (.bool (A (k + 1)))).set 1 (.string (B (k + 1)))).set 2 (.string (C (k + 1)))
   clear bb
   go_wp2_with fail
   refine ⟨⟨bs, k + 1, by omega, by go_num, ks⟩, ?_⟩
   simp [intOf]; omega
  ·obtain rfl : k = 6 := by omega
   have i3 : ¬ ((6 : Nat) : Int) < 6 := by omega
   have kr' := kr.below bb
   have bR := Below.after b6 bb
   have hne : ¬ (w6.heap.size = w.heap.size + 1 + 1) := by omega
   clear kr tf tv tr
   obtain ⟨c0, c1, c2⟩ := xk3 ks
   obtain ⟨e0, e1, e2⟩ := xk3 kr'
   have f0 := Cel.frozen kr' 0
   have f1 := Cel.frozen kr' 1
   have f2 := Cel.frozen kr' 2
   go_wp2
   exact post_q (p := 4) (by kernel_rfl) rfl rfl (((kr'.set 0 _).set 1 _).set 2 _) ⟨rfl, bset (bset (bset bR (by omega) 0 _) (by omega) 1 _) (by omega) 2 _⟩
def ss (r v : Nat → Rat) : Nat → Rat
 | 0 => 0
 | k + 1 => ss r v k + r k * v k
theorem ss_bq {r v : Nat → Rat} {M' : Nat} : ∀ n, (∀ k, k < n → Bq (r k * v k) M') → Bq (ss r v n) ((M' + 1) * n + 1)
 | 0, _ => by
  constructor
  ·exact Bd.zero _
  ·show Bd ((1 : Nat) : Int) _
   unfold Bd
   simp
 | n + 1, h => by
  have := vqm_add (ss_bq n (fun k hk => h k (by omega))) (h n (by omega))
  refine bq_mono this ?_
  rw [Nat.mul_add]
  omega
theorem ofJ (n : Int) (h1 : -1000 ≤ n) (h2 : n ≤ 1000) (w : World) : Calls Tryz.prog 23 #[.int .i64 n] w (Ra w (rq (n : Rat))) := by
 have := roq_any n h1 h2 w
 rw [rq_int]
 exact this
theorem rsquI (x : Rat) {K : Nat} (hK : K ≤ 4000) (bx : Bq x K) (w : World) : Calls Tryz.prog 39 #[rq x] w (Ra w (rq (x * x))) :=
 rsqr_walk _ _ _ _ _ _ w (fun w1 _ => rtimesI x x hK bx bx w1)
theorem revalI (r : Nat → Rat) (x y : Rat) {K K' : Nat} (hK : (K + (K' + K') + 1) * 6 + 1 ≤ 4000) (h1 : 1 ≤ K') (hb : ∀ k, k < 6 → Bq (r k) K) (bx : Bq x K') (bY : Bq y K') (w : World) :
  Calls Tryz.prog 14 #[fq6 r, pq x y] w (Ra w (rq (ev r x y))) := by
 have hv : ∀ k, k < 6 → Bq (six 1 x y (x * x) (x * y) (y * y) k) (K' + K') := fun k hk => by
  match k, hk with
  | 0, _ => exact bq_mono (show Bq (1 : Rat) 1 from ⟨(by decide : (1 : Rat).num.natAbs < 256 ^ 1), (by decide : ((1 : Rat).den : Int).natAbs < 256 ^ 1)⟩) (show 1 ≤ K' + K' by omega)
  | 1, _ => exact bq_mono bx (by omega)
  | 2, _ => exact bq_mono bY (by omega)
  | 3, _ => exact vqm_mul bx bx
  | 4, _ => exact vqm_mul bx bY
  | 5, _ => exact vqm_mul bY bY
 have hm : ∀ k, k < 6 → Bq (r k * six 1 x y (x * x) (x * y) (y * y) k) (K + (K' + K')) := fun k hk => vqm_mul (hb k hk) (hv k hk)
 have e6 : ss r (six 1 x y (x * x) (x * y) (y * y)) 6 = ev r x y := by
  unfold ss ss ss ss ss ss ss ev
  show 0 + r 0 * 1 + r 1 * x + r 2 * y + r 3 * (x * x) + r 4 * (x * y) + r 5 * (y * y) = _
  grind
 rw [← e6]
 refine reval_walk (fun k => nfZ (r k).num) (fun k => nfZ (six 1 x y (x * x) (x * y) (y * y) k).num) (fun k => nfZ (ss r (six 1 x y (x * x) (x * y) (y * y)) k).num) (fun k => sfZ (r k).num) (fun k => strOf (r k).den) (fun k => sfZ (six 1 x y (x * x) (x * y) (y * y) k).num) (fun k => strOf (six 1 x y (x * x) (x * y) (y * y) k).den) (fun k => sfZ (ss r (six 1 x y (x * x) (x * y) (y * y)) k).num) (fun k => strOf (ss r (six 1 x y (x * x) (x * y) (y * y)) k).den) _ _ _ _ _ _ w ⟨rfl, rfl, rfl, rfl, rfl, rfl⟩ (fun w1 => ofJ 1 (by omega) (by omega) w1) (fun w1 => rsquI x (K := K') (by omega) bx w1) (fun w1 => rtimesI x y (K := K') (by omega) bx bY w1) (fun w1 => rsquI y (K := K') (by omega) bY w1) (fun w1 => ofJ 0 (by omega) (by omega) w1) (fun k w1 hk => ?_)
 refine (rtimesI (r k) (six 1 x y (x * x) (x * y) (y * y) k) (K := K + (K' + K')) (by omega) (bq_mono (hb k hk) (by omega)) (bq_mono (hv k hk) (by omega)) w1).mono (fun e w' h => ⟨_, _, _, h.1, fun w2 => ?_, h.2⟩)
 have hs := ss_bq (r := r) (v := six 1 x y (x * x) (x * y) (y * y)) (M' := K + (K' + K')) k (fun j hj => hm j (by omega))
 exact rsumI (ss r (six 1 x y (x * x) (x * y) (y * y)) k) (r k * six 1 x y (x * x) (x * y) (y * y) k) (K := (K + (K' + K') + 1) * 6 + 1) hK (bq_mono hs (by have := Nat.mul_le_mul_left (K + (K' + K') + 1) (show k ≤ 6 by omega); omega)) (bq_mono (hm k hk) (by omega)) w2
theorem live7_walk (n10 n11 n12 n13 n14 n15 n16 n17 n18 n19 n30 n31 n32 n33 n34 n35 n40 n41 n42 n43 n44 n45 : Bool) (s10 d10 s11 d11 s12 d12 s13 d13 s14 d14 s15 d15 s16 d16 s17 d17 s18 d18 s19 d19 s30 d30 s31 d31 s32 d32 s33 d33 s34 d34 s35 d35 s40 d40 s41 d41 s42 d42 s43 d43 s44 d44 s45 d45 : ByteArray) (xN yN : Bool) (xS xD yS yD : ByteArray) (w : World)
  (A00 : Hid (∀ w1, Calls Tryz.prog 31 #[.int .i64 0, .int .i64 0] w1 (Re w1 (.agg #[.bool n10, .string s10, .string d10, .bool n11, .string s11, .string d11]))))
  (A20 : Hid (∀ w1, Calls Tryz.prog 31 #[.int .i64 2, .int .i64 0] w1 (Re w1 (.agg #[.bool n12, .string s12, .string d12, .bool n13, .string s13, .string d13]))))
  (A02 : Hid (∀ w1, Calls Tryz.prog 31 #[.int .i64 0, .int .i64 2] w1 (Re w1 (.agg #[.bool n14, .string s14, .string d14, .bool n15, .string s15, .string d15]))))
  (A10 : Hid (∀ w1, Calls Tryz.prog 31 #[.int .i64 1, .int .i64 0] w1 (Re w1 (.agg #[.bool n16, .string s16, .string d16, .bool n17, .string s17, .string d17]))))
  (A01 : Hid (∀ w1, Calls Tryz.prog 31 #[.int .i64 0, .int .i64 1] w1 (Re w1 (.agg #[.bool n18, .string s18, .string d18, .bool n19, .string s19, .string d19]))))
  (S1 : Hid (∀ w1, Calls Tryz.prog 30 #[.agg #[.int .i64 0, .int .i64 1, .int .i64 0, .int .i64 0, .int .i64 0, .int .i64 0]] w1 (Re w1 (.agg #[.bool n30, .string s30, .string d30, .bool n31, .string s31, .string d31, .bool n32, .string s32, .string d32, .bool n33, .string s33, .string d33, .bool n34, .string s34, .string d34, .bool n35, .string s35, .string d35]))))
  (S2 : Hid (∀ w1, Calls Tryz.prog 30 #[.agg #[.int .i64 1, .int .i64 0, .int .i64 0, .int .i64 0, .int .i64 0, .int .i64 0]] w1 (Re w1 (.agg #[.bool n40, .string s40, .string d40, .bool n41, .string s41, .string d41, .bool n42, .string s42, .string d42, .bool n43, .string s43, .string d43, .bool n44, .string s44, .string d44, .bool n45, .string s45, .string d45]))))
  (F1 : Hid (∀ w1, Calls Tryz.prog 27 #[.int .i64 4, .int .i64 3] w1 (Re w1 (.agg #[.bool xN, .string xS, .string xD]))))
  (F2 : Hid (∀ w1, Calls Tryz.prog 27 #[.int .i64 1, .int .i64 12] w1 (Re w1 (.agg #[.bool yN, .string yS, .string yD]))))
  (C1 : Hid (∀ w1, Below w.heap.size w w1 → Calls Tryz.prog 15 #[.agg #[.bool n30, .string s30, .string d30, .bool n31, .string s31, .string d31, .bool n32, .string s32, .string d32, .bool n33, .string s33, .string d33, .bool n34, .string s34, .string d34, .bool n35, .string s35, .string d35], .agg #[.bool n10, .string s10, .string d10, .bool n11, .string s11, .string d11], .agg #[.bool n12, .string s12, .string d12, .bool n13, .string s13, .string d13], .agg #[.bool n14, .string s14, .string d14, .bool n15, .string s15, .string d15]] w1 (Re w1 (.tuple #[.agg #[.bool xN, .string xS, .string xD], .int .i64 0]))))
  (C2 : Hid (∀ w1, Below w.heap.size w w1 → Calls Tryz.prog 17 #[.agg #[.bool n30, .string s30, .string d30, .bool n31, .string s31, .string d31, .bool n32, .string s32, .string d32, .bool n33, .string s33, .string d33, .bool n34, .string s34, .string d34, .bool n35, .string s35, .string d35], .agg #[.bool n10, .string s10, .string d10, .bool n11, .string s11, .string d11], .agg #[.bool n16, .string s16, .string d16, .bool n17, .string s17, .string d17], .agg #[.bool n18, .string s18, .string d18, .bool n19, .string s19, .string d19]] w1 (Re w1 (.tuple #[.agg #[.bool yN, .string yS, .string yD], .int .i64 0]))))
  (C3 : Hid (∀ w1, Below w.heap.size w w1 → Calls Tryz.prog 16 #[.agg #[.bool n40, .string s40, .string d40, .bool n41, .string s41, .string d41, .bool n42, .string s42, .string d42, .bool n43, .string s43, .string d43, .bool n44, .string s44, .string d44, .bool n45, .string s45, .string d45], .agg #[.bool n10, .string s10, .string d10, .bool n11, .string s11, .string d11], .agg #[.bool n16, .string s16, .string d16, .bool n17, .string s17, .string d17], .agg #[.bool n12, .string s12, .string d12, .bool n13, .string s13, .string d13]] w1 (Re w1 (.tuple #[.agg #[.bool false, .string { data := #[] }, .string { data := #[] }, .bool false, .string { data := #[] }, .string { data := #[] }, .bool false, .string { data := #[] }, .string { data := #[] }], .int .i64 6])))) :
  Calls Tryz.prog 9 #[] w (Re w (.bool true)) := by
 go_enter Tryz.func9, Tryz.ntmps9
 have bb := Below.refl w.heap.size w
 go_wp2_with fail
 go_fit (S1.out _)
 rintro e w1 ⟨rfl, b1⟩
 replace bb := Below.after bb b1
 clear b1
 go_wp2_with fail
 go_fit (A00.out _)
 rintro e w2 ⟨rfl, b1⟩
 replace bb := Below.after bb b1
 clear b1
 go_wp2_with fail
 go_fit (A20.out _)
 rintro e w3 ⟨rfl, b1⟩
 replace bb := Below.after bb b1
 clear b1
 go_wp2_with fail
 go_fit (A02.out _)
 rintro e w4 ⟨rfl, b1⟩
 replace bb := Below.after bb b1
 clear b1
 go_wp2_with fail
 go_fit (C1.out _ bb)
 rintro e w5 ⟨rfl, b1⟩
 replace bb := Below.after bb b1
 clear b1
 go_wp2_with fail
 obtain ⟨x5, hw, kc, b1⟩ := mk1 w5 [.bool xN, .string xS, .string xD] 26
 rw [← hw]
 clear hw
 replace bb := Below.after bb b1
 clear b1
 go_wp2_with fail
 go_fit (S1.out _)
 rintro e w6 ⟨rfl, b1⟩
 replace kc := kc.below b1
 replace bb := Below.after bb b1
 clear b1
 go_wp2_with fail
 go_fit (A00.out _)
 rintro e w7 ⟨rfl, b1⟩
 replace kc := kc.below b1
 replace bb := Below.after bb b1
 clear b1
 go_wp2_with fail
 go_fit (A10.out _)
 rintro e w8 ⟨rfl, b1⟩
 replace kc := kc.below b1
 replace bb := Below.after bb b1
 clear b1
 go_wp2_with fail
 go_fit (A01.out _)
 rintro e w9 ⟨rfl, b1⟩
 replace kc := kc.below b1
 replace bb := Below.after bb b1
 clear b1
 go_wp2_with fail
 go_fit (C2.out _ bb)
 rintro e w10 ⟨rfl, b1⟩
 replace kc := kc.below b1
 replace bb := Below.after bb b1
 clear b1
 go_wp2_with fail
 obtain ⟨x10, hw, kn, b1⟩ := mk1 w10 [.bool yN, .string yS, .string yD] 26
 rw [← hw]
 clear hw
 replace kc := kc.below b1
 replace bb := Below.after bb b1
 clear b1
 go_wp2_with fail
 go_fit (S2.out _)
 rintro e w11 ⟨rfl, b1⟩
 replace kc := kc.below b1
 replace kn := kn.below b1
 replace bb := Below.after bb b1
 clear b1
 go_wp2_with fail
 go_fit (A00.out _)
 rintro e w12 ⟨rfl, b1⟩
 replace kc := kc.below b1
 replace kn := kn.below b1
 replace bb := Below.after bb b1
 clear b1
 go_wp2_with fail
 go_fit (A10.out _)
 rintro e w13 ⟨rfl, b1⟩
 replace kc := kc.below b1
 replace kn := kn.below b1
 replace bb := Below.after bb b1
 clear b1
 go_wp2_with fail
 go_fit (A20.out _)
 rintro e w14 ⟨rfl, b1⟩
 replace kc := kc.below b1
 replace kn := kn.below b1
 replace bb := Below.after bb b1
 clear b1
 go_wp2_with fail
 go_fit (C3.out _ bb)
 rintro e w15 ⟨rfl, b1⟩
 replace kc := kc.below b1
 replace kn := kn.below b1
 replace bb := Below.after bb b1
 clear b1
 go_wp2_with fail
 obtain ⟨x15, hw, kz, b1⟩ := mk1 w15 [.bool false, .string { data := #[] }, .string { data := #[] }, .bool false, .string { data := #[] }, .string { data := #[] }, .bool false, .string { data := #[] }, .string { data := #[] }] 43
 rw [← hw]
 clear hw
 replace kc := kc.below b1
 replace kn := kn.below b1
 replace bb := Below.after bb b1
 clear b1
 clear kz
 have bd := bdrew x15
 replace kc := kc.below bd
 replace kn := kn.below bd
 replace bb := Below.after bb bd
 clear bd
 refine wp_region_held_drew (S := fun w' => xc3 w' w5.heap.size (.bool xN) (.string xS) (.string xD) ∧ xc3 w' w10.heap.size (.bool yN) (.string yS) (.string yD)) (by kernel_rfl) ⟨xk3 kc, xk3 kn⟩ (fun hS => ?_)
 refine WA.start (n := 21) (by kernel_rfl) ?_
 refine WA.tp 0 rfl ?_
 refine WA.cal 1 rfl (fun K hK => ?_)
 simp only [List.getElem_toArray, List.getElem_cons_succ, List.getElem_cons_zero]
 go_simp
 go_fit (F1.out _)
 rintro e wn ⟨rfl, bn⟩
 replace kc := kc.below bn
 replace kn := kn.below bn
 replace bb := Below.after bb bn
 try go_wp2_with fail
 clear hS
 refine hK.out _ _ ⟨xk3 kc, xk3 kn⟩ (fun hS => ?_)
 clear hK K bn
 refine WA.tp 2 rfl ?_
 refine WA.tp 3 rfl ?_
 refine WA.tp 4 rfl ?_
 refine WA.tp 5 rfl ?_
 refine WA.tp 6 rfl ?_
 refine WA.tp 7 rfl ?_
 refine WA.tp 8 rfl ?_
 refine WA.cal 9 rfl (fun K hK => ?_)
 simp only [List.getElem_toArray, List.getElem_cons_succ, List.getElem_cons_zero]
 go_simp
 go_fit (F2.out _)
 rintro e wn ⟨rfl, bn⟩
 replace kc := kc.below bn
 replace kn := kn.below bn
 replace bb := Below.after bb bn
 try go_wp2_with fail
 clear hS
 refine hK.out _ _ ⟨xk3 kc, xk3 kn⟩ (fun hS => ?_)
 clear hK K bn
 refine WA.tp 10 rfl ?_
 refine WA.tp 11 rfl ?_
 refine WA.tp 12 rfl ?_
 refine WA.tp 13 rfl ?_
 refine WA.tp 14 rfl ?_
 refine WA.tp 15 rfl ?_
 refine WA.tp 16 rfl ?_
 refine WA.tp 17 rfl ?_
 refine WA.tp 18 rfl ?_
 refine WA.tp 19 rfl ?_
 refine WA.tp 20 rfl ?_
 refine WA.done (by kernel_rfl) ?_
 clear hS
 go_wp2
 go_ret
 exact ⟨rfl, bb⟩
def six6 {α : Type} (a b c d e f : α) (k : Nat) : α := match k with | 0 => a | 1 => b | 2 => c | 3 => d | 4 => e | _ => f
theorem pcheck3 (n0 n1 n2 n3 n4 n5 p0 p1 p2 p3 p4 p5 : Bool) (s0 d0 s1 d1 s2 d2 s3 d3 s4 d4 s5 d5 q0 r0 q1 r1 q2 r2 q3 r3 q4 r4 q5 r5 : ByteArray) (w : World) (hT : Tab w) (B : Nat) (kl : Cel w B [.bool p0, .string q0, .string r0, .bool p1, .string q1, .string r1, .bool p2, .string q2, .string r2, .bool p3, .string q3, .string r3, .bool p4, .string q4, .string r4, .bool p5, .string q5, .string r5] 30) (zs0 : s0.size ≤ 100 ∧ d0.size ≤ 100) (zs1 : s1.size ≤ 100 ∧ d1.size ≤ 100) (zs2 : s2.size ≤ 100 ∧ d2.size ≤ 100) (zs3 : s3.size ≤ 100 ∧ d3.size ≤ 100) (zs4 : s4.size ≤ 100 ∧ d4.size ≤ 100) (zs5 : s5.size ≤ 100 ∧ d5.size ≤ 100) (zq0 : q0.size ≤ 100 ∧ r0.size ≤ 100) (zq1 : q1.size ≤ 100 ∧ r1.size ≤ 100) (zq2 : q2.size ≤ 100 ∧ r2.size ≤ 100) (zq3 : q3.size ≤ 100 ∧ r3.size ≤ 100) (zq4 : q4.size ≤ 100 ∧ r4.size ≤ 100) (zq5 : q5.size ≤ 100 ∧ r5.size ≤ 100) :
  Calls Tryz.prog 32 #[.agg #[.bool n0, .string s0, .string d0, .bool n1, .string s1, .string d1, .bool n2, .string s2, .string d2, .bool n3, .string s3, .string d3, .bool n4, .string s4, .string d4, .bool n5, .string s5, .string d5], .slice (some ⟨B, 0, none⟩) 3 3] w (Re w (.int .i64 ((two (firstE (fun k => chkq (six6 n0 n1 n2 n3 n4 n5 k) (six6 s0 s1 s2 s3 s4 s5 k) (six6 d0 d1 d2 d3 d4 d5 k)) 6) (firstE (fun k => two (chkq (f4 p0 p2 p4 p4 k) (f4 q0 q2 q4 q4 k) (f4 r0 r2 r4 r4 k)) (chkq (f4 p1 p3 p5 p5 k) (f4 q1 q3 q5 q5 k) (f4 r1 r3 r5 r5 k))) 3)) : Nat))) := by
 have := pcheck_any (six6 n0 n1 n2 n3 n4 n5) (six6 s0 s1 s2 s3 s4 s5) (six6 d0 d1 d2 d3 d4 d5) (some ⟨B, 0, none⟩) 3 3 _ _ _ _ _ _ w hT (by omega) (rdpt_3 kl) (fun k hk => by
  match k, hk with
  | 0, _ => exact zs0
  | 1, _ => exact zs1
  | 2, _ => exact zs2
  | 3, _ => exact zs3
  | 4, _ => exact zs4
  | 5, _ => exact zs5) (fun k hk => by
  match k, hk with
  | 0, _ => exact ⟨zq0, zq1⟩
  | 1, _ => exact ⟨zq2, zq3⟩
  | 2, _ => exact ⟨zq4, zq5⟩)
 exact this
theorem chk3 (r : Nat → Rat) (x0 y0 x1 y1 x2 y2 : Rat) {K : Nat} (hK : K ≤ 100) (hb : ∀ k, k < 6 → Bq (r k) K) (b0 : Bq x0 K) (b1 : Bq y0 K) (b2 : Bq x1 K) (b3 : Bq y1 K) (b4 : Bq x2 K) (b5 : Bq y2 K) : two (firstE (fun k => chkq (nfZ (r k).num) (sfZ (r k).num) (strOf (r k).den)) 6) (firstE (fun k => two (chkq (f4 (nfZ x0.num) (nfZ x1.num) (nfZ x2.num) (nfZ x2.num) k) (f4 (sfZ x0.num) (sfZ x1.num) (sfZ x2.num) (sfZ x2.num) k) (f4 (strOf x0.den) (strOf x1.den) (strOf x2.den) (strOf x2.den) k)) (chkq (f4 (nfZ y0.num) (nfZ y1.num) (nfZ y2.num) (nfZ y2.num) k) (f4 (sfZ y0.num) (sfZ y1.num) (sfZ y2.num) (sfZ y2.num) k) (f4 (strOf y0.den) (strOf y1.den) (strOf y2.den) (strOf y2.den) k))) 3) = 0 := by
 rw [chk6 hK hb]
 have e : ∀ k, k < 3 → two (chkq (f4 (nfZ x0.num) (nfZ x1.num) (nfZ x2.num) (nfZ x2.num) k) (f4 (sfZ x0.num) (sfZ x1.num) (sfZ x2.num) (sfZ x2.num) k) (f4 (strOf x0.den) (strOf x1.den) (strOf x2.den) (strOf x2.den) k)) (chkq (f4 (nfZ y0.num) (nfZ y1.num) (nfZ y2.num) (nfZ y2.num) k) (f4 (sfZ y0.num) (sfZ y1.num) (sfZ y2.num) (sfZ y2.num) k) (f4 (strOf y0.den) (strOf y1.den) (strOf y2.den) (strOf y2.den) k)) = 0 := fun k hk => by
  match k, hk with
  | 0, _ => exact two_zero.2 ⟨chk_can8 x0 (by omega) b0, chk_can8 y0 (by omega) b1⟩
  | 1, _ => exact two_zero.2 ⟨chk_can8 x1 (by omega) b2, chk_can8 y1 (by omega) b3⟩
  | 2, _ => exact two_zero.2 ⟨chk_can8 x2 (by omega) b4, chk_can8 y2 (by omega) b5⟩
 refine two_zero.2 ⟨rfl, ?_⟩
 unfold firstE firstE firstE firstE
 simp only [e 0 (by omega), e 1 (by omega), e 2 (by omega), if_true]
theorem chkB (r : Nat → Rat) (x0 y0 x1 y1 x2 y2 : Rat) {K : Nat} (hK : K ≤ 100) (hb : ∀ k, k < 6 → Bq (r k) K) (b0 : Bq x0 K) (b1 : Bq y0 K) (b2 : Bq x1 K) (b3 : Bq y1 K) (b4 : Bq x2 K) (b5 : Bq y2 K) (w : World) (hT : Tab w) : ∀ (w1 : World) (B : Nat), Below w.heap.size w w1 → Cel w1 B [.bool (nfZ x0.num), .string (sfZ x0.num), .string (strOf x0.den), .bool (nfZ y0.num), .string (sfZ y0.num), .string (strOf y0.den), .bool (nfZ x1.num), .string (sfZ x1.num), .string (strOf x1.den), .bool (nfZ y1.num), .string (sfZ y1.num), .string (strOf y1.den), .bool (nfZ x2.num), .string (sfZ x2.num), .string (strOf x2.den), .bool (nfZ y2.num), .string (sfZ y2.num), .string (strOf y2.den)] 30 → Calls Tryz.prog 32 #[fq6 r, .slice (some ⟨B, 0, none⟩) 3 3] w1 (Re w1 (.int .i64 0)) := fun w1 B b kl => by
 have := pcheck3 (nfZ (r 0).num) (nfZ (r 1).num) (nfZ (r 2).num) (nfZ (r 3).num) (nfZ (r 4).num) (nfZ (r 5).num) _ _ _ _ _ _ _ _ _ _ _ _ _ _ _ _ _ _ _ _ _ _ _ _ _ _ _ _ _ _ w1 (hT.below b) B kl (sz2 hK (hb 0 (by omega))) (sz2 hK (hb 1 (by omega))) (sz2 hK (hb 2 (by omega))) (sz2 hK (hb 3 (by omega))) (sz2 hK (hb 4 (by omega))) (sz2 hK (hb 5 (by omega))) (sz2 hK b0) (sz2 hK b1) (sz2 hK b2) (sz2 hK b3) (sz2 hK b4) (sz2 hK b5)
 refine this.mono (fun e w' h => ⟨?_, h.2⟩)
 rw [h.1]
 have hz := chk3 r x0 y0 x1 y1 x2 y2 hK hb b0 b1 b2 b3 b4 b5
 have hq : firstE (fun k => chkq (six6 (nfZ (r 0).num) (nfZ (r 1).num) (nfZ (r 2).num) (nfZ (r 3).num) (nfZ (r 4).num) (nfZ (r 5).num) k) (six6 (sfZ (r 0).num) (sfZ (r 1).num) (sfZ (r 2).num) (sfZ (r 3).num) (sfZ (r 4).num) (sfZ (r 5).num) k) (six6 (strOf (r 0).den) (strOf (r 1).den) (strOf (r 2).den) (strOf (r 3).den) (strOf (r 4).den) (strOf (r 5).den) k)) 6 = firstE (fun k => chkq (nfZ (r k).num) (sfZ (r k).num) (strOf (r k).den)) 6 := rfl
 rw [hq, hz]
 rfl
theorem flat_str {z : Int} (h : z = 0) : sfZ z = { data := #[] } := by
 subst h
 rfl
theorem samp_flat (r : Nat → Rat) (x0 y0 x1 y1 x2 y2 : Rat) {K : Nat} (hK : K ≤ 100) (hb : ∀ k, k < 6 → Bq (r k) K) (b0 : Bq x0 K) (b1 : Bq y0 K) (b2 : Bq x1 K) (b3 : Bq y1 K) (b4 : Bq x2 K) (b5 : Bq y2 K) (w : World) (hT : Tab w) (hA : ((x1 - x0) * (y2 - y0) - (y1 - y0) * (x2 - x0)) = 0) :
  Calls Tryz.prog 41 #[fq6 r, pq x0 y0, pq x1 y1, pq x2 y2] w (Re w (.tuple #[.agg #[.slice none 0 0, .slice none 0 0, .bool false, .slice none 0 0, .bool false, .slice none 0 0], .int .i64 6])) := by
 refine sample_flat _ _ _ _ _ _ _ _ _ _ _ _ _ _ _ _ _ _ _ _ _ _ _ _ _ _ _ _ _ _ _ _ _ _ _ _ (nfZ ((x1 - x0) * (y2 - y0) - (y1 - y0) * (x2 - x0)).num) (strOf ((x1 - x0) * (y2 - y0) - (y1 - y0) * (x2 - x0)).den) w (chkB r x0 y0 x1 y1 x2 y2 hK hb b0 b1 b2 b3 b4 b5 w hT) (fun w1 b => ?_)
 have := areaI x0 y0 x1 y1 x2 y2 hK b0 b1 b2 b3 b4 b5 w1 (hT.below b)
 have e0 : rq ((x1 - x0) * (y2 - y0) - (y1 - y0) * (x2 - x0)) = .agg #[.bool (nfZ ((x1 - x0) * (y2 - y0) - (y1 - y0) * (x2 - x0)).num), .string { data := #[] }, .string (strOf ((x1 - x0) * (y2 - y0) - (y1 - y0) * (x2 - x0)).den)] := by
  show Value.agg #[.bool (nfZ ((x1 - x0) * (y2 - y0) - (y1 - y0) * (x2 - x0)).num), .string (sfZ ((x1 - x0) * (y2 - y0) - (y1 - y0) * (x2 - x0)).num), .string (strOf ((x1 - x0) * (y2 - y0) - (y1 - y0) * (x2 - x0)).den)] = _
  rw [flat_str (show ((x1 - x0) * (y2 - y0) - (y1 - y0) * (x2 - x0)).num = 0 by rw [hA]; rfl)]
 rw [e0] at this
 exact this
theorem area_bq (x0 y0 x1 y1 x2 y2 : Rat) {K : Nat} (hK : K ≤ 100) (b0 : Bq x0 K) (b1 : Bq y0 K) (b2 : Bq x1 K) (b3 : Bq y1 K) (b4 : Bq x2 K) (b5 : Bq y2 K) : Bq ((x1 - x0) * (y2 - y0) - (y1 - y0) * (x2 - x0)) 810 := bq_mono (vqm_sub (vqm_mul (vqm_sub b2 b0) (vqm_sub b5 b1)) (vqm_mul (vqm_sub b3 b1) (vqm_sub b4 b0))) (by omega)
theorem six_bq (x0 y0 x1 y1 x2 y2 : Rat) {K : Nat} (b0 : Bq x0 K) (b1 : Bq y0 K) (b2 : Bq x1 K) (b3 : Bq y1 K) (b4 : Bq x2 K) (b5 : Bq y2 K) : ∀ k, k < 6 → Bq ((six x0 x1 x2 y0 y1 y2) k) K := fun k hk => by
 match k, hk with
 | 0, _ => exact b0
 | 1, _ => exact b2
 | 2, _ => exact b4
 | 3, _ => exact b1
 | 4, _ => exact b3
 | 5, _ => exact b5
theorem emp_sf {z : Int} (h : z ≠ 0) : (sfZ z).toList.isEmpty = false := by
 unfold sfZ
 rw [strOf_empty]
 exact decide_eq_false (by omega)
theorem num_nat (m : Nat) {k : Nat} (hb : Bd ((m : Nat) : Int) k) (hk : k ≤ 8 * 110) (w : World) : Calls Tryz.prog 58 #[.agg #[.bool false, .string (strOf m)]] w fun e w' => ∃ a l c, e = .returned (.agg #[.bool false, .slice a l c]) ∧ NV w' false (.slice a l c) ((m : Nat) : Int) 110 ∧ Below w.heap.size w w' := by
 have hz := szn hb
 have := numOf_any false (strOf m) w (by omega) (okn _).1 110 (natOf_lt8 110 (by omega))
 rw [show sgn false (natOf (strOf m)) = ((m : Nat) : Int) from zon _] at this
 refine this.mono (fun e w' h => ?_)
 obtain ⟨v, h1, h2, h3⟩ := h
 obtain ⟨a, l, c, rfl⟩ := h2.slice
 exact ⟨a, l, c, h1, h2, h3⟩
theorem sampI (r : Nat → Rat) (x0 y0 x1 y1 x2 y2 : Rat) {K : Nat} (hK : K ≤ 100) (hb : ∀ k, k < 6 → Bq (r k) K) (b0 : Bq x0 K) (b1 : Bq y0 K) (b2 : Bq x1 K) (b3 : Bq y1 K) (b4 : Bq x2 K) (b5 : Bq y2 K) (w : World) (hT : Tab w) (hP : PTab w) (hA : ((x1 - x0) * (y2 - y0) - (y1 - y0) * (x2 - x0)) ≠ 0) :
  Calls Tryz.prog 41 #[fq6 r, pq x0 y0, pq x1 y1, pq x2 y2] w fun e w' => ∃ g gy c a2 l2 c2 a3 l3 c3, e = .returned (.tuple #[.agg #[.slice (some ⟨g, 0, none⟩) 6 c, .slice (some ⟨gy, 0, none⟩) 3 3, .bool false, .slice a2 l2 c2, .bool false, .slice a3 l3 c3], .int .i64 0]) ∧ Smp r (six x0 x1 x2 y0 y1 y2) ((x1 - x0) * (y2 - y0) - (y1 - y0) * (x2 - x0)) w' g gy c a2 l2 c2 a3 l3 c3 ∧ Below w.heap.size w w' := by
 obtain ⟨tg, fr, ht⟩ := hP.nodes
 have hbA := area_bq x0 y0 x1 y1 x2 y2 hK b0 b1 b2 b3 b4 b5
 have hsx := six_bq x0 y0 x1 y1 x2 y2 b0 b1 b2 b3 b4 b5
 have hn : ((x1 - x0) * (y2 - y0) - (y1 - y0) * (x2 - x0)).num ≠ 0 := fun e => hA (Rat.num_eq_zero.1 e)
 refine (sample_ok _ _ _ _ _ _ _ _ _ _ _ _ _ _ _ _ _ _ _ _ _ _ _ _ _ _ _ _ _ _ _ _ _ _ _ _ (nfZ ((x1 - x0) * (y2 - y0) - (y1 - y0) * (x2 - x0)).num) (sfZ ((x1 - x0) * (y2 - y0) - (y1 - y0) * (x2 - x0)).num) (strOf ((x1 - x0) * (y2 - y0) - (y1 - y0) * (x2 - x0)).den) (zu r 6) (zu (six x0 x1 x2 y0 y1 y2) 6) ((um r 6 : Nat) : Int) ((um (six x0 x1 x2 y0 y1 y2) 6 : Nat) : Int) ((((x1 - x0) * (y2 - y0) - (y1 - y0) * (x2 - x0)).num.natAbs : Nat) : Int) ((((x1 - x0) * (y2 - y0) - (y1 - y0) * (x2 - x0)).den : Nat) : Int) 160 110 w (by omega) (by omega) (emp_sf hn) tg fr ht (chkB r x0 y0 x1 y1 x2 y2 hK hb b0 b1 b2 b3 b4 b5 w hT) (fun w1 b => areaI x0 y0 x1 y1 x2 y2 hK b0 b1 b2 b3 b4 b5 w1 (hT.below b)) (fun w1 b => ?_) (fun w1 B b kl => ?_) (fun w1 => num_nat _ hbA.1.abs (by omega) w1) (fun w1 => num_nat _ hbA.2 (by omega) w1)).mono (fun e w' h => ?_)
 ·refine (cleared_of r hK w1 (hT.below b) hb).mono (fun e w' h => ?_)
  obtain ⟨g, m, v, a, l, c, h1, h2, h3, h4, h5⟩ := h
  exact ⟨g, m, v, a, l, c, h1, h2, h3, h4.mono (by omega), h5⟩
 ·refine (shared_any (some ⟨B, 0, none⟩) 6 6 (six x0 x1 x2 y0 y1 y2) hK (by omega) w1 (hT.below b) (rdq6 (N := fun k => nfZ ((six x0 x1 x2 y0 y1 y2) k).num) (S := fun k => sfZ ((six x0 x1 x2 y0 y1 y2) k).num) (D := fun k => strOf ((six x0 x1 x2 y0 y1 y2) k).den) kl) hsx).mono (fun e w' h => ?_)
  obtain ⟨g, m, v, a, l, c, h0, h1, h2, h3, h4, h5⟩ := h
  exact ⟨g, m, v, a, l, c, h0, h1, h2, h3, h4.mono (by omega), h5⟩
 ·obtain ⟨g, gy, N, Ny, v, vy, c, a2, a3, l2, c2, l3, c3, h1, h2, h3, h4, h5, h6, h7, h8⟩ := h
  exact ⟨g, gy, c, a2, l2, c2, a3, l3, c3, h1, ⟨N, Ny, v, vy, h2, h3, h4, fun q hq => ⟨(h5 q hq).1.mono (by omega), (h5 q hq).2⟩, h6.mono (by omega), h7.mono (by omega)⟩, h8⟩
theorem intI (r : Nat → Rat) (x0 y0 x1 y1 x2 y2 : Rat) {K : Nat} (hK : K ≤ 100) (hb : ∀ k, k < 6 → Bq (r k) K) (b0 : Bq x0 K) (b1 : Bq y0 K) (b2 : Bq x1 K) (b3 : Bq y1 K) (b4 : Bq x2 K) (b5 : Bq y2 K) (w : World) (hT : Tab w) (hP : PTab w) (hA : ((x1 - x0) * (y2 - y0) - (y1 - y0) * (x2 - x0)) ≠ 0) {x : Rat} (hx : rabs ((x1 - x0) * (y2 - y0) - (y1 - y0) * (x2 - x0)) * lsum inW (Fn r (six x0 x1 x2 y0 y1 y2)) * Rat.divInt 1 (120 : Nat) = x) :
  Calls Tryz.prog 15 #[fq6 r, pq x0 y0, pq x1 y1, pq x2 y2] w (Ra w (.tuple #[rq x, .int .i64 0])) := by
 obtain ⟨tg, fr, ht⟩ := hP.ints
 have hl := Lns.of hK hb (six_bq x0 y0 x1 y1 x2 y2 b0 b1 b2 b3 b4 b5) (area_bq x0 y0 x1 y1 x2 y2 hK b0 b1 b2 b3 b4 b5)
 exact pint_ok _ _ _ _ _ _ _ _ _ _ _ _ _ _ _ _ _ _ _ _ _ _ _ _ _ _ _ _ _ _ _ _ _ _ _ _ _ _ _ w tg fr ht (Smp r (six x0 x1 x2 y0 y1 y2) ((x1 - x0) * (y2 - y0) - (y1 - y0) * (x2 - x0))) Smp.below (fun w1 b => sampI r x0 y0 x1 y1 x2 y2 hK hb b0 b1 b2 b3 b4 b5 w1 (hT.below b) (hP.below b) hA) (fun w1 B g gy c a2 l2 c2 a3 l3 c3 b sp kw => linI r (six x0 x1 x2 y0 y1 y2) ((x1 - x0) * (y2 - y0) - (y1 - y0) * (x2 - x0)) inW hl (by decide) w1 (hT.below b) B g gy c a2 l2 c2 a3 l3 c3 sp kw hx)
theorem squI (r : Nat → Rat) (x0 y0 x1 y1 x2 y2 : Rat) {K : Nat} (hK : K ≤ 100) (hb : ∀ k, k < 6 → Bq (r k) K) (b0 : Bq x0 K) (b1 : Bq y0 K) (b2 : Bq x1 K) (b3 : Bq y1 K) (b4 : Bq x2 K) (b5 : Bq y2 K) (w : World) (hT : Tab w) (hP : PTab w) (hA : ((x1 - x0) * (y2 - y0) - (y1 - y0) * (x2 - x0)) ≠ 0) {x : Rat} (hx : rabs ((x1 - x0) * (y2 - y0) - (y1 - y0) * (x2 - x0)) * qs (Fn r (six x0 x1 x2 y0 y1 y2)) * Rat.divInt 1 (360 : Nat) = x) :
  Calls Tryz.prog 17 #[fq6 r, pq x0 y0, pq x1 y1, pq x2 y2] w (Ra w (.tuple #[rq x, .int .i64 0])) := by
 have hl := Lns.of hK hb (six_bq x0 y0 x1 y1 x2 y2 b0 b1 b2 b3 b4 b5) (area_bq x0 y0 x1 y1 x2 y2 hK b0 b1 b2 b3 b4 b5)
 exact psqu_ok _ _ _ _ _ _ _ _ _ _ _ _ _ _ _ _ _ _ _ _ _ _ _ _ _ _ _ _ _ _ _ _ _ _ _ _ _ _ _ w (Smp r (six x0 x1 x2 y0 y1 y2) ((x1 - x0) * (y2 - y0) - (y1 - y0) * (x2 - x0))) Smp.below (fun w1 b => sampI r x0 y0 x1 y1 x2 y2 hK hb b0 b1 b2 b3 b4 b5 w1 (hT.below b) (hP.below b) hA) (fun w1 g gy c a2 l2 c2 a3 l3 c3 b sp => sqrI r (six x0 x1 x2 y0 y1 y2) ((x1 - x0) * (y2 - y0) - (y1 - y0) * (x2 - x0)) hl w1 (hT.below b) (hP.below b) g gy c a2 l2 c2 a3 l3 c3 sp hx)
theorem int_flat (r : Nat → Rat) (x0 y0 x1 y1 x2 y2 : Rat) {K : Nat} (hK : K ≤ 100) (hb : ∀ k, k < 6 → Bq (r k) K) (b0 : Bq x0 K) (b1 : Bq y0 K) (b2 : Bq x1 K) (b3 : Bq y1 K) (b4 : Bq x2 K) (b5 : Bq y2 K) (w : World) (hT : Tab w) (hA : ((x1 - x0) * (y2 - y0) - (y1 - y0) * (x2 - x0)) = 0) :
  Calls Tryz.prog 15 #[fq6 r, pq x0 y0, pq x1 y1, pq x2 y2] w (Ra w (.tuple #[.agg #[.bool false, .string { data := #[] }, .string { data := #[] }], .int .i64 6])) :=
 pint_bad _ _ _ _ _ _ _ _ _ _ _ _ _ _ _ _ _ _ _ _ _ _ _ _ _ _ _ _ _ _ _ _ _ _ _ _ 6 w (by omega) (fun w1 b => samp_flat r x0 y0 x1 y1 x2 y2 hK hb b0 b1 b2 b3 b4 b5 w1 (hT.below b) hA)
theorem lod_flat (r : Nat → Rat) (x0 y0 x1 y1 x2 y2 : Rat) {K : Nat} (hK : K ≤ 100) (hb : ∀ k, k < 6 → Bq (r k) K) (b0 : Bq x0 K) (b1 : Bq y0 K) (b2 : Bq x1 K) (b3 : Bq y1 K) (b4 : Bq x2 K) (b5 : Bq y2 K) (w : World) (hT : Tab w) (hA : ((x1 - x0) * (y2 - y0) - (y1 - y0) * (x2 - x0)) = 0) :
  Calls Tryz.prog 16 #[fq6 r, pq x0 y0, pq x1 y1, pq x2 y2] w (Ra w (.tuple #[.agg #[.bool false, .string { data := #[] }, .string { data := #[] }, .bool false, .string { data := #[] }, .string { data := #[] }, .bool false, .string { data := #[] }, .string { data := #[] }], .int .i64 6])) :=
 plod_bad _ _ _ _ _ _ _ _ _ _ _ _ _ _ _ _ _ _ _ _ _ _ _ _ _ _ _ _ _ _ _ _ _ _ _ _ 6 w (by omega) (fun w1 b => samp_flat r x0 y0 x1 y1 x2 y2 hK hb b0 b1 b2 b3 b4 b5 w1 (hT.below b) hA)
theorem fq6_int (l : Nat → Int) : fq6 (fun k => ((l k : Int) : Rat)) = .agg #[.bool (nfZ (l 0)), .string (sfZ (l 0)), .string ⟨#[1]⟩, .bool (nfZ (l 1)), .string (sfZ (l 1)), .string ⟨#[1]⟩, .bool (nfZ (l 2)), .string (sfZ (l 2)), .string ⟨#[1]⟩, .bool (nfZ (l 3)), .string (sfZ (l 3)), .string ⟨#[1]⟩, .bool (nfZ (l 4)), .string (sfZ (l 4)), .string ⟨#[1]⟩, .bool (nfZ (l 5)), .string (sfZ (l 5)), .string ⟨#[1]⟩] := by
 have e : strOf 1 = ⟨#[1]⟩ := by decide +kernel
 simp only [fq6, Rat.num_intCast, Rat.den_intCast, e]
def l1 (k : Nat) : Int := match k with | 1 => 1 | _ => 0
def l2 (k : Nat) : Int := match k with | 0 => 1 | _ => 0
theorem bl_l1 : ∀ k, k < 6 → Bq ((l1 k : Int) : Rat) 1 := fun k _ => bq_int _ (by unfold l1; split <;> omega) (by unfold l1; split <;> omega)
theorem bl_l2 : ∀ k, k < 6 → Bq ((l2 k : Int) : Rat) 1 := fun k _ => bq_int _ (by unfold l2; split <;> omega) (by unfold l2; split <;> omega)
theorem frac7I (N M : Int) (h1 : 0 < M) (h2 : M ≤ 1000) (h3 : 0 ≤ N) (h4 : N ≤ 1000) (w : World) : Calls Tryz.prog 27 #[.int .i64 N, .int .i64 M] w (Re w (rq (Rat.divInt N M))) := by
 have bb : ∀ z : Int, 0 ≤ z → z ≤ 1000 → Bd z 2 := fun z a b => by unfold Bd; omega
 refine frac6_walk N M (nfZ N) (nfZ M) (sfZ N) (sfZ M) _ _ _ w (fun w1 _ => rof_any N (by omega) (by omega) w1) (fun w1 _ => rof_any M (by omega) (by omega) w1) (fun w1 _ => ?_)
 have := low_any (nfZ N) (nfZ M) (sfZ N) (sfZ M) w1 (okZ_nz N) (okZ_nz M) (Nat.le_trans (bd_sf (bb N h3 (by omega))) (by omega)) (Nat.le_trans (bd_sf (bb M (by omega) h2)) (by omega)) (by rw [natOf_sfZ]; omega)
 rw [zOf_nz, zOf_nz] at this
 exact this
theorem live7_any (w : World) (hT : Tab w) (hP : PTab w) : Calls Tryz.prog 9 #[] w (Re w (.bool true)) := by
 refine live7_walk (nfZ 0) (nfZ 0) (nfZ 2) (nfZ 0) (nfZ 0) (nfZ 2) (nfZ 1) (nfZ 0) (nfZ 0) (nfZ 1) (nfZ (l1 0)) (nfZ (l1 1)) (nfZ (l1 2)) (nfZ (l1 3)) (nfZ (l1 4)) (nfZ (l1 5)) (nfZ (l2 0)) (nfZ (l2 1)) (nfZ (l2 2)) (nfZ (l2 3)) (nfZ (l2 4)) (nfZ (l2 5)) (sfZ 0) ⟨#[1]⟩ (sfZ 0) ⟨#[1]⟩ (sfZ 2) ⟨#[1]⟩ (sfZ 0) ⟨#[1]⟩ (sfZ 0) ⟨#[1]⟩ (sfZ 2) ⟨#[1]⟩ (sfZ 1) ⟨#[1]⟩ (sfZ 0) ⟨#[1]⟩ (sfZ 0) ⟨#[1]⟩ (sfZ 1) ⟨#[1]⟩ (sfZ (l1 0)) ⟨#[1]⟩ (sfZ (l1 1)) ⟨#[1]⟩ (sfZ (l1 2)) ⟨#[1]⟩ (sfZ (l1 3)) ⟨#[1]⟩ (sfZ (l1 4)) ⟨#[1]⟩ (sfZ (l1 5)) ⟨#[1]⟩ (sfZ (l2 0)) ⟨#[1]⟩ (sfZ (l2 1)) ⟨#[1]⟩ (sfZ (l2 2)) ⟨#[1]⟩ (sfZ (l2 3)) ⟨#[1]⟩ (sfZ (l2 4)) ⟨#[1]⟩ (sfZ (l2 5)) ⟨#[1]⟩ (nfZ (Rat.divInt 4 3).num) (nfZ (Rat.divInt 1 12).num) (sfZ (Rat.divInt 4 3).num) (strOf (Rat.divInt 4 3).den) (sfZ (Rat.divInt 1 12).num) (strOf (Rat.divInt 1 12).den) w ?_ ?_ ?_ ?_ ?_ ?_ ?_ ?_ ?_ ?_ ?_ ?_
 ·exact fun w1 => lat7_any 0 0 (by omega) (by omega) (by omega) (by omega) w1
 ·exact fun w1 => lat7_any 2 0 (by omega) (by omega) (by omega) (by omega) w1
 ·exact fun w1 => lat7_any 0 2 (by omega) (by omega) (by omega) (by omega) w1
 ·exact fun w1 => lat7_any 1 0 (by omega) (by omega) (by omega) (by omega) w1
 ·exact fun w1 => lat7_any 0 1 (by omega) (by omega) (by omega) (by omega) w1
 ·exact fun w1 => small7_walk l1 w1 (fun k w2 hk => roq_any _ (by unfold l1; split <;> omega) (by unfold l1; split <;> omega) w2)
 ·exact fun w1 => small7_walk l2 w1 (fun k w2 hk => roq_any _ (by unfold l2; split <;> omega) (by unfold l2; split <;> omega) w2)
 ·exact fun w1 => frac7I 4 3 (by omega) (by omega) (by omega) (by omega) w1
 ·exact fun w1 => frac7I 1 12 (by omega) (by omega) (by omega) (by omega) w1
 ·intro w1 b
  have := intI (fun k => ((l1 k : Int) : Rat)) ((0 : Int) : Rat) ((0 : Int) : Rat) ((2 : Int) : Rat) ((0 : Int) : Rat) ((0 : Int) : Rat) ((2 : Int) : Rat) (by omega : 1 ≤ 100) (bl_l1) (bq_int 0 (by omega) (by omega)) (bq_int 0 (by omega) (by omega)) (bq_int 2 (by omega) (by omega)) (bq_int 0 (by omega) (by omega)) (bq_int 0 (by omega) (by omega)) (bq_int 2 (by omega) (by omega)) w1 (hT.below b) (hP.below b) (by decide +kernel) (x := (Rat.divInt 4 3)) (by decide +kernel)
  simp only [pq_int, fq6_int] at this
  exact this
 ·intro w1 b
  have := squI (fun k => ((l1 k : Int) : Rat)) ((0 : Int) : Rat) ((0 : Int) : Rat) ((1 : Int) : Rat) ((0 : Int) : Rat) ((0 : Int) : Rat) ((1 : Int) : Rat) (by omega : 1 ≤ 100) (bl_l1) (bq_int 0 (by omega) (by omega)) (bq_int 0 (by omega) (by omega)) (bq_int 1 (by omega) (by omega)) (bq_int 0 (by omega) (by omega)) (bq_int 0 (by omega) (by omega)) (bq_int 1 (by omega) (by omega)) w1 (hT.below b) (hP.below b) (by decide +kernel) (x := (Rat.divInt 1 12)) (by decide +kernel)
  simp only [pq_int, fq6_int] at this
  exact this
 ·intro w1 b
  have := lod_flat (fun k => ((l2 k : Int) : Rat)) ((0 : Int) : Rat) ((0 : Int) : Rat) ((1 : Int) : Rat) ((0 : Int) : Rat) ((2 : Int) : Rat) ((0 : Int) : Rat) (by omega : 1 ≤ 100) (bl_l2) (bq_int 0 (by omega) (by omega)) (bq_int 0 (by omega) (by omega)) (bq_int 1 (by omega) (by omega)) (bq_int 0 (by omega) (by omega)) (bq_int 2 (by omega) (by omega)) (bq_int 0 (by omega) (by omega)) w1 (hT.below b) (by decide +kernel)
  simp only [pq_int, fq6_int] at this
  exact this
theorem sh7_sz {s d : ByteArray} (h : sh7 s d = true) : s.size ≤ 30 ∧ d.size ≤ 30 := by
 unfold sh7 at h
 exact of_decide_eq_true h
theorem few_p (N : Nat → Bool) (S D : Nat → ByteArray) (p0 p1 : Bool) (q0 r0 q1 r1 : ByteArray) (w1 : World) : Calls Tryz.prog 8 #[.agg #[.bool (N 0), .string (S 0), .string (D 0), .bool (N 1), .string (S 1), .string (D 1), .bool (N 2), .string (S 2), .string (D 2), .bool (N 3), .string (S 3), .string (D 3), .bool (N 4), .string (S 4), .string (D 4), .bool (N 5), .string (S 5), .string (D 5)], .agg #[.bool p0, .string q0, .string r0, .bool p1, .string q1, .string r1, .bool p0, .string q0, .string r0, .bool p1, .string q1, .string r1, .bool p0, .string q0, .string r0, .bool p1, .string q1, .string r1]] w1 (Re w1 (.bool (allB (fun k => sh7 (S k) (D k)) 6 && allB (fun _ => sh7 q0 r0 && sh7 q1 r1) 3))) :=
 few7_any N (fun _ => p0) (fun _ => p1) S D (fun _ => q0) (fun _ => r0) (fun _ => q1) (fun _ => r1) w1
theorem first1p (c : Nat) : firstE (fun _ : Nat => c) 1 = c := by
 unfold firstE
 rw [if_pos (show firstE _ 0 = 0 from rfl)]
theorem values7_law (N : Nat → Bool) (S D : Nat → ByteArray) (p0 p1 : Bool) (q0 r0 q1 r1 : ByteArray) (w : World) (hT : Tab w) (hP : PTab w) :
  Calls Tryz.prog 3 #[.agg #[.bool (N 0), .string (S 0), .string (D 0), .bool (N 1), .string (S 1), .string (D 1), .bool (N 2), .string (S 2), .string (D 2), .bool (N 3), .string (S 3), .string (D 3), .bool (N 4), .string (S 4), .string (D 4), .bool (N 5), .string (S 5), .string (D 5)], .agg #[.bool p0, .string q0, .string r0, .bool p1, .string q1, .string r1]] w (Re w (.bool true)) := by
 have HL : ∀ w1, Below w.heap.size w w1 → _ := fun w1 b => live7_any w1 (hT.below b) (hP.below b)
 cases hb : (allB (fun k => sh7 (S k) (D k)) 6 && allB (fun _ => sh7 q0 r0 && sh7 q1 r1) 3) with
 | false =>
  refine values_l N S D p0 p1 q0 r0 q1 r1 w (fun w1 b => ?_) HL
  have := few_p N S D p0 p1 q0 r0 q1 r1 w1
  rw [hb] at this
  exact this
 | true =>
  have HF : ∀ w1, Below w.heap.size w w1 → Calls Tryz.prog 8 #[.agg #[.bool (N 0), .string (S 0), .string (D 0), .bool (N 1), .string (S 1), .string (D 1), .bool (N 2), .string (S 2), .string (D 2), .bool (N 3), .string (S 3), .string (D 3), .bool (N 4), .string (S 4), .string (D 4), .bool (N 5), .string (S 5), .string (D 5)], .agg #[.bool p0, .string q0, .string r0, .bool p1, .string q1, .string r1, .bool p0, .string q0, .string r0, .bool p1, .string q1, .string r1, .bool p0, .string q0, .string r0, .bool p1, .string q1, .string r1]] w1 (Re w1 (.bool true)) := fun w1 b => by
   have := few_p N S D p0 p1 q0 r0 q1 r1 w1
   rw [hb] at this
   exact this
  rw [Bool.and_eq_true] at hb
  have zf : ∀ k, k < 6 → (S k).size ≤ 30 ∧ (D k).size ≤ 30 := fun k hk => sh7_sz (allB_all hb.1 k hk)
  have zp := allB_all hb.2 0 (by omega)
  rw [Bool.and_eq_true] at zp
  have z0 := sh7_sz zp.1
  have z1 := sh7_sz zp.2
  have zf' : ∀ k, k < 6 → (S k).size ≤ 100 ∧ (D k).size ≤ 100 := fun k hk => ⟨by have := (zf k hk).1; omega, by have := (zf k hk).2; omega⟩
  have z0' : q0.size ≤ 100 ∧ r0.size ≤ 100 := ⟨by omega, by omega⟩
  have z1' : q1.size ≤ 100 ∧ r1.size ≤ 100 := ⟨by omega, by omega⟩
  have HR : ∀ w1, Below w.heap.size w w1 → _ := fun w1 (_ : Below w.heap.size w w1) => rcheck7 N S D w1 zf'
  have HC : ∀ w1, Below w.heap.size w w1 → _ := fun w1 b => pCheck_any N S D w1 (hT.below b) zf'
  have HA : ∀ w1 B, Below w.heap.size w w1 → Cel w1 B [.bool p0, .string q0, .string r0, .bool p1, .string q1, .string r1] 30 → _ := fun w1 B (_ : Below w.heap.size w w1) kl => asked7 (some ⟨B, 0, none⟩) 1 1 _ _ _ _ _ _ w1 (by omega) (rdpt_1p kl) (fun k _ => ⟨z0', z1'⟩)
  have HK : ∀ w1 B, Below w.heap.size w w1 → Cel w1 B [.bool p0, .string q0, .string r0, .bool p1, .string q1, .string r1] 30 → _ := fun w1 B b kl => pcheck_any N S D (some ⟨B, 0, none⟩) 1 1 _ _ _ _ _ _ w1 (hT.below b) (by omega) (rdpt_1p kl) zf' (fun k _ => ⟨z0', z1'⟩)
  by_cases h1 : firstE (fun k => chkq (N k) (S k) (D k)) 6 = 0
  ·rw [h1] at HR HC HK
   by_cases h2 : two (chkq p0 q0 r0) (chkq p1 q1 r1) = 0
   ·rw [first1p, h2] at HA
    have hq : ∀ k, k < 6 → chkq (N k) (S k) (D k) = 0 := fun k hk => by
     rcases Nat.eq_zero_or_pos (chkq (N k) (S k) (D k)) with q | q
     ·exact q
     ·exfalso
      have : ∀ n, n ≤ 6 → k < n → firstE (fun k => chkq (N k) (S k) (D k)) n ≠ 0 := fun n hn hkn => by
       induction n with
       | zero => omega
       | succ n ih =>
        unfold firstE
        split
        ·rename_i hz
         rcases Nat.lt_or_ge k n with q' | q'
         ·exact absurd hz (ih (by omega) q')
         ·obtain rfl : k = n := by omega
          omega
        ·assumption
      exact this 6 (by omega) hk h1
    obtain ⟨y0, c0, d0, e0, f0⟩ := canon (hq 0 (by omega)) (zf 0 (by omega))
    obtain ⟨y1, c1, d1, e1, f1⟩ := canon (hq 1 (by omega)) (zf 1 (by omega))
    obtain ⟨y2, c2, d2, e2, f2⟩ := canon (hq 2 (by omega)) (zf 2 (by omega))
    obtain ⟨y3, c3, d3, e3, f3⟩ := canon (hq 3 (by omega)) (zf 3 (by omega))
    obtain ⟨y4, c4, d4, e4, f4⟩ := canon (hq 4 (by omega)) (zf 4 (by omega))
    obtain ⟨y5, c5, d5, e5, f5⟩ := canon (hq 5 (by omega)) (zf 5 (by omega))
    obtain ⟨x, bx, rfl, rfl, rfl⟩ := canon (two_zero.1 h2).1 z0
    obtain ⟨y, bY, rfl, rfl, rfl⟩ := canon (two_zero.1 h2).2 z1
    have hr : ∀ k, k < 6 → Bq (six y0 y1 y2 y3 y4 y5 k) 30 := fun k hk => by
     match k, hk with
     | 0, _ => exact c0
     | 1, _ => exact c1
     | 2, _ => exact c2
     | 3, _ => exact c3
     | 4, _ => exact c4
     | 5, _ => exact c5
    rw [d0, e0, f0, d1, e1, f1, d2, e2, f2, d3, e3, f3, d4, e4, f4, d5, e5, f5] at HF HR HC ⊢
    exact values_ok (fun k => nfZ (six y0 y1 y2 y3 y4 y5 k).num) (fun k => sfZ (six y0 y1 y2 y3 y4 y5 k).num) (fun k => strOf (six y0 y1 y2 y3 y4 y5 k).den) _ _ _ _ _ _ _ _ _ w HF HL (fun w1 b => evalI (six y0 y1 y2 y3 y4 y5) x y (K := 30) (by omega) hr bx bY w1 (hT.below b)) HR HC HA (fun w1 _ => revalI (six y0 y1 y2 y3 y4 y5) x y (K := 30) (K' := 30) (by omega) (by omega) hr bx bY w1)
   ·refine values_b2 N S D p0 p1 q0 r0 q1 r1 ((two (chkq p0 q0 r0) (chkq p1 q1 r1) : Nat) : Int) (by omega) w HF HL (fun w1 b => ?_) HR HC (fun w1 B b kl => by have := HA w1 B b kl; rw [first1p] at this; exact this)
    refine pevl_bad _ _ _ _ _ _ _ _ _ _ _ _ _ _ _ _ _ _ _ _ _ _ _ _ _ w1 (by omega) (fun w2 B b2 kl => ?_)
    have := HK w2 B (Below.after b b2) kl
    rw [first1p] at this
    exact this
  ·refine values_b1 N S D p0 p1 q0 r0 q1 r1 ((firstE (fun k => chkq (N k) (S k) (D k)) 6 : Nat) : Int) (by omega) w HF HL (fun w1 b => ?_) HR HC
   refine pevl_bad _ _ _ _ _ _ _ _ _ _ _ _ _ _ _ _ _ _ _ _ _ _ _ _ _ w1 (by omega) (fun w2 B b2 kl => ?_)
   have := HK w2 B (Below.after b b2) kl
   rw [show two (firstE (fun k => chkq (N k) (S k) (D k)) 6) (firstE (fun _ : Nat => two (chkq p0 q0 r0) (chkq p1 q1 r1)) 1) = firstE (fun k => chkq (N k) (S k) (D k)) 6 by unfold two; rw [if_neg h1]] at this
   exact this
end Go.Proofs.YtphpoknionnnfaaGreatDoor
