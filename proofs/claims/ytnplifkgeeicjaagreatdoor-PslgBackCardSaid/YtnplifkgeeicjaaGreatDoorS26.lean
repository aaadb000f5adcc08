/-
  Package whole: times, turn; rows in blocks of whatever type.
  Package whole: the leading limbs of a row.
  Rational numbers as they are told: a sign, bytes above, bytes below. What numbers of so many bytes come to; numbers behind names.
  Package whole: few of Euclid's steps.
  Package whole: Div.
  Package whole: steps after steps; whether there are none.
  Package whole: the steps taken.
  Package whole: Div of numbers that may be.
  The decimal text of a number; gussetref02: Text.
  Package whole: Of.
  gussetref02: make0, Of.
  Package gussetref01: half.
  gussetref02: Check, Both, Negate; what gussetref01 tells of digits, by their values.
  Package whole: Mul.
  gussetref02: Sum.
  Package whole: Add.
  Package whole: read of one number; powersUpTo of one limb.
-/
import Derived.Test.YtnplifkgeeicjaaGreatDoorS11
import Derived.Test.YtnplifkgeeicjaaGreatDoorS21
import Derived.Test.YtnplifkgeeicjaaGreatDoorS22
import Derived.Test.YtnplifkgeeicjaaGreatDoorS24
import Derived.Test.YtnplifkgeeicjaaGreatDoorS25
set_option maxRecDepth 100000
set_option maxHeartbeats 4000000
namespace Go.Proofs.YtnplifkgeeicjaaGreatDoor
open Go.RowKit
def Bk (w : World) (g : Nat) (ys : List Nat) (t : TypeId) : Prop := w.heap[g]? = some (.cells (cellsOf ys) t (0, 0))
theorem Bk.lt {w : World} {g : Nat} {ys : List Nat} {t : TypeId} (h : Bk w g ys t) : g < w.heap.size := by
 unfold Bk at h
 by_cases hg : g < w.heap.size
 ·exact hg
 ·rw [Array.getElem?_eq_none (by omega)] at h; cases h
theorem Bk.cell {w : World} {g : Nat} {ys : List Nat} {t : TypeId} (h : Bk w g ys t) {j : Nat} (hj : j < ys.length) : w.cell? ⟨g, j, none⟩ = some (.int .u64 (lm ys j : Nat)) := by
 unfold Bk at h
 simp [World.cell?, h, cellsOf, lm, hj]
theorem Bk.frozen {w : World} {g : Nat} {ys : List Nat} {t : TypeId} (h : Bk w g ys t) (j : Nat) : w.frozen? ⟨g, j, none⟩ = false := by
 unfold Bk at h
 simp [World.frozen?, h]
theorem Bk.set {w : World} {g : Nat} {ys : List Nat} {t : TypeId} (h : Bk w g ys t) (j x : Nat) : Bk (w.setCell ⟨g, j, none⟩ (.int .u64 (x : Nat))) g (ys.set j x) t := by
 unfold Bk at h ⊢
 simp [World.setCell, Array.getElem?_modify, h, cellsOf]
theorem Bk.other {w : World} {g g' : Nat} {ys : List Nat} {t : TypeId} (h : Bk w g ys t) (hn : g ≠ g') (j : Nat) (v : Value) : Bk (w.setCell ⟨g', j, none⟩ v) g ys t := by
 unfold Bk at h ⊢
 rw [Below.heap_setCell _ _ _ _ (by exact hn)]; exact h
theorem Bk.below {w w' : World} {g : Nat} {ys : List Nat} {t : TypeId} (h : Bk w g ys t) (hb : Below w.heap.size w w') : Bk w' g ys t := by
 have := h.lt
 unfold Bk at h ⊢
 rw [hb.block g this]; exact h
theorem Bk.only {w w' : World} {g g' : Nat} {ys : List Nat} {t : TypeId} (h : Bk w g ys t) (k : Only g' w w') (hn : g ≠ g') : Bk w' g ys t := by
 unfold Bk at *; rw [k.block g hn]; exact h
theorem Bk.rd {w : World} {g : Nat} {ys q : List Nat} {t : TypeId} (h : Bk w g (ys ++ q) t) (cap : Nat) (hc : ys.length ≤ cap) : Rd w (.slice (some ⟨g, 0, none⟩) ys.length cap) ys := by
 refine ⟨_, cap, rfl, hc, fun j hj => ⟨g, 0, rfl, ?_⟩⟩
 rw [Nat.zero_add, h.cell (by simp; omega)]
 unfold lm
 rw [List.getD_eq_getElem?_getD, List.getD_eq_getElem?_getD, List.getElem?_append_left hj]
def tLo (x f m : Nat) : Nat := sum64 (mulLo x f) m 0
def tHi (x f m : Nat) : Nat := mulHi x f + car64 (mulLo x f) m 0
theorem t_facts {x f m : Nat} (hx : x < B64) (hf : f < B64) (hm : m < B64) : tHi x f m < B64 ∧ tLo x f m < B64 ∧ tLo x f m + B64 * tHi x f m = x * f + m := by
 have hp : x * f ≤ 18446744073709551615 * 18446744073709551615 := Nat.mul_le_mul (by unfold B64 at hx; omega) (by unfold B64 at hf; omega)
 unfold tHi tLo mulHi mulLo sum64 car64
 unfold B64 at *
 generalize x * f = P at *
 refine ⟨by omega, by omega, by omega⟩
theorem times_any (x f m : Nat) (hx : x < B64) (hf : f < B64) (hm : m < B64) (w : World) :
  Calls Tryz.prog 237 #[.int .u64 (x : Nat), .int .u64 (f : Nat), .int .u64 (m : Nat)] w fun e w' => e = .returned (.tuple #[.int .u64 (tLo x f m : Nat), .int .u64 (tHi x f m : Nat)]) ∧ w' = w := by
 have f1 := (t_facts hx hf hm).1
 unfold B64 at f1
 unfold tHi at f1
 go_enter Tryz.func237, Tryz.ntmps237
 go_wp2_with fail
 refine (mul64_any x f hx hf _).mono ?_
 rintro e w' ⟨rfl, rfl⟩
 go_wp2_with (first | simp only [add64_0 (mulLo x f) m])
 go_ret2
 exact ⟨by simp only [tLo, tHi, Int.natCast_add]; rfl, rfl⟩
def TuAt (s d : List Nat) (k c : Nat) : Prop := d.length = k ∧ M.Low B64 d ∧ c ≤ 1 ∧ M.val B64 d + M.val B64 (s.take k) = B64 ^ k * c
theorem TuAt.step {s d : List Nat} {k c : Nat} (ls : M.Low B64 s) (h : TuAt s d k c) : TuAt s (d ++ [dif64 0 (lm s k) c]) (k + 1) (bor64 0 (lm s k) c) := by
 obtain ⟨h1, h2, h3, h4⟩ := h
 have hl := lm_lt B64_pos ls k
 have f1 : dif64 0 (lm s k) c < B64 := by unfold dif64 B64; omega
 have f2 : bor64 0 (lm s k) c ≤ 1 := by unfold bor64; split <;> omega
 have f3 : dif64 0 (lm s k) c + lm s k + c = B64 * bor64 0 (lm s k) c := by
  unfold dif64 bor64
  unfold B64 at *
  split <;> omega
 refine ⟨by simp [h1], h2.snoc f1, f2, ?_⟩
 rw [M.val_snoc, h1, M.val_take_succ, Nat.pow_succ]
 have e : B64 ^ k * (dif64 0 (lm s k) c + lm s k + c) = B64 ^ k * (B64 * bor64 0 (lm s k) c) := by rw [f3]
 simp only [Nat.mul_add, ← Nat.mul_assoc] at e
 show _ + (_ + B64 ^ k * lm s k) = _
 omega
theorem sub64_x0 (y c : Nat) (hc : c ≤ 1) (w : World) : (callFunc 178 #[.int .u64 0, .int .u64 (y : Nat), .int .u64 (c : Nat)]).run Tryz.prog w =
  .ok (.value (.tuple #[.int .u64 (dif64 0 y c : Nat), .int .u64 (bor64 0 y c : Nat)])) w := sub64 0 y c hc w
theorem turn_any (g : Nat) (t : TypeId) (s q : List Nat) (cap : Nat) (w : World) (hb : Bk w g (s ++ q) t) (ls : M.Low B64 s) (hm : s.length ≤ 1000000) (h0 : M.val B64 s ≠ 0) :
  Calls Tryz.prog 238 #[.slice (some ⟨g, 0, none⟩) s.length cap] w fun e w' => ∃ (s' : List Nat), e = .returned (.tuple #[]) ∧ Bk w' g (s' ++ q) t ∧ s'.length = s.length ∧ M.Low B64 s' ∧
   M.val B64 s' + M.val B64 s = B64 ^ s.length ∧ Only g w w' := by
 have H0 : Hid (M.val B64 s ≠ 0) := h0
 clear h0
 go_enter Tryz.func238, Tryz.ntmps238
 go_wp2
 go_loopw [2, 7] (fun c i wr => ∃ (k cc : Nat) (d : List Nat), k ≤ s.length ∧ i = .int .i64 k ∧ c = .int .u64 cc ∧ TuAt s d k cc ∧ Bk wr g ([] ++ d ++ s.drop k ++ q) t ∧ Only g w wr) (fun _ i _ => s.length - (intOf i).toNat)
 case atStart => exact ⟨0, 0, [], by omega, rfl, rfl, ⟨rfl, M.Low.nil _, by omega, by simp [M.val]⟩, by simpa using hb, Only.refl _ _⟩
 case round =>
  obtain ⟨k, cc, d, hk, rfl, rfl, hat, hblk, hon⟩ := hrel
  have hdl : d.length = k := hat.1
  have hcc : cc ≤ 1 := hat.2.2.1
  by_cases hlt : k < s.length
  ·rw [drop_lm s k hlt] at hblk
   have hc1 := hblk.cell (j := k) (by simp; omega)
   have hf1 := hblk.frozen k
   have em := lm_mid [] d (s.drop (k + 1)) q (lm s k)
   rw [List.length_nil, Nat.zero_add, hdl] at em
   rw [em] at hc1
   have hset := hblk.set k (dif64 0 (lm s k) cc)
   have es := set_mid [] d (s.drop (k + 1)) q (lm s k) (dif64 0 (lm s k) cc)
   rw [List.length_nil, Nat.zero_add, hdl] at es
   rw [es] at hset
   have HST : Hid (TuAt s (d ++ [dif64 0 (lm s k) cc]) (k + 1) (bor64 0 (lm s k) cc)) := hat.step ls
   have HB := shut hset
   have hks : (k : Int) < s.length := by omega
   clear hset es em
   go_wp2_with (simp only [sub64_x0 (lm s k) cc hcc])
   exact ⟨⟨k + 1, _, _, by omega, by go_num, rfl, HST.out, HB.out, hon.setCell _ _⟩, by simp [intOf]; omega⟩
  ·have hke : k = s.length := by omega
   rw [List.drop_of_length_le (by omega), List.append_nil, List.nil_append] at hblk
   obtain ⟨h1, h2, h3, h4⟩ := hat
   rw [M.val_take_all _ _ _ (by omega), hke] at h4
   have h4' : M.val B64 d + M.val B64 s = B64 ^ s.length := by
    have := H0.out
    rcases (show cc = 0 ∨ cc = 1 by omega) with e | e
    ·rw [e, Nat.mul_zero] at h4; omega
    ·rwa [e, Nat.mul_one] at h4
   have H4 := shut h4'
   have HD : Hid (d.length = s.length) := by rw [← hke]; exact h1
   clear h4 h4' h1 hke hdl
   go_wp2
   go_end0
   exact ⟨d, rfl, hblk, HD.out, h2, H4.out, hon⟩
open Go.RowKit
namespace M
theorem lead {b t z P L x0 x1 x2 : Nat} (hb : b = t * z) (ht : 0 < t) (hz0 : 0 < z) (hP : 0 < P) (hL : L < P) : (L + P * x0 + P * b * x1 + P * b * b * x2) * t / (P * b) = x0 / z + x1 * t + b * (x2 * t) := by
 have hz : P * b = t * (P * z) := by rw [hb]; grind
 have e : (L + P * x0 + P * b * x1 + P * b * b * x2) * t = (L + P * x0) * t + P * b * (x1 * t + b * (x2 * t)) := by grind
 have hb0 : 0 < P * b := by rw [hz]; exact Nat.mul_pos ht (Nat.mul_pos hP hz0)
 rw [e, Nat.add_mul_div_left _ _ hb0]
 have e2 : (L + P * x0) * t / (P * b) = x0 / z := by
  rw [hz, Nat.mul_comm _ t, Nat.mul_div_mul_left _ _ ht, ← Nat.div_div_eq_div_mul, Nat.add_mul_div_left _ _ hP, Nat.div_eq_of_lt hL, Nat.zero_add]
 rw [e2]
 omega
end M
theorem or_swap (c x s : Nat) (hs : s ≤ 63) (hx : x < B64) (hc : c < 2 ^ s) : bits .or .u64 ((shLo x s : Nat) : Int) (c : Int) = ((shO c x s : Nat) : Int) := by
 obtain ⟨-, -, -, f4, hc'⟩ := sh_facts hs hx hc
 have hlow : shLo x s < 18446744073709551616 := Nat.mod_lt _ (by omega)
 rw [← f4, bits_or_u64_nat _ _ hc' hlow, bits_or_u64_nat _ _ hlow hc', Nat.or_comm]
theorem post_a2 {fn : Func} {p : Tmp} {R : Ending → World → Prop} {a : Act} {w : World} {g : Nat} {x y : Value} (h : fn.results = #[.cell p 303]) (hp : a.tmps.getD p undef = .pointer (some ⟨g, 0, none⟩)) (hd : a.defers = [])
  (hc : Cel w g [x, y] 303) (hR : R (.returned (.agg #[x, y])) w) : bodyPost Tryz.prog fn R .ret a w := by
 refine ⟨hd, .agg #[x, y], ?_, hR⟩
 exact results_cell_row (P := Tryz.prog) h _ w g 303 #[x, y] (0, 0) _ hp hc Tryz.underlying303 rfl (by kernel_rfl)
def lmZ (xs : List Nat) (i : Int) : Nat := if i < 0 then 0 else lm xs i.toNat
theorem at_any (i : Int) (w : World) (v : Value) (xs : List Nat) (p : Addr) (hp : w.cell? p = some v) (hv : Rd w v xs) :
  Calls Tryz.prog 263 #[.int .i64 i, .pointer (some p)] w fun e w' => e = .returned (.int .u64 (lmZ xs i : Nat)) ∧ w' = w := by
 obtain ⟨a, cap, rfl, hcap, hc⟩ := hv
 by_cases h0 : i < 0
 ·have HL : Hid (lmZ xs i = 0) := by show _ = _; unfold lmZ; rw [if_pos h0]
  clear hc
  go_enter Tryz.func263, Tryz.ntmps263
  go_wp2
  go_ret
  exact ⟨by rw [HL.out]; rfl, rfl⟩
 ·obtain ⟨k, rfl⟩ := Int.eq_ofNat_of_zero_le (show 0 ≤ i by omega)
  by_cases hk : k < xs.length
  ·obtain ⟨b, off, rfl, hcell⟩ := hc k hk
   have HL : Hid (lmZ xs (k : Int) = lm xs k) := by show _ = _; unfold lmZ; rw [if_neg h0]; rfl
   clear hc
   go_enter Tryz.func263, Tryz.ntmps263
   go_wp2
   go_ret
   exact ⟨by rw [HL.out]; rfl, rfl⟩
  ·have HL : Hid (lmZ xs (k : Int) = 0) := by show _ = _; unfold lmZ; rw [if_neg h0]; exact lm_ge (by simpa using hk)
   clear hc
   go_enter Tryz.func263, Tryz.ntmps263
   go_wp2
   go_ret
   exact ⟨by rw [HL.out]; rfl, rfl⟩
theorem leading_walk (a : Option Addr) (cap : Nat) (xs : List Nat) (n : Int) (s x0 x1 x2 : Nat) (w : World) (hv : Rd w (.slice a xs.length cap) xs) (hn0 : 0 ≤ n) (hn1 : n ≤ 1000000) (hs : s ≤ 63)
  (e0 : lmZ xs (n - 3) = x0) (e1 : lmZ xs (n - 2) = x1) (e2 : lmZ xs (n - 1) = x2) (l0 : x0 < B64) (l1 : x1 < B64) (l2 : x2 < B64) :
  Calls Tryz.prog 234 #[.slice a xs.length cap, .int .i64 n, .int .i64 (s : Nat)] w (Re w (.agg #[.int .u64 (shO (shHi x0 s) x1 s : Nat), .int .u64 (shO (shHi x1 s) x2 s : Nat)])) := by
 have hmf : ∀ (fn : Fn) (first cap : Array Value) (w : World), (Instr.makeFunc fn first cap).run Tryz.prog w = .ok (.func fn first cap) w := fun _ _ _ _ => rfl
 obtain ⟨w1, hw1⟩ : ∃ w1, w1 = (w.alloc (.cells #[.slice a xs.length cap] 64)).alloc (.cells #[.int .u64 0, .int .u64 0] 303) := ⟨_, rfl⟩
 have k : Cel w1 w.heap.size [.slice a xs.length cap] 64 := by rw [hw1]; exact (Cel.new w _ _).alloc _
 have k1 : Cel w1 (w.heap.size + 1) [.int .u64 0, .int .u64 0] 303 := by
  rw [hw1]
  have := Cel.new (w.alloc (.cells #[.slice a xs.length cap] 64)) [.int .u64 0, .int .u64 0] 303
  simpa using this
 have bb : Below w.heap.size w w1 := by rw [hw1]; go_grown
 have HA := shut (fun i => at_any i _ _ xs ⟨w.heap.size, 0, none⟩ (k.cell 0) (hv.below bb))
 have el : ∀ x : Nat, IntKind.u64.wrap ((x : Int) * 2 ^ s) = ((shLo x s : Nat) : Int) := fun x => by rw [← cast_mul_pow, wrapMod]; rfl
 have eh : ∀ x : Nat, ((x : Int) / 2 ^ (64 - s)) = ((shHi x s : Nat) : Int) := fun x => by rw [← cast_div_pow]; rfl
 have o1 := or_swap (shHi x0 s) x1 s hs l1 (sh_facts (c := 0) hs l0 (Nat.pow_pos (by omega))).2.1
 have o2 := or_swap (shHi x1 s) x2 s hs l2 (sh_facts (c := 0) hs l1 (Nat.pow_pos (by omega))).2.1
 have E0 := shut e0
 have E1 := shut e1
 have E2 := shut e2
 have hs1 : (s : Int) ≤ 63 := by omega
 clear k hv e0 e1 e2 l0 l1 l2
 go_enter Tryz.func234, Tryz.ntmps234
 go_wp2_with fail
 rw [← hw1]
 clear hw1
 refine (HA.out (n - 3)).mono ?_
 rintro e w2 ⟨rfl, rfl⟩
 rw [E0.out]
 go_wp2_with fail
 refine (HA.out (n - 2)).mono ?_
 rintro e w3 ⟨rfl, rfl⟩
 rw [E1.out]
 go_wp2_with fail
 refine (HA.out (n - 1)).mono ?_
 rintro e w4 ⟨rfl, rfl⟩
 rw [E2.out]
 have c0 := k1.cell 0
 have c1 := k1.cell 1
 have f0 := k1.frozen 0
 have f1 := k1.frozen 1
 simp only [List.getElem?_cons_zero, List.getElem?_cons_succ] at c0 c1
 clear HA E0 E1 E2
 go_wp2
 go_region
 go_wp2
 exact post_a2 (p := 6) (by kernel_rfl) rfl rfl ((k1.set 0 _).set 1 _).drew ⟨rfl, ((bb.setCell (by simp) _).setCell (by simp) _).drew⟩
theorem lmZ_nat (xs : List Nat) (k : Nat) : lmZ xs (k : Int) = lm xs k := by unfold lmZ; rw [if_neg (by omega)]; rfl
theorem leading_any (a : Option Addr) (cap : Nat) (xs : List Nat) (n s : Nat) (w : World) (hv : Rd w (.slice a xs.length cap) xs) (lx : M.Low B64 xs) (hl : xs.length ≤ n) (hn : 2 ≤ n) (hn1 : n ≤ 1000000) (hs : s ≤ 63) (hx : lm xs (n - 1) * 2 ^ s < B64) :
  Calls Tryz.prog 234 #[.slice a xs.length cap, .int .i64 (n : Nat), .int .i64 (s : Nat)] w fun e w' => ∃ p q : Nat, e = .returned (.agg #[.int .u64 (p : Nat), .int .u64 (q : Nat)]) ∧ p < B64 ∧ q < B64 ∧
   p + B64 * q = M.val B64 xs * 2 ^ s / B64 ^ (n - 2) ∧ Below w.heap.size w w' := by
 obtain ⟨x1, e1⟩ : ∃ x, lmZ xs ((n : Int) - 2) = x := ⟨_, rfl⟩
 obtain ⟨x2, e2⟩ : ∃ x, lmZ xs ((n : Int) - 1) = x := ⟨_, rfl⟩
 obtain ⟨x0, e0⟩ : ∃ x, lmZ xs ((n : Int) - 3) = x := ⟨_, rfl⟩
 have E1 : x1 = lm xs (n - 2) := by rw [← e1, show (n : Int) - 2 = ((n - 2 : Nat) : Int) by omega, lmZ_nat]
 have E2 : x2 = lm xs (n - 1) := by rw [← e2, show (n : Int) - 1 = ((n - 1 : Nat) : Int) by omega, lmZ_nat]
 have l1 : x1 < B64 := by rw [E1]; exact lm_lt B64_pos lx _
 have l2 : x2 < B64 := by rw [E2]; exact lm_lt B64_pos lx _
 have l0 : x0 < B64 := by
  rw [← e0]
  unfold lmZ
  split
  ·exact B64_pos
  ·exact lm_lt B64_pos lx _
 have hS : 0 < 2 ^ s := Nat.pow_pos (by omega)
 obtain ⟨-, g2, -, -, -⟩ := sh_facts (c := 0) hs l0 hS
 obtain ⟨f1, f2, f3, -, -⟩ := sh_facts hs l1 g2
 obtain ⟨k1, k2, k3, -, -⟩ := sh_facts hs l2 f2
 have hb : B64 = 2 ^ s * 2 ^ (64 - s) := by rw [← Nat.pow_add, show s + (64 - s) = 64 by omega]; rfl
 have hZ : 0 < 2 ^ (64 - s) := Nat.pow_pos (by omega)
 refine (leading_walk a cap xs n s x0 x1 x2 w hv (by omega) (by omega) hs e0 e1 e2 l0 l1 l2).mono ?_
 rintro e w' ⟨rfl, bb⟩
 refine ⟨_, _, rfl, f1, k1, ?_, bb⟩
 have z2 : shHi x2 s = 0 := by
  unfold shHi
  rw [Nat.div_eq_zero_iff]
  right
  rw [← E2, hb, Nat.mul_comm] at hx
  exact Nat.lt_of_mul_lt_mul_left hx
 rw [z2, Nat.mul_zero, Nat.add_zero] at k3
 have key : M.val B64 xs * 2 ^ s / B64 ^ (n - 2) = shHi x0 s + x1 * 2 ^ s + B64 * (x2 * 2 ^ s) := by
  have v1 := M.val_take_succ B64 xs (n - 2)
  have v2 := M.val_take_succ B64 xs (n - 1)
  rw [show n - 2 + 1 = n - 1 by omega] at v1
  rw [show n - 1 + 1 = n by omega, M.val_take_all _ _ _ hl] at v2
  have vE1 : xs.getD (n - 2) 0 = x1 := E1.symm
  have vE2 : xs.getD (n - 1) 0 = x2 := E2.symm
  rw [vE1] at v1
  rw [vE2, v1] at v2
  by_cases h2 : n = 2
  ·subst h2
   have z0 : x0 = 0 := by rw [← e0]; unfold lmZ; rw [if_pos (by omega)]
   have hh : shHi x0 s = 0 := by rw [z0]; exact Nat.zero_div _
   rw [v2, hh]
   simp only [Nat.sub_self, Nat.pow_zero, Nat.div_one, List.take_zero, M.val_nil, Nat.zero_add, Nat.one_mul, show 2 - 1 = 1 from rfl, Nat.pow_one]
   rw [Nat.add_mul, Nat.mul_assoc]
  ·have E0 : x0 = lm xs (n - 3) := by rw [← e0, show (n : Int) - 3 = ((n - 3 : Nat) : Int) by omega, lmZ_nat]
   have v0 := M.val_take_succ B64 xs (n - 3)
   rw [show n - 3 + 1 = n - 2 by omega, show xs.getD (n - 3) 0 = x0 from E0.symm] at v0
   have lL : M.val B64 (xs.take (n - 3)) < B64 ^ (n - 3) := M.val_lt_pow B64_pos (lx.take _) (by simp; omega)
   rw [v0] at v2
   have p1 : B64 ^ (n - 2) = B64 ^ (n - 3) * B64 := by rw [show n - 2 = n - 3 + 1 by omega, Nat.pow_succ]
   have p2 : B64 ^ (n - 1) = B64 ^ (n - 3) * B64 * B64 := by rw [show n - 1 = n - 3 + 1 + 1 by omega, Nat.pow_succ, Nat.pow_succ]
   rw [v2, p1, p2]
   exact M.lead hb hS hZ (Nat.pow_pos B64_pos) lL
 rw [key]
 have : B64 * (shO (shHi x1 s) x2 s) = B64 * (shHi x1 s + x2 * 2 ^ s) := by rw [k3]
 rw [this, Nat.mul_add]
 omega
open Go.RowKit
def Bd (z : Int) (k : Nat) : Prop := z.natAbs < 256 ^ k
theorem pow256_pos (k : Nat) : 0 < 256 ^ k := Nat.pow_pos (by omega)
theorem Bd.zero (k : Nat) : Bd 0 k := pow256_pos k
theorem bd_zOf {n : Bool} {s : ByteArray} {k : Nat} (h : s.size ≤ k) : Bd (zOf n s) k := by
 unfold Bd
 rw [natAbs_zOf]
 exact Nat.lt_of_lt_of_le (natOf_lt s) (Nat.pow_le_pow_right (by omega) h)
theorem Bd.le {x y : Int} {k : Nat} (hy : Bd y k) (h : x.natAbs ≤ y.natAbs) : Bd x k := Nat.lt_of_le_of_lt h hy
theorem Bd.nat {a b k : Nat} (hb : Bd (b : Int) k) (h : a ≤ b) : Bd (a : Int) k := hb.le (by simpa using h)
theorem Bd.size {z : Int} {k : Nat} (h : Bd z k) : (strOf z.natAbs).size ≤ k := strOf_lt h
theorem named : ∃ (nf : Int → Bool) (sf : Int → ByteArray), (∀ z, zI z = .agg #[.bool (nf z), .string (sf z)]) ∧ (∀ z, OkZ (nf z) (sf z)) ∧ (∀ z k, Bd z k → (sf z).size ≤ k) ∧ (∀ z, zOf (nf z) (sf z) = z) ∧ (∀ n s, OkZ n s → nf (zOf n s) = n ∧ sf (zOf n s) = s) ∧ (∀ z, natOf (sf z) = z.natAbs) ∧ (∀ z, nf z = decide (z < 0)) ∧ (∀ z, sf z = strOf z.natAbs) :=
 ⟨fun z => decide (z < 0), fun z => strOf z.natAbs, fun _ => rfl, okZ_zI, fun z k h => h.size, zOf_zI, fun n s h => by
  have e := zV_ok h
  unfold zI zV at e
  simp only [Value.agg.injEq] at e
  have e' : [Value.bool n, .string s] = [.bool (decide (zOf n s < 0)), .string (strOf (zOf n s).natAbs)] := congrArg Array.toList e
  simp only [List.cons.injEq, Value.bool.injEq, Value.string.injEq] at e'
  exact ⟨e'.1.symm, e'.2.1.symm⟩, fun z => natOf_strOf _, fun _ => rfl, fun _ => rfl⟩
theorem strOf_one : strOf 1 = ⟨#[1]⟩ := by decide +kernel
theorem natOf_one : natOf ⟨#[1]⟩ = 1 := by rw [← strOf_one, natOf_strOf]
theorem zI_one : zI 1 = .agg #[.bool false, .string ⟨#[1]⟩] := by
 show zV (decide ((1 : Int) < 0)) (strOf 1) = _
 rw [strOf_one]
 rfl
theorem okS_one {s : ByteArray} (hs : OkS s) : s = ⟨#[1]⟩ ↔ natOf s = 1 := by
 constructor
 ·intro h; rw [h, natOf_one]
 ·intro h; rw [← strOf_natOf hs, h, strOf_one]
theorem okS_nil {s : ByteArray} (hs : OkS s) : s.size = 0 ↔ natOf s = 0 := by
 constructor
 ·exact natOf_empty
 ·intro h
  refine Nat.eq_zero_of_not_pos fun hp => ?_
  have := natOf_pos hs hp
  omega
def OkQ (n : Bool) (s d : ByteArray) : Prop := OkZ n s ∧ OkS d ∧ 0 < natOf d ∧ Nat.gcd (natOf s) (natOf d) = 1
def qOf (n : Bool) (s d : ByteArray) : Rat := mkRat (zOf n s) (natOf d)
def qI (q : Rat) : Value := (qa1 (decide (q.num < 0)) (strOf q.num.natAbs) (strOf q.den))
theorem OkQ.low {n : Bool} {s d : ByteArray} (h : OkQ n s d) : (qOf n s d).num = zOf n s ∧ (qOf n s d).den = natOf d :=
 Q.mk_low h.2.2.1 (by rw [natAbs_zOf]; exact h.2.2.2)
theorem OkQ.parts {n : Bool} {s d : ByteArray} (h : OkQ n s d) : decide ((qOf n s d).num < 0) = n ∧ strOf (qOf n s d).num.natAbs = s ∧ strOf (qOf n s d).den = d := by
 rw [h.low.1, h.low.2, natAbs_zOf, strOf_natOf h.1.1, strOf_natOf h.2.1]
 refine ⟨?_, rfl, rfl⟩
 cases n with
 | false => simp [zOf]
 | true =>
  have := natOf_pos h.1.1 (h.1.2 rfl)
  simp [zOf]; omega
theorem okQ_qI (q : Rat) : OkQ (decide (q.num < 0)) (strOf q.num.natAbs) (strOf q.den) := by
 refine ⟨okZ_zI _, okS_strOf _, ?_, ?_⟩
 ·rw [natOf_strOf]; exact q.den_pos
 ·rw [natOf_strOf, natOf_strOf]; exact q.reduced
theorem qOf_qI (q : Rat) : qOf (decide (q.num < 0)) (strOf q.num.natAbs) (strOf q.den) = q := by
 unfold qOf
 rw [zOf_zI, natOf_strOf, Rat.mkRat_self]
theorem qI_of {q : Rat} {z : Int} {m : Nat} (h : q.num = z ∧ q.den = m) {n : Bool} {s d : ByteArray} (hz : zI z = .agg #[.bool n, .string s]) (hd : d = strOf m) : qI q = (qa1 n s d) := by
 obtain ⟨rfl, rfl⟩ := h
 subst hd
 have e : (#[.bool (decide (q.num < 0)), .string (strOf q.num.natAbs)] : Array Value) = #[.bool n, .string s] := by
  have : zI q.num = .agg #[.bool (decide (q.num < 0)), .string (strOf q.num.natAbs)] := rfl
  rw [this] at hz
  simpa using hz
 have e' : [Value.bool (decide (q.num < 0)), .string (strOf q.num.natAbs)] = [.bool n, .string s] := congrArg Array.toList e
 simp only [List.cons.injEq, Value.bool.injEq, Value.string.injEq, and_true] at e'
 unfold qI
 rw [e'.1, e'.2]
def Bq (q : Rat) (k : Nat) : Prop := Bd q.num k ∧ Bd (q.den : Int) k
theorem named3 : ∃ (nf : Rat → Bool) (sf df : Rat → ByteArray), (∀ q, qI q = (qa1 (nf q) (sf q) (df q))) ∧ (∀ q, OkQ (nf q) (sf q) (df q)) ∧ (∀ q k, Bq q k → (sf q).size ≤ k ∧ (df q).size ≤ k) ∧ (∀ q, qOf (nf q) (sf q) (df q) = q) ∧ (∀ n s d, OkQ n s d → nf (qOf n s d) = n ∧ sf (qOf n s d) = s ∧ df (qOf n s d) = d) :=
 ⟨fun q => decide (q.num < 0), fun q => strOf q.num.natAbs, fun q => strOf q.den, fun _ => rfl, okQ_qI, fun q k h => ⟨h.1.size, by have := h.2.size; simpa using this⟩, qOf_qI, fun n s d h => h.parts⟩
def chkq (n : Bool) (s d : ByteArray) : Nat := if 8000 < s.size ∨ 8000 < d.size then 5 else if chk n s ≠ 0 ∨ d.size = 0 ∨ lm (byts d) 0 = 0 ∨ Nat.gcd (natOf s) (natOf d) ≠ 1 then 1 else 0
theorem chkq_zero {n : Bool} {s d : ByteArray} (h : chkq n s d = 0) : OkQ n s d ∧ s.size ≤ 8000 ∧ d.size ≤ 8000 := by
 unfold chkq at h
 by_cases h1 : 8000 < s.size ∨ 8000 < d.size
 ·rw [if_pos h1] at h; omega
 ·rw [if_neg h1] at h
  by_cases h2 : chk n s ≠ 0 ∨ d.size = 0 ∨ lm (byts d) 0 = 0 ∨ Nat.gcd (natOf s) (natOf d) ≠ 1
  ·rw [if_pos h2] at h; omega
  ·have hs : s.size ≤ 8000 := by omega
   have c0 : chk n s = 0 := by
    refine Classical.byContradiction fun e => h2 (Or.inl e)
   have d0 : 0 < d.size := Nat.pos_of_ne_zero fun e => h2 (Or.inr (Or.inl e))
   have od : OkS d := fun _ e => h2 (Or.inr (Or.inr (Or.inl e)))
   have g1 : Nat.gcd (natOf s) (natOf d) = 1 := Classical.byContradiction fun e => h2 (Or.inr (Or.inr (Or.inr e)))
   exact ⟨⟨(chk_ok (by omega)).1 c0, od, natOf_pos od d0, g1⟩, hs, by omega⟩
theorem chkq_ok {n : Bool} {s d : ByteArray} (h : OkQ n s d) (hs : s.size ≤ 8000) (hd : d.size ≤ 8000) : chkq n s d = 0 := by
 unfold chkq
 rw [if_neg (by omega), if_neg]
 have d0 : 0 < d.size := Nat.pos_of_ne_zero fun e => by have := natOf_empty e; have := h.2.2.1; omega
 rintro (a | a | a | a)
 ·exact a ((chk_ok (by omega)).2 h.1)
 ·omega
 ·exact h.2.1 d0 a
 ·exact a h.2.2.2
open Go.RowKit
def stV (a b c d : Nat) : Value := .agg #[.int .u64 (a : Nat), .int .u64 (b : Nat), .int .u64 (c : Nat), .int .u64 (d : Nat)]
theorem post_s4 {fn : Func} {p : Tmp} {R : Ending → World → Prop} {a : Act} {w : World} {g : Nat} {x y z u : Value} (h : fn.results = #[.cell p 276]) (hp : a.tmps.getD p undef = .pointer (some ⟨g, 0, none⟩)) (hd : a.defers = [])
  (hc : Cel w g [x, y, z, u] 276) (hR : R (.returned (.agg #[x, y, z, u])) w) : bodyPost Tryz.prog fn R .ret a w := by
 refine ⟨hd, .agg #[x, y, z, u], ?_, hR⟩
 exact results_cell_row (P := Tryz.prog) h _ w g 276 #[x, y, z, u] (0, 0) _ hp hc Tryz.underlying276 rfl (by kernel_rfl)
theorem few_any (x y : Nat) (hx : x < B64) (hyx : y ≤ x) (w : World) :
  Calls Tryz.prog 235 #[.int .u64 (x : Nat), .int .u64 (y : Nat)] w fun e w' => ∃ a b c d p r : Nat, e = .returned (stV a b c d) ∧ M.Few x y a b c d p r ∧ b < 1073741824 ∧ d < 1073741824 ∧ Below w.heap.size w w' := by
 unfold stV
 unfold B64 at hx
 go_enter Tryz.func235, Tryz.ntmps235
 go_wp2
 obtain ⟨w0, hw0⟩ : ∃ w0, w0 = (w.alloc (.cells #[.int .u64 0, .int .u64 0, .int .u64 0, .int .u64 0] 276)).alloc (.cells #[.int .u64 1, .int .u64 0, .int .u64 0, .int .u64 1] 276) := ⟨_, rfl⟩
 have k0 : Cel w0 w.heap.size [.int .u64 0, .int .u64 0, .int .u64 0, .int .u64 0] 276 := by rw [hw0]; exact (Cel.new w _ _).alloc _
 have k1 : Cel w0 (w.heap.size + 1) [.int .u64 ((1 : Nat) : Int), .int .u64 ((0 : Nat) : Int), .int .u64 ((0 : Nat) : Int), .int .u64 ((1 : Nat) : Int)] 276 := by
  rw [hw0]
  have := Cel.new (w.alloc (.cells #[.int .u64 0, .int .u64 0, .int .u64 0, .int .u64 0] 276)) [.int .u64 1, .int .u64 0, .int .u64 0, .int .u64 1] 276
  simpa using this
 have b0 : Below w.heap.size w w0 := by rw [hw0]; go_grown
 rw [← hw0]
 clear hw0
 go_loopw [0, 1] (fun vx vy wr => ∃ a b c d p r : Nat, vx = .int .u64 p ∧ vy = .int .u64 r ∧ M.Few x y a b c d p r ∧ a < 1073741824 ∧ b < 1073741824 ∧ c < 1073741824 ∧ d < 1073741824 ∧ p ≤ x ∧ r ≤ p ∧
   Cel wr w.heap.size [.int .u64 0, .int .u64 0, .int .u64 0, .int .u64 0] 276 ∧ Cel wr (w.heap.size + 1) [.int .u64 (a : Nat), .int .u64 (b : Nat), .int .u64 (c : Nat), .int .u64 (d : Nat)] 276 ∧ Below w.heap.size w wr)
  (fun _ vy _ => (intOf vy).toNat)
 case atStart => exact ⟨1, 0, 0, 1, x, y, rfl, rfl, M.Few.zero x y, by omega, by omega, by omega, by omega, by omega, hyx, k0, k1, b0⟩
 case round =>
  clear k0 k1 b0
  obtain ⟨a, b, c, d, p, r, rfl, rfl, few, ha, hb, hc, hd, hp, hr, k0, k1, b0⟩ := hrel
  have e0 := k1.cell 0
  have e1 := k1.cell 1
  have e2 := k1.cell 2
  have e3 := k1.cell 3
  have z0 := k0.cell 0
  have z1 := k0.cell 1
  have z2 := k0.cell 2
  have z3 := k0.cell 3
  have f0 := k0.frozen 0
  have f1 := k0.frozen 1
  have f2 := k0.frozen 2
  have f3 := k0.frozen 3
  simp only [List.getElem?_cons_zero, List.getElem?_cons_succ] at e0 e1 e2 e3 z0 z1 z2 z3
  have FE := shut few
  by_cases h0 : r = 0
  ·go_wp2
   exact post_s4 (p := 4) (by kernel_rfl) rfl rfl ((((k0.set 0 _).set 1 _).set 2 _).set 3 _) ⟨a, b, c, d, p, r, rfl, FE.out, hb, hd, (((b0.setCell (by simp) _).setCell (by simp) _).setCell (by simp) _).setCell (by simp) _⟩
  ·obtain ⟨q, hq⟩ : ∃ q, p / r = q := ⟨_, rfl⟩
   obtain ⟨t, ht⟩ : ∃ t, p % r = t := ⟨_, rfl⟩
   have iq : IntKind.u64.wrap (Int.tdiv (p : Int) (r : Int)) = (q : Nat) := by
    rw [Int.tdiv_eq_ediv_of_nonneg (by omega), ← Int.natCast_ediv, hq]
    exact wrapIn q (by have := Nat.div_le_self p r; omega)
   have it : Int.tmod (p : Int) (r : Int) = (t : Nat) := by
    rw [Int.tmod_eq_emod_of_nonneg (by omega), ← Int.natCast_emod, ht]
   have hdm : p = q * r + t := by rw [← hq, ← ht, Nat.mul_comm]; exact (Nat.div_add_mod p r).symm
   have htr : t < r := by rw [← ht]; exact Nat.mod_lt _ (by omega)
   have HD := shut hdm
   have hr1 : ¬ (r : Int) = 0 := by omega
   have hr2 : ((r : Int) != 0) = true := by simpa using hr1
   clear hq ht hdm few
   have A := shut ha
   have B := shut hb
   have C := shut hc
   have D := shut hd
   have P := shut hp
   have X := shut hx
   have R := shut hr
   have T := shut htr
   have HYX := shut hyx
   clear ha hb hc hd hp hx hr htr hyx h0
   obtain ⟨qc, hqc⟩ : ∃ z, q * c = z := ⟨_, rfl⟩
   obtain ⟨qd, hqd⟩ : ∃ z, q * d = z := ⟨_, rfl⟩
   have iqc : (q : Int) * (c : Int) = (qc : Nat) := by rw [← hqc, Int.natCast_mul]
   have iqd : (q : Int) * (d : Int) = (qd : Nat) := by rw [← hqd, Int.natCast_mul]
   have QC := shut hqc
   have QD := shut hqd
   clear hqc hqd
   have kk : Cel wr (w.heap.size + 1) [.int .u64 (a : Nat), .int .u64 (b : Nat), .int .u64 (c : Nat), .int .u64 (d : Nat)] 276 := k1
   clear k1
   generalize hA : (a : Int) = aI at *
   generalize hB : (b : Int) = bI at *
   generalize hC : (c : Int) = cI at *
   generalize hD : (d : Int) = dI at *
   generalize hP : (p : Int) = pI at *
   generalize hR : (r : Int) = rI at *
   generalize hQ : (q : Int) = qI at *
   generalize hT : (t : Int) = tI at *
   generalize hQC : (qc : Int) = qcI at *
   generalize hQD : (qd : Int) = qdI at *
   have HA := shut hA
   have HB := shut hB
   have HC := shut hC
   have HD' := shut hD
   have HR := shut hR
   have HQ := shut hQ
   have HT := shut hT
   have HQC := shut hQC
   have HQD := shut hQD
   clear hA hB hC hD hP hR hQ hT hQC hQD
   by_cases hq1 : (1073741824 : Int) ≤ qI
   ·go_wp2
    go_region
    go_wp2
    exact post_s4 (p := 4) (by kernel_rfl) rfl rfl ((((k0.drew.set 0 _).set 1 _).set 2 _).set 3 _) ⟨a, b, c, d, p, r, by rw [HA.out, HB.out, HC.out, HD'.out], FE.out, B.out, D.out, (((b0.drew.setCell (by simp) _).setCell (by simp) _).setCell (by simp) _).setCell (by simp) _⟩
   ·have M1 : qcI ≤ 1152921502459363329 := by
     have m : q * c ≤ 1073741823 * 1073741823 := Nat.mul_le_mul (by have := HQ.out; omega) (by have := C.out; omega)
     rw [QC.out] at m
     have := HQC.out
     omega
    have M2 : qdI ≤ 1152921502459363329 := by
     have m : q * d ≤ 1073741823 * 1073741823 := Nat.mul_le_mul (by have := HQ.out; omega) (by have := D.out; omega)
     rw [QD.out] at m
     have := HQD.out
     omega
    have M3 : 0 ≤ qcI := by have := HQC.out; omega
    have M4 : 0 ≤ qdI := by have := HQD.out; omega
    have A1 : aI < 1073741824 := by have := A.out; have := HA.out; omega
    have A2 : 0 ≤ aI := by have := HA.out; omega
    have B1 : bI < 1073741824 := by have := B.out; have := HB.out; omega
    have B2 : 0 ≤ bI := by have := HB.out; omega
    have D1 : dI < 1073741824 := by have := D.out; have := HD'.out; omega
    have D2 : 0 ≤ dI := by have := HD'.out; omega
    have T1 : tI < rI := by have := T.out; have := HT.out; have := HR.out; omega
    have T2 : 0 ≤ tI := by have := HT.out; omega
    have R1 : rI ≤ 18446744073709551615 := by have := R.out; have := P.out; have := X.out; have := HR.out; omega
    have g0 := kk.frozen 0
    have g1 := kk.frozen 1
    have g2 := kk.frozen 2
    have g3 := kk.frozen 3
    by_cases hd' : 1073741824 ≤ bI + qdI
    ·-- a factor too great
     go_wp2
     go_region
     go_wp2
     go_region
     go_wp2
     exact post_s4 (p := 4) (by kernel_rfl) rfl rfl ((((k0.set 0 _).set 1 _).set 2 _).set 3 _).drew.drew ⟨a, b, c, d, p, r, by rw [HA.out, HB.out, HC.out, HD'.out], FE.out, B.out, D.out, ((((b0.setCell (by simp) _).setCell (by simp) _).setCell (by simp) _).setCell (by simp) _).drew.drew⟩
    by_cases ht' : tI < 2 * (bI + qdI)
    ·-- the rest is not sure
     go_wp2
     go_region
     go_wp2
     go_region
     go_wp2
     exact post_s4 (p := 4) (by kernel_rfl) rfl rfl ((((k0.set 0 _).set 1 _).set 2 _).set 3 _).drew.drew ⟨a, b, c, d, p, r, by rw [HA.out, HB.out, HC.out, HD'.out], FE.out, B.out, D.out, ((((b0.setCell (by simp) _).setCell (by simp) _).setCell (by simp) _).setCell (by simp) _).drew.drew⟩
    by_cases hy' : rI - tI < 2 * (dI + (bI + qdI))
    ·-- the quotient is not sure
     go_wp2
     go_region
     go_wp2
     go_region
     go_wp2
     exact post_s4 (p := 4) (by kernel_rfl) rfl rfl ((((k0.set 0 _).set 1 _).set 2 _).set 3 _).drew.drew ⟨a, b, c, d, p, r, by rw [HA.out, HB.out, HC.out, HD'.out], FE.out, B.out, D.out, ((((b0.setCell (by simp) _).setCell (by simp) _).setCell (by simp) _).setCell (by simp) _).drew.drew⟩
    have FS : Hid (M.Few x y c d (a + q * c) (b + q * d) r t) := by
     have e1 := HB.out
     have e2 := HQD.out
     have e3 := HD'.out
     have e4 := HT.out
     have e5 := HR.out
     refine FE.out.step HYX.out HD.out T.out ?_ ?_
     ·rw [QD.out]; omega
     ·rw [QD.out]; omega
    have N1 : Hid (a + q * c < 1073741824) := by
     have e1 := HB.out
     have e2 := HQD.out
     show _ < _
     have le : a + q * c ≤ b + q * d ∨ (a + q * c = 1 ∧ b = 0) := by
      rcases FE.out with ⟨h1, h2, h3, h4, -⟩ | ⟨-, h2, h3, h4, -⟩
      ·right; rw [h1, h3]; exact ⟨by simp, h2⟩
      ·left
       have := Nat.mul_le_mul_left q h3
       omega
     rw [QD.out] at le
     omega
    have N2 : Hid (b + q * d < 1073741824) := by
     have e1 := HB.out
     have e2 := HQD.out
     show _ < _
     rw [QD.out]
     omega
    go_wp2
    go_region
    go_wp2
    go_region
    go_wp2
    have ec : [Value.int .u64 cI, Value.int .u64 dI, Value.int .u64 (aI + qcI), Value.int .u64 (bI + qdI)] = [Value.int .u64 (c : Nat), Value.int .u64 (d : Nat), Value.int .u64 ((a + q * c : Nat) : Int), Value.int .u64 ((b + q * d : Nat) : Int)] := by
     rw [QC.out, QD.out, Int.natCast_add, Int.natCast_add, HA.out, HB.out, HC.out, HD'.out, HQC.out, HQD.out]
    refine ⟨⟨c, d, a + q * c, b + q * d, r, t, by rw [HR.out], by rw [HT.out], FS.out, C.out, D.out, N1.out, N2.out, Nat.le_trans R.out P.out, Nat.le_of_lt T.out,
     ((((k0.other (by omega) _ _).other (by omega) _ _).other (by omega) _ _).other (by omega) _ _).drew.drew, ?_, ((((b0.setCell (by simp) _).setCell (by simp) _).setCell (by simp) _).setCell (by simp) _).drew.drew⟩, by simp only [intOf]; omega⟩
    rw [← ec]
    exact ((((kk.set 0 _).set 1 _).set 2 _).set 3 _).drew.drew
open Go.RowKit
theorem boxes5 (w : World) (x0 x1 y0 y1 : Value) : ∃ w0, w0 = ((((w.alloc (.cells #[x0, x1] 24)).alloc (.cells #[y0, y1] 24)).alloc (.cells #[.bool false, .string { data := #[] }] 24)).alloc (.cells #[.bool false, .string { data := #[] }] 24)).alloc (.cells #[x0, x1, y0, y1] 24) ∧
  Cel w0 w.heap.size [x0, x1] 24 ∧ Cel w0 (w.heap.size + 1) [y0, y1] 24 ∧ Cel w0 (w.heap.size + 1 + 1) [.bool false, .string { data := #[] }] 24 ∧ Cel w0 (w.heap.size + 1 + 1 + 1) [.bool false, .string { data := #[] }] 24 ∧ Cel w0 (w.heap.size + 1 + 1 + 1 + 1) [x0, x1, y0, y1] 24 ∧ Below w.heap.size w w0 := by
 refine ⟨_, rfl, ((((Cel.new w [x0, x1] 24).alloc _).alloc _).alloc _).alloc _, ?_, ?_, ?_, ?_, by go_grown⟩
 ·have := (((Cel.new (w.alloc (.cells #[x0, x1] 24)) [y0, y1] 24).alloc (.cells #[.bool false, .string { data := #[] }] 24)).alloc (.cells #[.bool false, .string { data := #[] }] 24)).alloc (.cells #[x0, x1, y0, y1] 24)
  simpa using this
 ·have := ((Cel.new ((w.alloc (.cells #[x0, x1] 24)).alloc (.cells #[y0, y1] 24)) [.bool false, .string { data := #[] }] 24).alloc (.cells #[.bool false, .string { data := #[] }] 24)).alloc (.cells #[x0, x1, y0, y1] 24)
  simpa using this
 ·have := (Cel.new (((w.alloc (.cells #[x0, x1] 24)).alloc (.cells #[y0, y1] 24)).alloc (.cells #[.bool false, .string { data := #[] }] 24)) [.bool false, .string { data := #[] }] 24).alloc (.cells #[x0, x1, y0, y1] 24)
  simpa using this
 ·have := Cel.new ((((w.alloc (.cells #[x0, x1] 24)).alloc (.cells #[y0, y1] 24)).alloc (.cells #[.bool false, .string { data := #[] }] 24)).alloc (.cells #[.bool false, .string { data := #[] }] 24)) [x0, x1, y0, y1] 24
  simpa using this
theorem ediv_neg_nat (X Y : Nat) (hY : 0 < Y) : (-(X : Int)) / (Y : Int) = (if X % Y = 0 then -((X / Y : Nat) : Int) else -((X / Y + 1 : Nat) : Int)) ∧ (-(X : Int)) % (Y : Int) = (if X % Y = 0 then 0 else ((Y - X % Y : Nat) : Int)) := by
 have hd := Nat.div_add_mod X Y
 have hl := Nat.mod_lt X hY
 refine (Int.ediv_emod_unique (by omega)).2 ?_
 generalize X / Y = q at *
 generalize X % Y = r at *
 have e : (X : Int) = (Y : Int) * (q : Int) + (r : Int) := by rw [← hd]; simp
 by_cases h : r = 0
 ·subst h
  simp only [if_true]
  refine ⟨?_, by omega, by omega⟩
  rw [e, Int.mul_neg]; simp
 ·rw [if_neg h, if_neg h]
  refine ⟨?_, by omega, by omega⟩
  rw [e, Int.natCast_add, Int.mul_neg, Int.mul_add]
  have : ((Y - r : Nat) : Int) = (Y : Int) - (r : Int) := by omega
  rw [this]
  simp
  omega
theorem sgn_ediv (a b : Bool) (X Y : Nat) (hY : 0 < Y) : sgn a X / sgn b Y = sgn (a != b) (if a = true ∧ X % Y ≠ 0 then X / Y + 1 else X / Y) ∧ sgn a X % sgn b Y = sgn false (if a = true ∧ X % Y ≠ 0 then Y - X % Y else X % Y) := by
 have h := ediv_neg_nat X Y hY
 cases a <;> cases b
 ·simp [sgn]
 ·simp [sgn, Int.ediv_neg]
 ·rw [show sgn true X = -(X : Int) from rfl, show sgn false Y = (Y : Int) from rfl, h.1, h.2]
  by_cases h0 : X % Y = 0
  ·simp [sgn, h0]
  ·simp [sgn, h0]
 ·rw [show sgn true X = -(X : Int) from rfl, show sgn true Y = -(Y : Int) from rfl, Int.ediv_neg, Int.emod_neg, h.1, h.2]
  by_cases h0 : X % Y = 0
  ·simp [sgn, h0]
  ·simp [sgn, h0]
open Go.RowKit
theorem none_any (a b c d : Nat) (w : World) :
  Calls Tryz.prog 205 #[stV a b c d] w (Re w (.bool (decide (b = 0)))) := by
 unfold stV
 have HB : Hid ((((b : Nat) : Int) == 0) = decide (b = 0)) := by show _ = _; rw [Bool.eq_iff_iff]; simp
 go_enter Tryz.func205, Tryz.ntmps205
 go_wp2
 go_ret
 exact ⟨by show Ending.returned (.bool ((b : Int) == 0)) = _; rw [HB.out], by go_grown⟩
theorem prod30 {a b : Nat} (ha : a < 1073741824) (hb : b < 1073741824) : a * b ≤ 1152921502459363329 := Nat.le_trans (Nat.mul_le_mul (show a ≤ 1073741823 by omega) (show b ≤ 1073741823 by omega)) (by decide)
theorem after_any (a b c d a' b' c' d' : Nat) (w : World) (ha : a < 1073741824) (hb : b < 1073741824) (hc : c < 1073741824) (hd : d < 1073741824) (ha' : a' < 1073741824) (hb' : b' < 1073741824) (hc' : c' < 1073741824) (hd' : d' < 1073741824) :
  Calls Tryz.prog 236 #[stV a b c d, stV a' b' c' d'] w (Re w (stV (a * a' + b * c') (a * b' + b * d') (c * a' + d * c') (c * b' + d * d'))) := by
 unfold stV
 have p1 := prod30 ha ha'
 have p2 := prod30 hb hc'
 have p3 := prod30 ha hb'
 have p4 := prod30 hb hd'
 have p5 := prod30 hc ha'
 have p6 := prod30 hd hc'
 have p7 := prod30 hc hb'
 have p8 := prod30 hd hd'
 simp only [Int.natCast_add, Int.natCast_mul]
 have q : ∀ x y : Nat, x * y ≤ 1152921502459363329 → (x : Int) * (y : Int) ≤ 1152921502459363329 ∧ 0 ≤ (x : Int) * (y : Int) := fun x y h => by rw [← Int.natCast_mul]; omega
 replace p1 := q _ _ p1
 replace p2 := q _ _ p2
 replace p3 := q _ _ p3
 replace p4 := q _ _ p4
 replace p5 := q _ _ p5
 replace p6 := q _ _ p6
 replace p7 := q _ _ p7
 replace p8 := q _ _ p8
 clear q ha hb hc hd ha' hb' hc' hd'
 generalize (a : Int) = A at *
 generalize (b : Int) = B at *
 generalize (c : Int) = C at *
 generalize (d : Int) = D at *
 generalize (a' : Int) = A' at *
 generalize (b' : Int) = B' at *
 generalize (c' : Int) = C' at *
 generalize (d' : Int) = D' at *
 generalize h1 : A * A' = m1 at *
 generalize h2 : B * C' = m2 at *
 generalize h3 : A * B' = m3 at *
 generalize h4 : B * D' = m4 at *
 generalize h5 : C * A' = m5 at *
 generalize h6 : D * C' = m6 at *
 generalize h7 : C * B' = m7 at *
 generalize h8 : D * D' = m8 at *
 obtain ⟨p1, r1⟩ := p1
 obtain ⟨p2, r2⟩ := p2
 obtain ⟨p3, r3⟩ := p3
 obtain ⟨p4, r4⟩ := p4
 obtain ⟨p5, r5⟩ := p5
 obtain ⟨p6, r6⟩ := p6
 obtain ⟨p7, r7⟩ := p7
 obtain ⟨p8, r8⟩ := p8
 go_enter Tryz.func236, Tryz.ntmps236
 go_wp2
 refine post_s4 (p := 4) (g := w.heap.size + 1 + 1) (by kernel_rfl) rfl rfl (x := .int .u64 (m1 + m2)) (y := .int .u64 (m3 + m4)) (z := .int .u64 (m5 + m6)) (u := .int .u64 (m7 + m8)) ?_ ⟨rfl, by go_grown⟩
 have := Cel.new ((w.alloc (.cells #[.int .u64 A, .int .u64 B, .int .u64 C, .int .u64 D] 276)).alloc (.cells #[.int .u64 A', .int .u64 B', .int .u64 C', .int .u64 D'] 276)) [.int .u64 (m1 + m2), .int .u64 (m3 + m4), .int .u64 (m5 + m6), .int .u64 (m7 + m8)] 276
 simpa using this
open Go.RowKit
structure Grew2 (g g' : Nat) (w w' : World) : Prop where
 os : w'.os = w.os
 tape : w'.tape = w.tape
 output : w'.output = w.output
 size : w.heap.size ≤ w'.heap.size
 block : ∀ k, k < w.heap.size → k ≠ g → k ≠ g' → w'.heap[k]? = w.heap[k]?
theorem Grew2.trans {g g' : Nat} {a b c : World} (h : Grew2 g g' a b) (k : Grew2 g g' b c) : Grew2 g g' a c :=
 ⟨k.os.trans h.os, k.tape.trans h.tape, k.output.trans h.output, Nat.le_trans h.size k.size, fun i hl hi hj => (k.block i (Nat.lt_of_lt_of_le hl h.size) hi hj).trans (h.block i hl hi hj)⟩
theorem Grew2.left {g g' : Nat} {a b : World} (h : Only g a b) : Grew2 g g' a b := ⟨h.os, h.tape, h.output, by rw [h.size]; exact Nat.le_refl _, fun i _ hi _ => h.block i hi⟩
theorem Grew2.right {g g' : Nat} {a b : World} (h : Only g' a b) : Grew2 g g' a b := ⟨h.os, h.tape, h.output, by rw [h.size]; exact Nat.le_refl _, fun i _ _ hi => h.block i hi⟩
theorem Grew2.of {g g' : Nat} {a b : World} (h : Below a.heap.size a b) : Grew2 g g' a b := ⟨h.os, h.tape, h.output, h.size, fun i hl _ _ => h.block i hl⟩
theorem Grew2.set0 {g g' : Nat} {a w : World} (h : Grew2 g g' a w) (j : Nat) (u : Value) : Grew2 g g' a (w.setCell ⟨g, j, none⟩ u) := h.trans (Grew2.left ((Only.refl _ _).setCell _ _))
theorem Grew2.set1 {g g' : Nat} {a w : World} (h : Grew2 g g' a w) (j : Nat) (u : Value) : Grew2 g g' a (w.setCell ⟨g', j, none⟩ u) := h.trans (Grew2.right ((Only.refl _ _).setCell _ _))
theorem Grew2.below {g g' B : Nat} {a w w' : World} (h : Below B a w) (k : Grew2 g g' w w') (hB : B ≤ w.heap.size) (h0 : B ≤ g) (h1 : B ≤ g') : Below B a w' :=
 ⟨k.os.trans h.os, k.tape.trans h.tape, k.output.trans h.output, Nat.le_trans h.size k.size, fun i hi => (k.block i (by omega) (by omega) (by omega)).trans (h.block i hi)⟩
theorem Cel.grew2 {w w' : World} {g a b : Nat} {cs : List Value} {t : TypeId} (h : Cel w g cs t) (k : Grew2 a b w w') (ha : g ≠ a) (hb : g ≠ b) : Cel w' g cs t := by
 have := h.lt
 unfold Cel at h ⊢
 rw [k.block g this ha hb]; exact h
def TkAt (xs ys d : List Nat) (a b k p m l : Nat) : Prop :=
 d.length = k ∧ M.Low B64 d ∧ p < B64 ∧ m < B64 ∧ l ≤ 1 ∧ M.val B64 d + b * M.val B64 (ys.take k) + B64 ^ k * p = a * M.val B64 (xs.take k) + B64 ^ k * (m + l)
theorem tk_step {B P V X Y a b x y o lx hx ly hy p m l l' : Nat} (h : V + b * Y + P * p = a * X + P * (m + l)) (h1 : lx + B * hx = x * a + p) (h2 : ly + B * hy = y * b + m) (h3 : o + ly + l = lx + B * l') :
  (V + P * o) + b * (Y + P * y) + P * B * hx = a * (X + P * x) + P * B * (hy + l') := by
 have e1 : P * (lx + B * hx) = P * (x * a + p) := by rw [h1]
 have e2 : P * (ly + B * hy) = P * (y * b + m) := by rw [h2]
 have e3 : P * (o + ly + l) = P * (lx + B * l') := by rw [h3]
 grind
theorem TkAt.step {xs ys d : List Nat} {a b k p m l : Nat} (lx : M.Low B64 xs) (ly : M.Low B64 ys) (ha : a < B64) (hb : b < B64) (h : TkAt xs ys d a b k p m l) :
  TkAt xs ys (d ++ [dif64 (tLo (lm xs k) a p) (tLo (lm ys k) b m) l]) a b (k + 1) (tHi (lm xs k) a p) (tHi (lm ys k) b m) (bor64 (tLo (lm xs k) a p) (tLo (lm ys k) b m) l) := by
 obtain ⟨h1, h2, h3, h4, h5, h6⟩ := h
 obtain ⟨f1, f2, f3⟩ := t_facts (lm_lt B64_pos lx k) ha h3
 obtain ⟨g1, g2, g3⟩ := t_facts (lm_lt B64_pos ly k) hb h4
 generalize tLo (lm xs k) a p = u at *
 generalize tLo (lm ys k) b m = v at *
 have k1 : dif64 u v l < B64 := by unfold dif64 B64; omega
 have k2 : bor64 u v l ≤ 1 := by unfold bor64; split <;> omega
 have k3 : dif64 u v l + v + l = u + B64 * bor64 u v l := by
  unfold dif64 bor64
  unfold B64 at *
  split <;> omega
 refine ⟨by simp [h1], h2.snoc k1, f1, g1, k2, ?_⟩
 rw [M.val_snoc, h1, M.val_take_succ, M.val_take_succ, Nat.pow_succ]
 exact tk_step h6 f3 g3 k3
theorem tk_fin {P V A C p m l N : Nat} (h : V + C + P * p = A + P * (m + l)) (hV : V < P) (hN : N < P) (hl : l ≤ 1) (hA : A = C + N ∨ C = A + N) :
  (¬ (p < m ∨ (p = m ∧ l ≠ 0)) ∧ V = N) ∨ ((p < m ∨ (p = m ∧ l ≠ 0)) ∧ V ≠ 0 ∧ ∀ V', V' + V = P → V' = N) := by
 rcases hA with rfl | rfl
 ·left
  have h' : V + P * p = N + P * (m + l) := by omega
  have e : p = m + l := by
   rcases Nat.lt_trichotomy p (m + l) with g | g | g
   ·have := Nat.mul_le_mul_left P (show p + 1 ≤ m + l from g)
    rw [Nat.mul_add, Nat.mul_one] at this
    omega
   ·exact g
   ·have := Nat.mul_le_mul_left P (show m + l + 1 ≤ p from g)
    rw [Nat.mul_add, Nat.mul_one] at this
    omega
  rw [e] at h'
  exact ⟨by omega, by omega⟩
 ·have h' : V + N + P * p = P * (m + l) := by omega
  by_cases h0 : N = 0
  ·left
   subst h0
   have e : p = m + l := by
    rcases Nat.lt_trichotomy p (m + l) with g | g | g
    ·have := Nat.mul_le_mul_left P (show p + 1 ≤ m + l from g)
     rw [Nat.mul_add, Nat.mul_one] at this
     omega
    ·exact g
    ·have := Nat.mul_le_mul_left P (show m + l + 1 ≤ p from g)
     rw [Nat.mul_add, Nat.mul_one] at this
     omega
   rw [e] at h'
   exact ⟨by omega, by omega⟩
  ·right
   have e : m + l = p + 1 := by
    rcases Nat.lt_trichotomy (m + l) (p + 1) with g | g | g
    ·have := Nat.mul_le_mul_left P (show m + l ≤ p by omega)
     omega
    ·exact g
    ·have := Nat.mul_le_mul_left P (show p + 2 ≤ m + l from g)
     rw [Nat.mul_add] at this
     omega
   rw [e, Nat.mul_add, Nat.mul_one] at h'
   refine ⟨by omega, by omega, fun V' hV' => by omega⟩
theorem take_walk (a b c d g0 g1 : Nat) (t : TypeId) (xs ys q0 q1 : List Nat) (c0 n1 c1 : Nat) (w : World) (h0 : Bk w g0 (xs ++ q0) t) (h1 : Bk w g1 (ys ++ q1) t) (hg : g0 ≠ g1) (hxy : ys.length = xs.length)
  (ha : a < B64) (hb : b < B64) (hc : c < B64) (hd : d < B64) (lx : M.Low B64 xs) (ly : M.Low B64 ys) (hc1 : xs.length ≤ c1) (hm : xs.length ≤ 1000000)
  (X' Y' : Nat) (eX : a * M.val B64 xs = b * M.val B64 ys + X' ∨ b * M.val B64 ys = a * M.val B64 xs + X') (eY : c * M.val B64 xs = d * M.val B64 ys + Y' ∨ d * M.val B64 ys = c * M.val B64 xs + Y')
  (bX : X' < B64 ^ xs.length) (bY : Y' < B64 ^ xs.length) :
  Calls Tryz.prog 207 #[.agg #[.int .u64 (a : Nat), .int .u64 (b : Nat), .int .u64 (c : Nat), .int .u64 (d : Nat)], .slice (some ⟨g0, 0, none⟩) xs.length c0, .slice (some ⟨g1, 0, none⟩) n1 c1] w fun e w' =>
   ∃ xs' ys' : List Nat, e = .returned (.tuple #[]) ∧ Bk w' g0 (xs' ++ q0) t ∧ Bk w' g1 (ys' ++ q1) t ∧ xs'.length = xs.length ∧ ys'.length = xs.length ∧ M.Low B64 xs' ∧ M.Low B64 ys' ∧ M.val B64 xs' = X' ∧ M.val B64 ys' = Y' ∧ Grew2 g0 g1 w w' := by
 have hcc1 : (xs.length : Int) ≤ c1 := by omega
 have EX := shut eX
 have EY := shut eY
 have BX := shut bX
 have BY := shut bY
 clear eX eY bX bY
 go_enter Tryz.func207, Tryz.ntmps207
 go_wp2
 have kS := Cel.new w [.int .u64 (a : Nat), .int .u64 (b : Nat), .int .u64 (c : Nat), .int .u64 (d : Nat)] 276
 have gS : Grew2 g0 g1 w (w.alloc (.cells #[.int .u64 (a : Nat), .int .u64 (b : Nat), .int .u64 (c : Nat), .int .u64 (d : Nat)] 276)) := Grew2.of ((Below.refl _ _).alloc (Nat.le_refl _) _)
 have lt0 := h0.lt
 have lt1 := h1.lt
 go_loopw [6, 7, 8, 9, 10, 11, 23] (fun va vb vc vd vl vl' i wr => ∃ (k p m p' m' l l' : Nat) (u v : List Nat), k ≤ xs.length ∧ i = .int .i64 k ∧ va = .int .u64 p ∧ vb = .int .u64 m ∧ vc = .int .u64 p' ∧ vd = .int .u64 m' ∧ vl = .int .u64 l ∧ vl' = .int .u64 l' ∧
   TkAt xs ys u a b k p m l ∧ TkAt xs ys v c d k p' m' l' ∧ Bk wr g0 ([] ++ u ++ xs.drop k ++ q0) t ∧ Bk wr g1 ([] ++ v ++ ys.drop k ++ q1) t ∧ Cel wr w.heap.size [.int .u64 (a : Nat), .int .u64 (b : Nat), .int .u64 (c : Nat), .int .u64 (d : Nat)] 276 ∧ Grew2 g0 g1 w wr)
  (fun _ _ _ _ _ _ i _ => xs.length - (intOf i).toNat)
 case atStart => exact ⟨0, 0, 0, 0, 0, 0, 0, [], [], by omega, rfl, rfl, rfl, rfl, rfl, rfl, rfl, ⟨rfl, M.Low.nil _, B64_pos, B64_pos, by omega, by simp [M.val]⟩, ⟨rfl, M.Low.nil _, B64_pos, B64_pos, by omega, by simp [M.val]⟩,
   by simpa using h0.below ((Below.refl _ _).alloc (Nat.le_refl _) _), by simpa using h1.below ((Below.refl _ _).alloc (Nat.le_refl _) _), kS, gS⟩
 case round =>
  clear kS gS
  obtain ⟨k, p, m, p', m', l, l', u, v, hk, rfl, rfl, rfl, rfl, rfl, rfl, rfl, at1, at2, k0, k1, kS, gS⟩ := hrel
  have hul : u.length = k := at1.1
  have hvl : v.length = k := at2.1
  obtain ⟨-, -, ip, im, il, -⟩ := id at1
  obtain ⟨-, -, ip', im', il', -⟩ := id at2
  by_cases hlt : k < xs.length
  ·rw [drop_lm xs k hlt] at k0
   rw [drop_lm ys k (by omega)] at k1
   have x1 := k0.cell (j := k) (by simp; omega)
   have em := lm_mid [] u (xs.drop (k + 1)) q0 (lm xs k)
   rw [List.length_nil, Nat.zero_add, hul] at em
   rw [em] at x1
   have y1 := k1.cell (j := k) (by simp; omega)
   have em := lm_mid [] v (ys.drop (k + 1)) q1 (lm ys k)
   rw [List.length_nil, Nat.zero_add, hvl] at em
   rw [em] at y1
   have f0 := k0.frozen k
   have s0 := kS.cell 0
   have s1 := kS.cell 1
   have s2 := kS.cell 2
   have s3 := kS.cell 3
   simp only [List.getElem?_cons_zero, List.getElem?_cons_succ] at s0 s1 s2 s3
   have hks : (k : Int) < xs.length := by omega
   have hky : (k : Int) < ys.length := by omega
   have ixl := lm_lt B64_pos lx k
   have iyl := lm_lt B64_pos ly k
   have T1 := shut (at1.step lx ly ha hb)
   have T2 := shut (at2.step lx ly hc hd)
   have M1 := shut (fun w => times_any (lm xs k) a p ixl ha ip w)
   have M2 := shut (fun w => times_any (lm ys k) b m iyl hb im w)
   have M3 := shut (fun w => times_any (lm xs k) c p' ixl hc ip' w)
   have M4 := shut (fun w => times_any (lm ys k) d m' iyl hd im' w)
   clear ixl iyl at1 at2 em
   go_wp2_with fail
   refine (M1.out _).mono ?_
   rintro e w1 ⟨rfl, rfl⟩
   go_wp2_with fail
   refine (M2.out _).mono ?_
   rintro e w1 ⟨rfl, rfl⟩
   obtain ⟨o, ho⟩ : ∃ o, o = dif64 (tLo (lm xs k) a p) (tLo (lm ys k) b m) l := ⟨_, rfl⟩
   have HS1 := shut (fun w => sub64 (tLo (lm xs k) a p) (tLo (lm ys k) b m) l il w)
   obtain ⟨w2, hw2⟩ : ∃ w2, w2 = w1.setCell ⟨g0, k, none⟩ (.int .u64 (o : Nat)) := ⟨_, rfl⟩
   have j0 : Bk w2 g0 ([] ++ (u ++ [o]) ++ xs.drop (k + 1) ++ q0) t := by
    have hset := k0.set k o
    have es := set_mid [] u (xs.drop (k + 1)) q0 (lm xs k) o
    rw [List.length_nil, Nat.zero_add, hul] at es
    rw [es, ← hw2] at hset
    exact hset
   have j1 : Bk w2 g1 ([] ++ v ++ (lm ys k :: ys.drop (k + 1)) ++ q1) t := by rw [hw2]; exact k1.other (Ne.symm hg) _ _
   have jS : Cel w2 w.heap.size [.int .u64 (a : Nat), .int .u64 (b : Nat), .int .u64 (c : Nat), .int .u64 (d : Nat)] 276 := by rw [hw2]; exact kS.other (by omega) _ _
   have jG : Grew2 g0 g1 w w2 := by rw [hw2]; exact gS.set0 _ _
   have s2' := jS.cell 2
   have s3' := jS.cell 3
   have f1 := j1.frozen k
   have y2 := j1.cell (j := k) (by simp; omega)
   simp only [List.getElem?_cons_zero, List.getElem?_cons_succ] at s2' s3'
   rw [hw2, ho] at s2' s3' f1 y2
   go_wp2_with (first | simp only [HS1.out])
   rw [← ho, ← hw2]
   rw [← ho, ← hw2] at s2' s3' f1 y2
   have j0' := j0
   rw [ho] at j0'
   clear hw2 ho
   clear s0 s1 s2 s3 HS1 k0 k1 kS gS x1 y1 f0
   refine (M3.out _).mono ?_
   rintro e w3 ⟨rfl, rfl⟩
   go_wp2_with fail
   refine (M4.out _).mono ?_
   rintro e w3 ⟨rfl, rfl⟩
   have HS2 := shut (fun w => sub64 (tLo (lm xs k) c p') (tLo (lm ys k) d m') l' il' w)
   have z1 : Bk (w3.setCell ⟨g1, k, none⟩ (.int .u64 (dif64 (tLo (lm xs k) c p') (tLo (lm ys k) d m') l' : Nat))) g1 ([] ++ (v ++ [dif64 (tLo (lm xs k) c p') (tLo (lm ys k) d m') l']) ++ ys.drop (k + 1) ++ q1) t := by
    have hset := j1.set k (dif64 (tLo (lm xs k) c p') (tLo (lm ys k) d m') l')
    have es := set_mid [] v (ys.drop (k + 1)) q1 (lm ys k) (dif64 (tLo (lm xs k) c p') (tLo (lm ys k) d m') l')
    rw [List.length_nil, Nat.zero_add, hvl] at es
    rw [es] at hset
    exact hset
   have Z1 := shut z1
   have Z0 := shut (j0'.other hg k (.int .u64 (dif64 (tLo (lm xs k) c p') (tLo (lm ys k) d m') l' : Nat)))
   have ZS := shut (jS.other (show w.heap.size ≠ g1 by omega) k (.int .u64 (dif64 (tLo (lm xs k) c p') (tLo (lm ys k) d m') l' : Nat)))
   have ZG := shut (jG.set1 k (.int .u64 (dif64 (tLo (lm xs k) c p') (tLo (lm ys k) d m') l' : Nat)))
   clear z1
   go_wp2_with (first | simp only [HS2.out])
   exact ⟨⟨k + 1, _, _, _, _, _, _, _, _, by omega, by go_num, rfl, rfl, rfl, rfl, rfl, rfl, T1.out, T2.out, Z0.out, Z1.out, ZS.out, ZG.out⟩, by simp [intOf]; omega⟩
  ·have hke : k = xs.length := by omega
   rw [List.drop_of_length_le (by omega), List.append_nil, List.nil_append] at k0 k1
   obtain ⟨-, lu, -, -, -, e1⟩ := at1
   obtain ⟨-, lv, -, -, -, e2⟩ := at2
   rw [M.val_take_all _ _ _ (by omega), M.val_take_all _ _ _ (by omega), hke] at e1 e2
   have lu' := M.val_lt B64_pos lu
   have lv' := M.val_lt B64_pos lv
   rw [hul, hke] at lu'
   rw [hvl, hke] at lv'
   have F1 := shut (tk_fin e1 lu' BX.out il EX.out)
   have F2 := shut (tk_fin e2 lv' BY.out il' EY.out)
   have HU : Hid (u.length = xs.length) := by show _ = _; omega
   have HV : Hid (v.length = xs.length) := by show _ = _; omega
   have A1 : (p < m) ∨ (p = m ∧ l = 1) ∨ (p = m ∧ l = 0) ∨ (m < p) := by omega
   have A2 : (p' < m') ∨ (p' = m' ∧ l' = 1) ∨ (p' = m' ∧ l' = 0) ∨ (m' < p') := by omega
   clear e1 e2 lu' lv' hke hul hvl ip im il ip' im' il' ha hb hc hd lx ly h0 h1
   rcases A1 with h1 | ⟨rfl, rfl⟩ | ⟨rfl, rfl⟩ | h1
   ·have nz : M.val B64 u ≠ 0 ∧ ∀ V', V' + M.val B64 u = B64 ^ xs.length → V' = X' := by
     rcases F1.out with ⟨h, -⟩ | ⟨-, h⟩
     ·exact absurd (by first | exact Or.inl h1 | exact Or.inr ⟨rfl, by omega⟩) h
     ·exact h
    have NZ1 := shut nz
    have HT1 := shut (fun wx (hx : Bk wx g0 (u ++ q0) t) => turn_any g0 t u q0 c0 wx hx lu (by rw [HU.out]; exact hm) nz.1)
    rw [HU.out] at HT1
    clear nz
    go_wp2_with fail
    refine (HT1.out _ k0).mono ?_
    rintro e w5 ⟨u', rfl, k0', lv1, lu', lv3, ov⟩
    replace k1 := k1.only ov (by omega)
    replace gS := gS.trans (Grew2.left ov)
    have V1 := shut (NZ1.out.2 _ lv3)
    replace HU : Hid (u'.length = xs.length) := lv1
    clear lv3 lv1 HT1 NZ1 k0 lu F1 ov
    have k0 := k0'
    have lu := lu'
    clear k0' lu'
    rcases A2 with h2 | ⟨rfl, rfl⟩ | ⟨rfl, rfl⟩ | h2
    ·have nz : M.val B64 v ≠ 0 ∧ ∀ V', V' + M.val B64 v = B64 ^ xs.length → V' = Y' := by
      rcases F2.out with ⟨h, -⟩ | ⟨-, h⟩
      ·exact absurd (by first | exact Or.inl h2 | exact Or.inr ⟨rfl, by omega⟩) h
      ·exact h
     have NZ := shut nz
     have HT2 := shut (fun wx (hx : Bk wx g1 (v ++ q1) t) => turn_any g1 t v q1 c1 wx hx lv (by rw [HV.out]; exact hm) nz.1)
     rw [HV.out] at HT2
     clear nz
     go_wp2_with fail
     refine (HT2.out _ k1).mono ?_
     rintro e w5 ⟨v', rfl, k1', lv1, lv2, lv3, ov⟩
     have k0' := k0.only ov (by omega)
     have gS' := gS.trans (Grew2.right ov)
     have LV := shut (NZ.out.2 _ lv3)
     have LV1 := shut lv1
     clear lv3 lv1 HT2 NZ
     go_wp2
     go_end0
     exact ⟨_, v', rfl, k0', k1', HU.out, LV1.out, lu, lv2, V1.out, LV.out, gS'⟩
    ·have nz : M.val B64 v ≠ 0 ∧ ∀ V', V' + M.val B64 v = B64 ^ xs.length → V' = Y' := by
      rcases F2.out with ⟨h, -⟩ | ⟨-, h⟩
      ·exact absurd (by first | exact Or.inl h2 | exact Or.inr ⟨rfl, by omega⟩) h
      ·exact h
     have NZ := shut nz
     have HT2 := shut (fun wx (hx : Bk wx g1 (v ++ q1) t) => turn_any g1 t v q1 c1 wx hx lv (by rw [HV.out]; exact hm) nz.1)
     rw [HV.out] at HT2
     clear nz
     go_wp2_with fail
     refine (HT2.out _ k1).mono ?_
     rintro e w5 ⟨v', rfl, k1', lv1, lv2, lv3, ov⟩
     have k0' := k0.only ov (by omega)
     have gS' := gS.trans (Grew2.right ov)
     have LV := shut (NZ.out.2 _ lv3)
     have LV1 := shut lv1
     clear lv3 lv1 HT2 NZ
     go_wp2
     go_end0
     exact ⟨_, v', rfl, k0', k1', HU.out, LV1.out, lu, lv2, V1.out, LV.out, gS'⟩
    ·have V2 : Hid (M.val B64 v = Y') := by
      rcases F2.out with ⟨-, h⟩ | ⟨h, -⟩
      ·exact h
      ·exact absurd h (by omega)
     go_wp2_with fail
     go_end0
     first | exact ⟨_, v, rfl, k0, k1, HU.out, HV.out, lu, lv, V1.out, V2.out, gS⟩ | exact ⟨rfl, _, v, k0, k1, HU.out, HV.out, lu, lv, V1.out, V2.out, gS⟩ | exact ⟨rfl, _, k0, v, k1, HU.out, HV.out, lu, lv, V1.out, V2.out, gS⟩
    ·have V2 : Hid (M.val B64 v = Y') := by
      rcases F2.out with ⟨-, h⟩ | ⟨h, -⟩
      ·exact h
      ·exact absurd h (by omega)
     go_wp2_with fail
     go_end0
     first | exact ⟨_, v, rfl, k0, k1, HU.out, HV.out, lu, lv, V1.out, V2.out, gS⟩ | exact ⟨rfl, _, v, k0, k1, HU.out, HV.out, lu, lv, V1.out, V2.out, gS⟩ | exact ⟨rfl, _, k0, v, k1, HU.out, HV.out, lu, lv, V1.out, V2.out, gS⟩
   ·have nz : M.val B64 u ≠ 0 ∧ ∀ V', V' + M.val B64 u = B64 ^ xs.length → V' = X' := by
     rcases F1.out with ⟨h, -⟩ | ⟨-, h⟩
     ·exact absurd (by first | exact Or.inl h1 | exact Or.inr ⟨rfl, by omega⟩) h
     ·exact h
    have NZ1 := shut nz
    have HT1 := shut (fun wx (hx : Bk wx g0 (u ++ q0) t) => turn_any g0 t u q0 c0 wx hx lu (by rw [HU.out]; exact hm) nz.1)
    rw [HU.out] at HT1
    clear nz
    go_wp2_with fail
    refine (HT1.out _ k0).mono ?_
    rintro e w5 ⟨u', rfl, k0', lv1, lu', lv3, ov⟩
    replace k1 := k1.only ov (by omega)
    replace gS := gS.trans (Grew2.left ov)
    have V1 := shut (NZ1.out.2 _ lv3)
    replace HU : Hid (u'.length = xs.length) := lv1
    clear lv3 lv1 HT1 NZ1 k0 lu F1 ov
    have k0 := k0'
    have lu := lu'
    clear k0' lu'
    rcases A2 with h2 | ⟨rfl, rfl⟩ | ⟨rfl, rfl⟩ | h2
    ·have nz : M.val B64 v ≠ 0 ∧ ∀ V', V' + M.val B64 v = B64 ^ xs.length → V' = Y' := by
      rcases F2.out with ⟨h, -⟩ | ⟨-, h⟩
      ·exact absurd (by first | exact Or.inl h2 | exact Or.inr ⟨rfl, by omega⟩) h
      ·exact h
     have NZ := shut nz
     have HT2 := shut (fun wx (hx : Bk wx g1 (v ++ q1) t) => turn_any g1 t v q1 c1 wx hx lv (by rw [HV.out]; exact hm) nz.1)
     rw [HV.out] at HT2
     clear nz
     go_wp2_with fail
     refine (HT2.out _ k1).mono ?_
     rintro e w5 ⟨v', rfl, k1', lv1, lv2, lv3, ov⟩
     have k0' := k0.only ov (by omega)
     have gS' := gS.trans (Grew2.right ov)
     have LV := shut (NZ.out.2 _ lv3)
     have LV1 := shut lv1
     clear lv3 lv1 HT2 NZ
     go_wp2
     go_end0
     exact ⟨_, v', rfl, k0', k1', HU.out, LV1.out, lu, lv2, V1.out, LV.out, gS'⟩
    ·have nz : M.val B64 v ≠ 0 ∧ ∀ V', V' + M.val B64 v = B64 ^ xs.length → V' = Y' := by
      rcases F2.out with ⟨h, -⟩ | ⟨-, h⟩
      ·exact absurd (by first | exact Or.inl h2 | exact Or.inr ⟨rfl, by omega⟩) h
      ·exact h
     have NZ := shut nz
     have HT2 := shut (fun wx (hx : Bk wx g1 (v ++ q1) t) => turn_any g1 t v q1 c1 wx hx lv (by rw [HV.out]; exact hm) nz.1)
     rw [HV.out] at HT2
     clear nz
     go_wp2_with fail
     refine (HT2.out _ k1).mono ?_
     rintro e w5 ⟨v', rfl, k1', lv1, lv2, lv3, ov⟩
     have k0' := k0.only ov (by omega)
     have gS' := gS.trans (Grew2.right ov)
     have LV := shut (NZ.out.2 _ lv3)
     have LV1 := shut lv1
     clear lv3 lv1 HT2 NZ
     go_wp2
     go_end0
     exact ⟨_, v', rfl, k0', k1', HU.out, LV1.out, lu, lv2, V1.out, LV.out, gS'⟩
    ·have V2 : Hid (M.val B64 v = Y') := by
      rcases F2.out with ⟨-, h⟩ | ⟨h, -⟩
      ·exact h
      ·exact absurd h (by omega)
     go_wp2_with fail
     go_end0
     first | exact ⟨_, v, rfl, k0, k1, HU.out, HV.out, lu, lv, V1.out, V2.out, gS⟩ | exact ⟨rfl, _, v, k0, k1, HU.out, HV.out, lu, lv, V1.out, V2.out, gS⟩ | exact ⟨rfl, _, k0, v, k1, HU.out, HV.out, lu, lv, V1.out, V2.out, gS⟩
    ·have V2 : Hid (M.val B64 v = Y') := by
      rcases F2.out with ⟨-, h⟩ | ⟨h, -⟩
      ·exact h
      ·exact absurd h (by omega)
     go_wp2_with fail
     go_end0
     first | exact ⟨_, v, rfl, k0, k1, HU.out, HV.out, lu, lv, V1.out, V2.out, gS⟩ | exact ⟨rfl, _, v, k0, k1, HU.out, HV.out, lu, lv, V1.out, V2.out, gS⟩ | exact ⟨rfl, _, k0, v, k1, HU.out, HV.out, lu, lv, V1.out, V2.out, gS⟩
   ·have V1 : Hid (M.val B64 u = X') := by
     rcases F1.out with ⟨-, h⟩ | ⟨h, -⟩
     ·exact h
     ·exact absurd h (by omega)
    clear F1
    rcases A2 with h2 | ⟨rfl, rfl⟩ | ⟨rfl, rfl⟩ | h2
    ·have nz : M.val B64 v ≠ 0 ∧ ∀ V', V' + M.val B64 v = B64 ^ xs.length → V' = Y' := by
      rcases F2.out with ⟨h, -⟩ | ⟨-, h⟩
      ·exact absurd (by first | exact Or.inl h2 | exact Or.inr ⟨rfl, by omega⟩) h
      ·exact h
     have NZ := shut nz
     have HT2 := shut (fun wx (hx : Bk wx g1 (v ++ q1) t) => turn_any g1 t v q1 c1 wx hx lv (by rw [HV.out]; exact hm) nz.1)
     rw [HV.out] at HT2
     clear nz
     go_wp2_with fail
     refine (HT2.out _ k1).mono ?_
     rintro e w5 ⟨v', rfl, k1', lv1, lv2, lv3, ov⟩
     have k0' := k0.only ov (by omega)
     have gS' := gS.trans (Grew2.right ov)
     have LV := shut (NZ.out.2 _ lv3)
     have LV1 := shut lv1
     clear lv3 lv1 HT2 NZ
     go_wp2
     go_end0
     exact ⟨_, v', rfl, k0', k1', HU.out, LV1.out, lu, lv2, V1.out, LV.out, gS'⟩
    ·have nz : M.val B64 v ≠ 0 ∧ ∀ V', V' + M.val B64 v = B64 ^ xs.length → V' = Y' := by
      rcases F2.out with ⟨h, -⟩ | ⟨-, h⟩
      ·exact absurd (by first | exact Or.inl h2 | exact Or.inr ⟨rfl, by omega⟩) h
      ·exact h
     have NZ := shut nz
     have HT2 := shut (fun wx (hx : Bk wx g1 (v ++ q1) t) => turn_any g1 t v q1 c1 wx hx lv (by rw [HV.out]; exact hm) nz.1)
     rw [HV.out] at HT2
     clear nz
     go_wp2_with fail
     refine (HT2.out _ k1).mono ?_
     rintro e w5 ⟨v', rfl, k1', lv1, lv2, lv3, ov⟩
     have k0' := k0.only ov (by omega)
     have gS' := gS.trans (Grew2.right ov)
     have LV := shut (NZ.out.2 _ lv3)
     have LV1 := shut lv1
     clear lv3 lv1 HT2 NZ
     go_wp2
     go_end0
     exact ⟨_, v', rfl, k0', k1', HU.out, LV1.out, lu, lv2, V1.out, LV.out, gS'⟩
    ·have V2 : Hid (M.val B64 v = Y') := by
      rcases F2.out with ⟨-, h⟩ | ⟨h, -⟩
      ·exact h
      ·exact absurd h (by omega)
     go_wp2_with fail
     go_end0
     first | exact ⟨_, v, rfl, k0, k1, HU.out, HV.out, lu, lv, V1.out, V2.out, gS⟩ | exact ⟨rfl, _, v, k0, k1, HU.out, HV.out, lu, lv, V1.out, V2.out, gS⟩ | exact ⟨rfl, _, k0, v, k1, HU.out, HV.out, lu, lv, V1.out, V2.out, gS⟩
    ·have V2 : Hid (M.val B64 v = Y') := by
      rcases F2.out with ⟨-, h⟩ | ⟨h, -⟩
      ·exact h
      ·exact absurd h (by omega)
     go_wp2_with fail
     go_end0
     first | exact ⟨_, v, rfl, k0, k1, HU.out, HV.out, lu, lv, V1.out, V2.out, gS⟩ | exact ⟨rfl, _, v, k0, k1, HU.out, HV.out, lu, lv, V1.out, V2.out, gS⟩ | exact ⟨rfl, _, k0, v, k1, HU.out, HV.out, lu, lv, V1.out, V2.out, gS⟩
   ·have V1 : Hid (M.val B64 u = X') := by
     rcases F1.out with ⟨-, h⟩ | ⟨h, -⟩
     ·exact h
     ·exact absurd h (by omega)
    clear F1
    rcases A2 with h2 | ⟨rfl, rfl⟩ | ⟨rfl, rfl⟩ | h2
    ·have nz : M.val B64 v ≠ 0 ∧ ∀ V', V' + M.val B64 v = B64 ^ xs.length → V' = Y' := by
      rcases F2.out with ⟨h, -⟩ | ⟨-, h⟩
      ·exact absurd (by first | exact Or.inl h2 | exact Or.inr ⟨rfl, by omega⟩) h
      ·exact h
     have NZ := shut nz
     have HT2 := shut (fun wx (hx : Bk wx g1 (v ++ q1) t) => turn_any g1 t v q1 c1 wx hx lv (by rw [HV.out]; exact hm) nz.1)
     rw [HV.out] at HT2
     clear nz
     go_wp2_with fail
     refine (HT2.out _ k1).mono ?_
     rintro e w5 ⟨v', rfl, k1', lv1, lv2, lv3, ov⟩
     have k0' := k0.only ov (by omega)
     have gS' := gS.trans (Grew2.right ov)
     have LV := shut (NZ.out.2 _ lv3)
     have LV1 := shut lv1
     clear lv3 lv1 HT2 NZ
     go_wp2
     go_end0
     exact ⟨_, v', rfl, k0', k1', HU.out, LV1.out, lu, lv2, V1.out, LV.out, gS'⟩
    ·have nz : M.val B64 v ≠ 0 ∧ ∀ V', V' + M.val B64 v = B64 ^ xs.length → V' = Y' := by
      rcases F2.out with ⟨h, -⟩ | ⟨-, h⟩
      ·exact absurd (by first | exact Or.inl h2 | exact Or.inr ⟨rfl, by omega⟩) h
      ·exact h
     have NZ := shut nz
     have HT2 := shut (fun wx (hx : Bk wx g1 (v ++ q1) t) => turn_any g1 t v q1 c1 wx hx lv (by rw [HV.out]; exact hm) nz.1)
     rw [HV.out] at HT2
     clear nz
     go_wp2_with fail
     refine (HT2.out _ k1).mono ?_
     rintro e w5 ⟨v', rfl, k1', lv1, lv2, lv3, ov⟩
     have k0' := k0.only ov (by omega)
     have gS' := gS.trans (Grew2.right ov)
     have LV := shut (NZ.out.2 _ lv3)
     have LV1 := shut lv1
     clear lv3 lv1 HT2 NZ
     go_wp2
     go_end0
     exact ⟨_, v', rfl, k0', k1', HU.out, LV1.out, lu, lv2, V1.out, LV.out, gS'⟩
    ·have V2 : Hid (M.val B64 v = Y') := by
      rcases F2.out with ⟨-, h⟩ | ⟨h, -⟩
      ·exact h
      ·exact absurd h (by omega)
     go_wp2_with fail
     go_end0
     first | exact ⟨_, v, rfl, k0, k1, HU.out, HV.out, lu, lv, V1.out, V2.out, gS⟩ | exact ⟨rfl, _, v, k0, k1, HU.out, HV.out, lu, lv, V1.out, V2.out, gS⟩ | exact ⟨rfl, _, k0, v, k1, HU.out, HV.out, lu, lv, V1.out, V2.out, gS⟩
    ·have V2 : Hid (M.val B64 v = Y') := by
      rcases F2.out with ⟨-, h⟩ | ⟨h, -⟩
      ·exact h
      ·exact absurd h (by omega)
     go_wp2_with fail
     go_end0
     first | exact ⟨_, v, rfl, k0, k1, HU.out, HV.out, lu, lv, V1.out, V2.out, gS⟩ | exact ⟨rfl, _, v, k0, k1, HU.out, HV.out, lu, lv, V1.out, V2.out, gS⟩ | exact ⟨rfl, _, k0, v, k1, HU.out, HV.out, lu, lv, V1.out, V2.out, gS⟩
open Go.RowKit
theorem succ_lt_pow {b k x : Nat} (hb : 2 ≤ b) (h : x < b ^ k) : x + 1 < b ^ (k + 1) := by
 rw [Nat.pow_succ]
 have h1 : b ^ k * 2 ≤ b ^ k * b := Nat.mul_le_mul_left _ hb
 generalize b ^ k = p at *
 omega
theorem digs_pos {b n : Nat} (hb : 2 ≤ b) (h : n ≠ 0) : 0 < (M.digs b n).length := by
 refine Nat.pos_of_ne_zero fun h0 => ?_
 have := M.val_digs hb n
 rw [List.length_eq_zero_iff.1 h0, M.val_nil] at this
 omega
theorem digs_zero {b n : Nat} (h : n = 0) : (M.digs b n).length = 0 := by subst h; rfl
theorem divmod_pos {X Y K : Nat} (hY : 0 < Y) (hK : K ≤ 4000) (hx : X < B64 ^ K) (hy : Y < B64 ^ K) (v0 v1 : Value) (wx : World) (r0 : Rd wx v0 (M.digs B64 X)) (r1 : Rd wx v1 (M.digs B64 Y)) :
  Calls Tryz.prog 173 #[v0, v1] wx fun e w' => ∃ q r, e = .returned (.tuple #[q, r, .int .i64 0]) ∧ Rd w' q (M.digs B64 (X / Y)) ∧ Rd w' r (M.digs B64 (X % Y)) ∧ Below wx.heap.size wx w' := by
 have := divmod_any v0 v1 _ _ wx r0 r1 (M.Low.digs B64_two _) (M.Low.digs B64_two _) (Nat.le_trans (M.digs_len_of_lt B64_two hx) hK) (Nat.le_trans (M.digs_len_of_lt B64_two hy) hK)
 rw [M.val_digs B64_two, M.val_digs B64_two] at this
 refine this.mono ?_
 rintro e w' ⟨-, h, hb⟩
 obtain ⟨q, r, rfl, hq, hr⟩ := h hY
 exact ⟨q, r, rfl, hq, hr, hb⟩
theorem tell_dig (neg : Bool) {V K : Nat} (hK : K ≤ 4000) (hV : V < B64 ^ K) (v : Value) (wx : World) (hr : Rd wx v (M.digs B64 V)) :
  Calls Tryz.prog 170 #[.agg #[.bool neg, v]] wx (Re wx (zI (sgn neg V))) := by
 have := tell_any neg v _ wx hr (M.Low.digs B64_two _) (Nat.le_trans (M.digs_len_of_lt B64_two hV) hK)
 rwa [M.val_digs B64_two] at this
end Go.Proofs.YtnplifkgeeicjaaGreatDoor
namespace Go.Proofs.YtnplifkgeeicjaaGreatDoor
open Go.RowKit Go.Shelf
def dt (n : Nat) : List Nat := ((M.digs 10 n).map (48 + ·)).reverse
theorem dt_pos {n : Nat} (h : 0 < n) : dt n = dt (n / 10) ++ [48 + n % 10] := by
 unfold dt
 rw [M.digs_pos (by omega) h, List.map_cons, List.reverse_cons]
theorem dt_len {n k : Nat} (h : n < 256 ^ k) : (dt n).length ≤ 3 * k := by
 unfold dt
 rw [List.length_reverse, List.length_map]
 refine M.digs_len_of_lt (by omega) (Nat.lt_of_lt_of_le h ?_)
 rw [Nat.pow_mul]
 exact Nat.pow_le_pow_left (by decide) k
theorem dt_size (s : ByteArray) (k : Nat) (h : s.size ≤ k) : (dt (natOf s)).length ≤ 3 * k := dt_len (Nat.lt_of_lt_of_le (natOf_lt s) (Nat.pow_le_pow_right (by omega) h))
theorem strB_size (l : List Nat) : (strB l).size = l.length := by simp [strB, ByteArray.size]
theorem strB_cons (x : Nat) (l : List Nat) : strB (x :: l) = strB [x] ++ strB l := by
 apply ByteArray.ext
 simp [strB, ByteArray.data_append]
theorem strB_ne {l : List Nat} (h : l ≠ []) : (strB l).toList.isEmpty = false := by
 cases l with
 | nil => exact absurd rfl h
 | cons x l => rw [ByteArray.toList_eq]; rfl
open Go.RowKit
theorem boxRow (w : World) (m : Nat) : ∃ w0, w0 = (w.alloc (.cells #[.bool false, .string { data := #[] }] 24)).alloc (.cells #[.int .u64 (m : Nat)] 170) ∧
  Cel w0 w.heap.size [.bool false, .string { data := #[] }] 24 ∧ Rd w0 (.slice (some ⟨w.heap.size + 1, 0, none⟩) 1 1) [m] ∧ Below w.heap.size w w0 := by
 refine ⟨_, rfl, (Cel.new w _ 24).alloc _, rd1 _ (by simp) m, by go_grown⟩
open Go.RowKit
theorem make0_any (neg : Bool) (va : Value) (xs : List Nat) (w : World) (ha : Rd w va xs) (la : M.Low D32 xs) (hx : xs.length ≤ 100000) :
  Calls Tryz.prog 115 #[.bool neg, va] w (Re w (zI (sgn neg (M.val D32 xs)))) := by
 rw [zI_sgn]
 have H := shut (fun w0 h0 => rnat_any va xs w0 h0 la hx)
 have HE := shut (strOf_empty (M.val D32 xs))
 generalize strOf (M.val D32 xs) = s at *
 have ha0 := ha
 obtain ⟨a, ca, rfl, -, -⟩ := ha
 go_enter Tryz.func115, Tryz.ntmps115
 go_wp2_with fail
 obtain ⟨w0, hw0⟩ : ∃ w0, w0 = w.alloc (.cells #[.bool false, .string { data := #[] }] 24) := ⟨_, rfl⟩
 have k2 : Cel w0 w.heap.size [.bool false, .string { data := #[] }] 24 := by rw [hw0]; exact Cel.new w _ _
 have hb0 : Below w.heap.size w w0 := by rw [hw0]; exact (Below.refl _ _).alloc (Nat.le_refl _) _
 rw [← hw0]
 clear hw0
 refine (H.out w0 (ha0.below hb0)).mono ?_
 rintro e w1 ⟨rfl, hb⟩
 have k2' := k2.below hb
 have bb := Below.after hb0 hb
 obtain ⟨c1, c2⟩ := xk2 k2'
 have f1 := k2'.frozen 0
 have f2 := k2'.frozen 1
 clear H HE
 cases neg
 ·go_wp2
  exact post_z (p := 4) (by kernel_rfl) rfl rfl ((k2'.set 0 _).set 1 _) ⟨rfl, (bb.setCell (by simp) _).setCell (by simp) _⟩
 ·go_wp2
  exact post_z (p := 4) (by kernel_rfl) rfl rfl ((k2'.set 0 _).set 1 _) ⟨rfl, (bb.setCell (by simp) _).setCell (by simp) _⟩
theorem split_one {m : Nat} (hm : m < B64) (v : Value) (w : World) (h : Rd w v [m]) :
  Calls Tryz.prog 116 #[v] w fun e w' => ∃ v, e = .returned v ∧ Rd w' v (M.digs D32 m) ∧ Below w.heap.size w w' := by
 have := split_any v [m] w h (low_of_all (by simpa using hm)) (by simp)
 rwa [show M.val B64 [m] = m from by simp [M.val_cons, M.val_nil]] at this
theorem make0_dig (neg : Bool) (m : Nat) (hm : m < B64) (v : Value) (w : World) (h : Rd w v (M.digs D32 m)) :
  Calls Tryz.prog 115 #[.bool neg, v] w (Re w (zI (sgn neg m))) := by
 have hl : (M.digs D32 m).length ≤ 2 := M.digs_len_of_lt D32_two (by rw [show D32 ^ 2 = B64 from by rw [Nat.pow_two, D32_sq]]; exact hm)
 have := make0_any neg v _ w h (M.Low.digs D32_two _) (by omega)
 rwa [M.val_digs D32_two] at this
theorem rof_any (n : Int) (h1 : -9223372036854775808 ≤ n) (h2 : n < 9223372036854775808) (w : World) :
  Calls Tryz.prog 58 #[.int .i64 n] w (Re w (zI n)) := by
 obtain ⟨m, hm⟩ : ∃ m : Nat, m = n.natAbs := ⟨_, rfl⟩
 have hmB : m < B64 := by unfold B64; omega
 have HS := shut (fun v w h => split_one hmB v w h)
 by_cases hn : n < 0
 ·have HM := shut (fun v w h => make0_dig true m hmB v w h)
  rw [show sgn true m = n from by simp [sgn]; omega] at HM
  generalize hR : zI n = R at *
  obtain ⟨za, zb, rfl⟩ : ∃ a b, R = .agg #[.bool a, .string b] := ⟨_, _, hR.symm⟩
  clear hR hmB
  have g1 : IntKind.i64.wrap (n + 1) = n + 1 := by simp only [IntKind.wrap_i64]; omega
  have g2 : IntKind.i64.wrap (-(n + 1)) = -(n + 1) := by simp only [IntKind.wrap_i64]; omega
  have g3 : IntKind.u64.wrap (-(n + 1)) = -(n + 1) := by simp only [IntKind.wrap_u64]; omega
  have g4 : IntKind.u64.wrap (-(n + 1) + 1) = (m : Int) := by simp only [IntKind.wrap_u64]; omega
  clear hm
  go_enter Tryz.func58, Tryz.ntmps58
  go_wp2_with fail
  obtain ⟨w0, hw0, k0, r0, hb0⟩ := boxRow w m
  rw [← hw0]
  clear hw0
  refine (HS.out _ w0 r0).mono ?_
  rintro e w1 ⟨v, rfl, rv, hb1⟩
  obtain ⟨av, cv, rfl, -, -⟩ := id rv
  go_wp2_with fail
  refine (HM.out _ w1 rv).mono ?_
  rintro e w2 ⟨rfl, hb2⟩
  have bb2 := Below.after hb1 hb2
  have m2 := k0.below bb2
  have bb := Below.after hb0 bb2
  obtain ⟨e0, e1⟩ := xk2 m2
  have f0 := m2.frozen 0
  have f1 := m2.frozen 1
  go_wp2
  exact post_z (p := 2) (by kernel_rfl) rfl rfl ((m2.set 0 _).set 1 _) ⟨rfl, (bb.setCell (by simp) _).setCell (by simp) _⟩
 ·have g0 : n = (m : Int) := by omega
  have HM := shut (fun v w h => make0_dig false m hmB v w h)
  rw [show sgn false m = n from by simp [sgn]; omega] at HM
  generalize hR : zI n = R at *
  obtain ⟨za, zb, rfl⟩ : ∃ a b, R = .agg #[.bool a, .string b] := ⟨_, _, hR.symm⟩
  clear hR hmB hm
  subst g0
  have g1 : IntKind.u64.wrap (m : Int) = (m : Int) := by simp only [IntKind.wrap_u64]; omega
  go_enter Tryz.func58, Tryz.ntmps58
  go_wp2_with fail
  obtain ⟨w0, hw0, k0, r0, hb0⟩ := boxRow w m
  rw [← hw0]
  clear hw0
  refine (HS.out _ w0 r0).mono ?_
  rintro e w1 ⟨v, rfl, rv, hb1⟩
  obtain ⟨av, cv, rfl, -, -⟩ := id rv
  go_wp2_with fail
  refine (HM.out _ w1 rv).mono ?_
  rintro e w2 ⟨rfl, hb2⟩
  have bb2 := Below.after hb1 hb2
  have m2 := k0.below bb2
  have bb := Below.after hb0 bb2
  obtain ⟨e0, e1⟩ := xk2 m2
  have f0 := m2.frozen 0
  have f1 := m2.frozen 1
  go_wp2
  exact post_z (p := 2) (by kernel_rfl) rfl rfl ((m2.set 0 _).set 1 _) ⟨rfl, (bb.setCell (by simp) _).setCell (by simp) _⟩
open Go.RowKit
def HfAt (xs zs : List Nat) (k r : Nat) : Prop := zs.length = xs.length - k ∧ M.Low D32 zs ∧ r ≤ 1 ∧ 2 * M.val D32 zs + r = M.val D32 (xs.drop k)
theorem HfAt.step {xs zs : List Nat} {k r : Nat} (lx : M.Low D32 xs) (hk : k + 1 ≤ xs.length) (h : HfAt xs zs (k + 1) r) : HfAt xs ((D32 * r + lm xs k) / 2 :: zs) k ((D32 * r + lm xs k) % 2) := by
 obtain ⟨h1, h2, h3, h4⟩ := h
 have b1 : lm xs k < D32 := lm_lt D32_pos lx k
 refine ⟨by simp; omega, ?_, by omega, ?_⟩
 ·intro x hx
  rcases List.mem_cons.1 hx with rfl | hx
  ·unfold D32 at *; omega
  ·exact h2 x hx
 ·rw [drop_lm xs k (by omega), M.val_cons, M.val_cons, ← h4]
  have e := Nat.div_add_mod (D32 * r + lm xs k) 2
  rw [Nat.mul_add D32]
  have e2 : D32 * (2 * M.val D32 zs) = 2 * (D32 * M.val D32 zs) := Nat.mul_left_comm _ _ _
  omega
theorem rhalf_any (va : Value) (xs : List Nat) (w : World) (ha : Rd w va xs) (la : M.Low D32 xs) (hx : xs.length ≤ 100000) :
  Calls Tryz.prog 193 #[va] w fun e w' => ∃ v, e = .returned (.tuple #[v, .bool (decide (M.val D32 xs % 2 = 1))]) ∧ Rd w' v (M.digs D32 (M.val D32 xs / 2)) ∧ Below w.heap.size w w' := by
 have ha0 := ha
 obtain ⟨a, ca, rfl, hca, -⟩ := ha
 obtain ⟨n, hn⟩ : ∃ n, n = xs.length := ⟨_, rfl⟩
 rw [← hn] at ha0 hca hx ⊢
 have HN := shut hn
 clear hn
 go_enter Tryz.func193, Tryz.ntmps193
 go_wp2_with (at_make; refine wpList_mk rfl _ _ rfl _ n rfl rfl (by omega) (by omega) ?_; intro w2 hblk hbel)
 go_loopw [5, 6] (fun r i wr => ∃ (k rr : Nat) (zs : List Nat), k ≤ n ∧ i = .int .i64 ((k : Int) - 1) ∧ r = .int .u64 rr ∧ HfAt xs zs k rr ∧ Blk wr w.heap.size (List.replicate k 0 ++ zs) ∧ Below w.heap.size w wr) (fun _ i _ => (intOf i + 1).toNat)
 case atStart => exact ⟨n, 0, [], Nat.le_refl _, rfl, rfl, ⟨by rw [HN.out]; simp, M.Low.nil _, by omega, by rw [HN.out]; simp [M.val]⟩, by simpa using hblk, hbel⟩
 case round =>
  obtain ⟨k, rr, zs, hk, rfl, rfl, hat, hblk', hbel'⟩ := hrel
  match k with
  | 0 =>
   obtain ⟨h1, h2, h3, h4⟩ := hat
   rw [List.drop_zero] at h4
   rw [List.replicate_zero, List.nil_append] at hblk'
   have hzl : zs.length = n := by rw [h1, HN.out]; omega
   have hrd : Rd wr (.slice (some ⟨w.heap.size, 0, none⟩) n n) zs := by
    have := hblk'.rd0 n (by omega)
    rwa [hzl] at this
   have e1 : M.val D32 zs = M.val D32 xs / 2 := by omega
   have e2 : ((rr : Int) == 1) = decide (M.val D32 xs % 2 = 1) := by
    rw [Bool.eq_iff_iff]
    simp
    omega
   have E1 := shut e1
   have E2 := shut e2
   have hlen : zs.length ≤ 1000000 := by omega
   clear h4 e1 e2 h1 h3 hzl
   go_wp2_with fail
   refine (trim_any D32 D32_two _ _ zs hrd h2 hlen).mono ?_
   rintro e w' ⟨v', rfl, hv', rfl⟩
   go_wp2
   go_ret2
   exact ⟨_, by rw [← E2.out]; rfl, by rw [← E1.out]; exact hv', hbel'⟩
  | k + 1 =>
   have HST := shut (hat.step la (by rw [← HN.out]; exact hk))
   have b1 : lm xs k < 4294967296 := lm_lt D32_pos la k
   have hr1 : rr ≤ 1 := hat.2.2.1
   have hzl : zs.length = n - (k + 1) := by rw [hat.1, HN.out]
   obtain ⟨b1', o1, rfl, q1⟩ := ha0.at hbel' (j := k) (by rw [← HN.out]; omega)
   have hc1 := hblk'.cell (j := k) (by simp; omega)
   have hf1 := hblk'.frozen k
   have hset : ∀ y, Blk (wr.setCell ⟨w.heap.size, k, none⟩ (.int .u64 (y : Nat))) w.heap.size (List.replicate k 0 ++ y :: zs) := fun y => by
    have h := hblk'.set k y
    have e : (List.replicate (k + 1) 0 ++ zs).set k y = List.replicate k 0 ++ y :: zs := by
     rw [List.replicate_succ', List.append_assoc, List.set_append_right _ _ (by simp)]
     simp
    rwa [e] at h
   have HS := shut (hset ((D32 * rr + lm xs k) / 2))
   have ik : (k : Int) < n := by omega
   clear hset hat hzl
   go_wp2
   have e1 : ((rr : Int) * 4294967296 + (lm xs k : Int)) % 2 = (((D32 * rr + lm xs k) % 2 : Nat) : Int) := by unfold D32; omega
   have e2 : ((rr : Int) * 4294967296 + (lm xs k : Int)) / 2 = (((D32 * rr + lm xs k) / 2 : Nat) : Int) := by unfold D32; omega
   rw [e1, e2]
   exact ⟨⟨k, _, _, by omega, rfl, rfl, HST.out, HS.out, hbel'.setCell (Nat.le_refl _) _⟩, by simp only [intOf]; omega⟩
open Go.RowKit
theorem rb2 (w : World) (x0 x1 y0 y1 : Value) : ∃ w0, w0 = (w.alloc (.cells #[x0, x1] 24)).alloc (.cells #[y0, y1] 24) ∧
  Cel w0 w.heap.size [x0, x1] 24 ∧ Cel w0 (w.heap.size + 1) [y0, y1] 24 ∧ Below w.heap.size w w0 := by
 refine ⟨_, rfl, (Cel.new w [x0, x1] _).alloc _, ?_, by go_grown⟩
 have := Cel.new (w.alloc (.cells #[x0, x1] 24)) [y0, y1] 24
 simpa using this
theorem rb3 (w : World) (x0 x1 y0 y1 : Value) : ∃ w0, w0 = ((w.alloc (.cells #[x0, x1] 24)).alloc (.cells #[y0, y1] 24)).alloc (.cells #[.bool false, .string { data := #[] }] 24) ∧
  Cel w0 w.heap.size [x0, x1] 24 ∧ Cel w0 (w.heap.size + 1) [y0, y1] 24 ∧ Cel w0 (w.heap.size + 1 + 1) [.bool false, .string { data := #[] }] 24 ∧ Below w.heap.size w w0 := by
 refine ⟨_, rfl, ((Cel.new w [x0, x1] _).alloc _).alloc _, ?_, ?_, by go_grown⟩
 ·have := (Cel.new (w.alloc (.cells #[x0, x1] 24)) [y0, y1] 24).alloc (.cells #[.bool false, .string { data := #[] }] 24)
  simpa using this
 ·have := Cel.new ((w.alloc (.cells #[x0, x1] 24)).alloc (.cells #[y0, y1] 24)) [.bool false, .string { data := #[] }] 24
  simpa using this
theorem D32_pow (k : Nat) : D32 ^ k = 256 ^ (4 * k) := by rw [Nat.pow_mul]; rfl
theorem natOf_lt4 {s : ByteArray} (k : Nat) (h : s.size ≤ 4 * k) : natOf s < D32 ^ k := Nat.lt_of_lt_of_le (natOf_lt s) (by rw [D32_pow]; exact Nat.pow_le_pow_right (by omega) h)
theorem dlen {V K : Nat} (h : V < D32 ^ K) : (M.digs D32 V).length ≤ K := M.digs_len_of_lt D32_two h
theorem radd_dig {X Y K : Nat} (hK : K ≤ 50000) (hx : X < D32 ^ K) (hy : Y < D32 ^ K) (v0 v1 : Value) (w : World) (r0 : Rd w v0 (M.digs D32 X)) (r1 : Rd w v1 (M.digs D32 Y)) :
  Calls Tryz.prog 141 #[v0, v1] w fun e w' => ∃ v, e = .returned v ∧ Rd w' v (M.digs D32 (X + Y)) ∧ Below w.heap.size w w' := by
 have := radd_any v0 v1 _ _ w r0 r1 (M.Low.digs D32_two _) (M.Low.digs D32_two _) (Nat.le_trans (dlen hx) (by omega)) (Nat.le_trans (dlen hy) (by omega))
 rwa [M.val_digs D32_two, M.val_digs D32_two] at this
theorem digs_mono {b X Y : Nat} (hb : 2 ≤ b) (h : Y ≤ X) : (M.digs b Y).length ≤ (M.digs b X).length := by
 refine M.digs_len_of_lt hb (Nat.lt_of_le_of_lt h ?_)
 have := M.val_lt (by omega) (M.Low.digs hb X)
 rwa [M.val_digs hb] at this
theorem rsub_dig {X Y K : Nat} (hK : K ≤ 50000) (hx : X < D32 ^ K) (hle : Y ≤ X) (v0 v1 : Value) (w : World) (r0 : Rd w v0 (M.digs D32 X)) (r1 : Rd w v1 (M.digs D32 Y)) :
  Calls Tryz.prog 143 #[v0, v1] w fun e w' => ∃ v, e = .returned v ∧ Rd w' v (M.digs D32 (X - Y)) ∧ Below w.heap.size w w' := by
 have := rsub_any v0 v1 _ _ w r0 r1 (M.Low.digs D32_two _) (M.Low.digs D32_two _) (Nat.le_trans (dlen hx) (by omega)) (digs_mono D32_two hle) (by rw [M.val_digs D32_two, M.val_digs D32_two]; exact hle)
 rwa [M.val_digs D32_two, M.val_digs D32_two] at this
theorem rcmp_dig {X Y K : Nat} (hK : K ≤ 50000) (hx : X < D32 ^ K) (v0 v1 : Value) (w : World) (r0 : Rd w v0 (M.digs D32 X)) (r1 : Rd w v1 (M.digs D32 Y)) :
  Calls Tryz.prog 142 #[v0, v1] w (Re w (.int .i64 (cmpN X Y))) := by
 have := rcmp_any D32 D32_pos v0 v1 _ _ w r0 r1 (M.Low.digs D32_two _) (M.Low.digs D32_two _) (M.trim_digs D32_two _) (M.trim_digs D32_two _) (Nat.le_trans (dlen hx) (by omega))
 rwa [M.val_digs D32_two, M.val_digs D32_two] at this
theorem rdiv_dig {X Y K : Nat} (hK : K ≤ 50000) (hx : X < D32 ^ K) (hy : Y < D32 ^ K) (h0 : 0 < Y) (v0 v1 : Value) (w : World) (r0 : Rd w v0 (M.digs D32 X)) (r1 : Rd w v1 (M.digs D32 Y)) :
  Calls Tryz.prog 112 #[v0, v1] w fun e w' => ∃ q r, e = .returned (.tuple #[q, r]) ∧ Rd w' q (M.digs D32 (X / Y)) ∧ Rd w' r (M.digs D32 (X % Y)) ∧ Below w.heap.size w w' := by
 have := rdiv_any v0 v1 _ _ w r0 r1 (M.Low.digs D32_two _) (M.Low.digs D32_two _) (M.trim_digs D32_two _) (digs_pos D32_two (by omega)) (Nat.le_trans (dlen hx) (by omega)) (Nat.le_trans (dlen hy) (by omega))
 rwa [M.val_digs D32_two, M.val_digs D32_two] at this
theorem make0_val (neg : Bool) {V K : Nat} (hK : K ≤ 100000) (hV : V < D32 ^ K) (v : Value) (w : World) (h : Rd w v (M.digs D32 V)) :
  Calls Tryz.prog 115 #[.bool neg, v] w (Re w (zI (sgn neg V))) := by
 have := make0_any neg v _ w h (M.Low.digs D32_two _) (Nat.le_trans (dlen hV) hK)
 rwa [M.val_digs D32_two] at this
open Go.RowKit
theorem natOf_lt8 {s : ByteArray} (k : Nat) (h : s.size ≤ 8 * k) : natOf s < B64 ^ k := Nat.lt_of_lt_of_le (natOf_lt s) (by rw [B64_pow]; exact Nat.pow_le_pow_right (by omega) h)
open Go.RowKit
theorem dig_any (s : ByteArray) (w : World) (hm : s.size ≤ 40000) :
  Calls Tryz.prog 113 #[.string s] w fun e w' => ∃ v, e = .returned v ∧ Rd w' v (M.digs D32 (natOf s)) ∧ Below w.heap.size w w' := digits_any s w (by omega)
open Go.RowKit
theorem boxes4 (w : World) (x0 x1 y0 y1 : Value) : ∃ w0, w0 = (((w.alloc (.cells #[x0, x1] 24)).alloc (.cells #[y0, y1] 24)).alloc (.cells #[.bool false, .string { data := #[] }] 24)).alloc (.cells #[x0, x1, y0, y1] 24) ∧
  Cel w0 w.heap.size [x0, x1] 24 ∧ Cel w0 (w.heap.size + 1) [y0, y1] 24 ∧ Cel w0 (w.heap.size + 1 + 1) [.bool false, .string { data := #[] }] 24 ∧ Cel w0 (w.heap.size + 1 + 1 + 1) [x0, x1, y0, y1] 24 ∧ Below w.heap.size w w0 := by
 refine ⟨_, rfl, (((Cel.new w [x0, x1] 24).alloc _).alloc _).alloc _, ?_, ?_, ?_, by go_grown⟩
 ·have := ((Cel.new (w.alloc (.cells #[x0, x1] 24)) [y0, y1] 24).alloc (.cells #[.bool false, .string { data := #[] }] 24)).alloc (.cells #[x0, x1, y0, y1] 24)
  simpa using this
 ·have := (Cel.new ((w.alloc (.cells #[x0, x1] 24)).alloc (.cells #[y0, y1] 24)) [.bool false, .string { data := #[] }] 24).alloc (.cells #[x0, x1, y0, y1] 24)
  simpa using this
 ·have := Cel.new (((w.alloc (.cells #[x0, x1] 24)).alloc (.cells #[y0, y1] 24)).alloc (.cells #[.bool false, .string { data := #[] }] 24)) [x0, x1, y0, y1] 24
  simpa using this
theorem sgn_natOf (neg : Bool) (s : ByteArray) : sgn neg (natOf s) = zOf neg s := rfl
end Go.Proofs.YtnplifkgeeicjaaGreatDoor
namespace Go.Proofs.YtnplifkgeeicjaaGreatDoor
open Go.RowKit Go.Shelf
theorem run_mk1 (w : World) : (Instr.makeSlice 229 (.int .i64 1) (.int .i64 1)).run Tryz.prog w = .ok (.slice (some ⟨w.heap.size, 0, none⟩) 1 1) (w.alloc (.cells #[.bool false, .slice none 0 0] 228)) := by
 obtain ⟨i0, hi, hz0, hz1, hz2⟩ := info_parts (show (Tryz.prog.info? 228).map (fun i => (i.zero, i.size, i.bytes)) = some (some (.agg #[.bool false, .slice none 0 0]), 2, 32) by kernel_rfl)
 have h := run_make (P := Tryz.prog) w 229 228 i0 (.agg #[.bool false, .slice none 0 0]) Tryz.underlying229 hi hz0 .i64 .i64 1 1 (by omega) (by omega) (by rw [hz2]; omega) (by omega)
 rw [h, hz1]
 have e : madeCells (Value.cells (.agg #[.bool false, .slice none 0 0])) (Int.toNat 1 * 2) = #[.bool false, .slice none 0 0] := by
  have : Value.cells (.agg #[.bool false, .slice none 0 0]) = #[.bool false, .slice none 0 0] := by kernel_rfl
  rw [this]
  unfold madeCells
  apply Array.toList_inj.1
  rw [Array.toList_map, Array.toList_range]
  rfl
 rw [e]
 rfl
theorem no_ints1 (n0 : Bool) (a : Option Addr) (l c : Nat) : ∀ (j : Nat) (k : IntKind) (n : Int), [Value.bool n0, .slice a l c][j]? ≠ some (.int k n) := by
 intro j k n
 match j with
 | 0 => simp
 | 1 => simp
 | j + 2 => simp
theorem read1_ok (B : Nat) (n0 : Bool) (s0 : ByteArray) (w : World) (hB : Cel w B [.bool n0, .string s0] 24) (o0 : OkZ n0 s0) (z0 : s0.size ≤ 32000) :
  Calls Tryz.prog 171 #[.slice (some ⟨B, 0, none⟩) 1 1] w fun e w' => ∃ g v0, e = .returned (.tuple #[.slice (some ⟨g, 0, none⟩) 1 1, .int .i64 0]) ∧ Cel w' g [.bool n0, v0] 228 ∧ RdX w' v0 (M.digs B64 (natOf s0)) g ∧ w.heap.size ≤ g ∧ Below w.heap.size w w' := by
 have hmk := run_mk1 w
 have Z0 := shut ((chk_ok z0).2 o0)
 have H0 := shut o0.1
 clear o0
 go_enter Tryz.func171, Tryz.ntmps171
 go_wp2
 go_loopw [15] (fun i wr => Below w.heap.size w wr ∧ ((i = .int .i64 0 ∧ Cel wr w.heap.size [.bool false, .slice none 0 0] 228) ∨
   (i = .int .i64 1 ∧ ∃ v0, Cel wr w.heap.size [.bool n0, v0] 228 ∧ RdX wr v0 (M.digs B64 (natOf s0)) w.heap.size))) (fun i _ => 1 - (intOf i).toNat)
 case atStart => exact ⟨(Below.refl _ _).alloc (Nat.le_refl _) _, Or.inl ⟨rfl, Cel.new w [.bool false, .slice none 0 0] _⟩⟩
 case round =>
  obtain ⟨hbel, hc⟩ := hrel
  have kB := hB.below hbel
  obtain ⟨b0, b1⟩ := xk2 kB
  clear kB
  rcases hc with ⟨rfl, hc⟩ | ⟨rfl, v0, hc, r0⟩
  ·go_wp2_with fail
   obtain ⟨w1, hw1⟩ : ∃ w1, w1 = wr.alloc (.cells #[.bool n0, .string s0] 24) := ⟨_, rfl⟩
   have hb1 : Below wr.heap.size wr w1 := by rw [hw1]; exact (Below.refl _ _).alloc (Nat.le_refl _) _
   have k1 : Cel w1 wr.heap.size [.bool n0, .string s0] 24 := by rw [hw1]; exact Cel.new wr _ _
   rw [← hw1]
   clear hw1 b0 b1
   refine (check_any n0 s0 w1).mono ?_
   rintro e w2 ⟨rfl, hb2⟩
   rw [Z0.out]
   have k2 := k1.below hb2
   obtain ⟨d0, d1⟩ := xk2 k2
   go_wp2_with fail
   refine (of_any s0 w2 z0 H0.out).mono ?_
   rintro e w3 ⟨v, rfl, rv, hb3⟩
   obtain ⟨av, cv, rfl, -, -⟩ := id rv
   have k3' := k2.below hb3
   have d0 := cel2_0' k3'
   have k3 := ((hc.below hb1).below hb2).below hb3
   have bb3 := Below.after (Below.after (Below.after hbel hb1) hb2) hb3
   obtain ⟨e0, e1⟩ := xk2 k3
   have f0 := k3.frozen 0
   have f1 := k3.frozen 1
   have rx := rdx_of_cel rv k3 (no_ints1 _ _ _ _)
   have HRX := shut ((rx.setX 0 (.bool n0)).setX 1 (.slice av (M.digs B64 (natOf s0)).length cv))
   clear rx
   go_wp2
   exact ⟨⟨(bb3.setCell (Nat.le_refl _) _).setCell (Nat.le_refl _) _, Or.inr ⟨by go_num, _, (k3.set 0 _).set 1 _, HRX.out⟩⟩, by simp [intOf]⟩
  ·go_wp2
   go_ret2
   exact ⟨_, v0, rfl, hc, r0, Nat.le_refl _, hbel⟩
def ten19 : Nat := 10000000000000000000
def slen : Value → Nat
 | .slice _ n _ => n
 | _ => 0
end Go.Proofs.YtnplifkgeeicjaaGreatDoor
