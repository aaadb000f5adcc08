/-
  Package whole: times, turn; rows in blocks of whatever type.
  Package whole: the leading limbs of a row.
  Package gussetref01: half.
  Package whole: Add.
  Package whole: Div of numbers that may be.
  Rational numbers as they are told: a sign, bytes above, bytes below. What numbers of so many bytes come to; numbers behind names.
-/
import Derived.Test.YtbafjmjcepcckaaGreatDoorM20
import Derived.Test.YtbafjmjcepcckaaGreatDoorM24
import Derived.Test.YtbafjmjcepcckaaGreatDoorM25
set_option maxRecDepth 100000
set_option maxHeartbeats 1000000
namespace Go.Proofs.YtbafjmjcepcckaaGreatDoor
open Go.RowKit
def Bk (w : World) (g : Nat) (ys : List Nat) (t : TypeId) : Prop := w.heap[g]? = some (.cells (cellsOf ys) t (0, 0))
theorem Bk.lt {w : World} {g : Nat} {ys : List Nat} {t : TypeId} (h : Bk w g ys t) : g < w.heap.size := by
 unfold Bk at h
 by_cases hg : g < w.heap.size
 ·exact hg
 ·rw [Array.getElem?_eq_none (by omega)] at h; cases h
theorem Bk.cell {w : World} {g : Nat} {ys : List Nat} {t : TypeId} (h : Bk w g ys t) {j : Nat} (hj : j < ys.length) : w.cell? ⟨g, j, none⟩ = some (.int .u64 (lm ys j : Nat)) := by
 unfold Bk at h
 simp [World.cell?, h, cellsOf, lm, hj]
theorem Bk.frozen {w : World} {g : Nat} {ys : List Nat} {t : TypeId} (h : Bk w g ys t) (j : Nat) : w.frozen? ⟨g, j, none⟩ = false := by
 unfold Bk at h
 simp [World.frozen?, h]
theorem Bk.set {w : World} {g : Nat} {ys : List Nat} {t : TypeId} (h : Bk w g ys t) (j x : Nat) : Bk (w.setCell ⟨g, j, none⟩ (.int .u64 (x : Nat))) g (ys.set j x) t := by
 unfold Bk at h ⊢
 simp [World.setCell, Array.getElem?_modify, h, cellsOf]
theorem Bk.other {w : World} {g g' : Nat} {ys : List Nat} {t : TypeId} (h : Bk w g ys t) (hn : g ≠ g') (j : Nat) (v : Value) : Bk (w.setCell ⟨g', j, none⟩ v) g ys t := by
 unfold Bk at h ⊢
 rw [Below.heap_setCell _ _ _ _ (by exact hn)]; exact h
theorem Bk.below {w w' : World} {g : Nat} {ys : List Nat} {t : TypeId} (h : Bk w g ys t) (hb : Below w.heap.size w w') : Bk w' g ys t := by
 have := h.lt
 unfold Bk at h ⊢
 rw [hb.block g this]; exact h
theorem Bk.only {w w' : World} {g g' : Nat} {ys : List Nat} {t : TypeId} (h : Bk w g ys t) (k : Only g' w w') (hn : g ≠ g') : Bk w' g ys t := by
 unfold Bk at *; rw [k.block g hn]; exact h
theorem Bk.rd {w : World} {g : Nat} {ys q : List Nat} {t : TypeId} (h : Bk w g (ys ++ q) t) (cap : Nat) (hc : ys.length ≤ cap) : Rd w (.slice (some ⟨g, 0, none⟩) ys.length cap) ys := by
 refine ⟨_, cap, rfl, hc, fun j hj => ⟨g, 0, rfl, ?_⟩⟩
 rw [Nat.zero_add, h.cell (by simp; omega)]
 unfold lm
 rw [List.getD_eq_getElem?_getD, List.getD_eq_getElem?_getD, List.getElem?_append_left hj]
def tLo (x f m : Nat) : Nat := sum64 (mulLo x f) m 0
def tHi (x f m : Nat) : Nat := mulHi x f + car64 (mulLo x f) m 0
theorem t_facts {x f m : Nat} (hx : x < B64) (hf : f < B64) (hm : m < B64) : tHi x f m < B64 ∧ tLo x f m < B64 ∧ tLo x f m + B64 * tHi x f m = x * f + m := by
 have hp : x * f ≤ 18446744073709551615 * 18446744073709551615 := Nat.mul_le_mul (by unfold B64 at hx; omega) (by unfold B64 at hf; omega)
 unfold tHi tLo mulHi mulLo sum64 car64
 unfold B64 at *
 generalize x * f = P at *
 refine ⟨by omega, by omega, by omega⟩
theorem times_any (x f m : Nat) (hx : x < B64) (hf : f < B64) (hm : m < B64) (w : World) :
  Calls Tryz.prog 151 #[.int .u64 (x : Nat), .int .u64 (f : Nat), .int .u64 (m : Nat)] w fun e w' => e = .returned (.tuple #[.int .u64 (tLo x f m : Nat), .int .u64 (tHi x f m : Nat)]) ∧ w' = w := by
 have f1 := (t_facts hx hf hm).1
 unfold B64 at f1
 unfold tHi at f1
 go_enter Tryz.func151, Tryz.ntmps151
 go_wp2_with fail
 refine (mul64_any x f hx hf _).mono ?_
 rintro e w' ⟨rfl, rfl⟩
 go_wp2_with (first | simp only [add64_0 (mulLo x f) m])
 go_ret2
 exact ⟨by simp only [tLo, tHi, Int.natCast_add]; rfl, rfl⟩
def TuAt (s d : List Nat) (k c : Nat) : Prop := d.length = k ∧ M.Low B64 d ∧ c ≤ 1 ∧ M.val B64 d + M.val B64 (s.take k) = B64 ^ k * c
theorem TuAt.step {s d : List Nat} {k c : Nat} (ls : M.Low B64 s) (h : TuAt s d k c) : TuAt s (d ++ [dif64 0 (lm s k) c]) (k + 1) (bor64 0 (lm s k) c) := by
 obtain ⟨h1, h2, h3, h4⟩ := h
 have hl := lm_lt B64_pos ls k
 have f1 : dif64 0 (lm s k) c < B64 := by unfold dif64 B64; omega
 have f2 : bor64 0 (lm s k) c ≤ 1 := by unfold bor64; split <;> omega
 have f3 : dif64 0 (lm s k) c + lm s k + c = B64 * bor64 0 (lm s k) c := by
  unfold dif64 bor64
  unfold B64 at *
  split <;> omega
 refine ⟨by simp [h1], h2.snoc f1, f2, ?_⟩
 rw [M.val_snoc, h1, M.val_take_succ, Nat.pow_succ]
 have e : B64 ^ k * (dif64 0 (lm s k) c + lm s k + c) = B64 ^ k * (B64 * bor64 0 (lm s k) c) := by rw [f3]
 simp only [Nat.mul_add, ← Nat.mul_assoc] at e
 show _ + (_ + B64 ^ k * lm s k) = _
 omega
theorem sub64_x0 (y c : Nat) (hc : c ≤ 1) (w : World) : (callFunc 130 #[.int .u64 0, .int .u64 (y : Nat), .int .u64 (c : Nat)]).run Tryz.prog w =
  .ok (.value (.tuple #[.int .u64 (dif64 0 y c : Nat), .int .u64 (bor64 0 y c : Nat)])) w := sub64 0 y c hc w
theorem turn_any (g : Nat) (t : TypeId) (s q : List Nat) (cap : Nat) (w : World) (hb : Bk w g (s ++ q) t) (ls : M.Low B64 s) (hm : s.length ≤ 1000000) (h0 : M.val B64 s ≠ 0) :
  Calls Tryz.prog 152 #[.slice (some ⟨g, 0, none⟩) s.length cap] w fun e w' => ∃ (s' : List Nat), e = .returned (.tuple #[]) ∧ Bk w' g (s' ++ q) t ∧ s'.length = s.length ∧ M.Low B64 s' ∧
   M.val B64 s' + M.val B64 s = B64 ^ s.length ∧ Only g w w' := by
 have H0 : Hid (M.val B64 s ≠ 0) := h0
 clear h0
 go_enter Tryz.func152, Tryz.ntmps152
 go_wp2
 go_loopw [2, 7] (fun c i wr => ∃ (k cc : Nat) (d : List Nat), k ≤ s.length ∧ i = .int .i64 k ∧ c = .int .u64 cc ∧ TuAt s d k cc ∧ Bk wr g ([] ++ d ++ s.drop k ++ q) t ∧ Only g w wr) (fun _ i _ => s.length - (intOf i).toNat)
 case atStart => exact ⟨0, 0, [], by omega, rfl, rfl, ⟨rfl, M.Low.nil _, by omega, by simp [M.val]⟩, by simpa using hb, Only.refl _ _⟩
 case round =>
  obtain ⟨k, cc, d, hk, rfl, rfl, hat, hblk, hon⟩ := hrel
  have hdl : d.length = k := hat.1
  have hcc : cc ≤ 1 := hat.2.2.1
  by_cases hlt : k < s.length
  ·rw [drop_lm s k hlt] at hblk
   have hc1 := hblk.cell (j := k) (by simp; omega)
   have hf1 := hblk.frozen k
   have em := lm_mid [] d (s.drop (k + 1)) q (lm s k)
   rw [List.length_nil, Nat.zero_add, hdl] at em
   rw [em] at hc1
   have hset := hblk.set k (dif64 0 (lm s k) cc)
   have es := set_mid [] d (s.drop (k + 1)) q (lm s k) (dif64 0 (lm s k) cc)
   rw [List.length_nil, Nat.zero_add, hdl] at es
   rw [es] at hset
   have HST : Hid (TuAt s (d ++ [dif64 0 (lm s k) cc]) (k + 1) (bor64 0 (lm s k) cc)) := hat.step ls
   have HB := shut hset
   have hks : (k : Int) < s.length := by omega
   clear hset es em
   go_wp2_with (simp only [sub64_x0 (lm s k) cc hcc])
   exact ⟨⟨k + 1, _, _, by omega, by go_num, rfl, HST.out, HB.out, hon.setCell _ _⟩, by simp [intOf]; omega⟩
  ·have hke : k = s.length := by omega
   rw [List.drop_of_length_le (by omega), List.append_nil, List.nil_append] at hblk
   obtain ⟨h1, h2, h3, h4⟩ := hat
   rw [M.val_take_all _ _ _ (by omega), hke] at h4
   have h4' : M.val B64 d + M.val B64 s = B64 ^ s.length := by
    have := H0.out
    rcases (show cc = 0 ∨ cc = 1 by omega) with e | e
    ·rw [e, Nat.mul_zero] at h4; omega
    ·rwa [e, Nat.mul_one] at h4
   have H4 := shut h4'
   have HD : Hid (d.length = s.length) := by rw [← hke]; exact h1
   clear h4 h4' h1 hke hdl
   go_wp2
   go_end0
   exact ⟨d, rfl, hblk, HD.out, h2, H4.out, hon⟩
namespace M
theorem lead {b t z P L x0 x1 x2 : Nat} (hb : b = t * z) (ht : 0 < t) (hz0 : 0 < z) (hP : 0 < P) (hL : L < P) : (L + P * x0 + P * b * x1 + P * b * b * x2) * t / (P * b) = x0 / z + x1 * t + b * (x2 * t) := by
 have hz : P * b = t * (P * z) := by rw [hb]; grind
 have e : (L + P * x0 + P * b * x1 + P * b * b * x2) * t = (L + P * x0) * t + P * b * (x1 * t + b * (x2 * t)) := by grind
 have hb0 : 0 < P * b := by rw [hz]; exact Nat.mul_pos ht (Nat.mul_pos hP hz0)
 rw [e, Nat.add_mul_div_left _ _ hb0]
 have e2 : (L + P * x0) * t / (P * b) = x0 / z := by
  rw [hz, Nat.mul_comm _ t, Nat.mul_div_mul_left _ _ ht, ← Nat.div_div_eq_div_mul, Nat.add_mul_div_left _ _ hP, Nat.div_eq_of_lt hL, Nat.zero_add]
 rw [e2]
 omega
end M
theorem or_swap (c x s : Nat) (hs : s ≤ 63) (hx : x < B64) (hc : c < 2 ^ s) : bits .or .u64 ((shLo x s : Nat) : Int) (c : Int) = ((shO c x s : Nat) : Int) := by
 obtain ⟨-, -, -, f4, hc'⟩ := sh_facts hs hx hc
 have hlow : shLo x s < 18446744073709551616 := Nat.mod_lt _ (by omega)
 rw [← f4, bits_or_u64_nat _ _ hc' hlow, bits_or_u64_nat _ _ hlow hc', Nat.or_comm]
theorem post_a2 {fn : Func} {p : Tmp} {R : Ending → World → Prop} {a : Act} {w : World} {g : Nat} {x y : Value} (h : fn.results = #[.cell p 196]) (hp : a.tmps.getD p undef = .pointer (some ⟨g, 0, none⟩)) (hd : a.defers = [])
  (hc : Cel w g [x, y] 196) (hR : R (.returned (.agg #[x, y])) w) : bodyPost Tryz.prog fn R .ret a w := by
 refine ⟨hd, .agg #[x, y], ?_, hR⟩
 exact results_cell_row (P := Tryz.prog) h _ w g 196 #[x, y] (0, 0) _ hp hc Tryz.underlying196 rfl (by kernel_rfl)
def lmZ (xs : List Nat) (i : Int) : Nat := if i < 0 then 0 else lm xs i.toNat
theorem at_any (i : Int) (w : World) (v : Value) (xs : List Nat) (p : Addr) (hp : w.cell? p = some v) (hv : Rd w v xs) :
  Calls Tryz.prog 170 #[.int .i64 i, .pointer (some p)] w fun e w' => e = .returned (.int .u64 (lmZ xs i : Nat)) ∧ w' = w := by
 obtain ⟨a, cap, rfl, hcap, hc⟩ := hv
 by_cases h0 : i < 0
 ·have HL : Hid (lmZ xs i = 0) := by show _ = _; unfold lmZ; rw [if_pos h0]
  clear hc
  go_enter Tryz.func170, Tryz.ntmps170
  go_wp2
  go_ret
  exact ⟨by rw [HL.out]; rfl, rfl⟩
 ·obtain ⟨k, rfl⟩ := Int.eq_ofNat_of_zero_le (show 0 ≤ i by omega)
  by_cases hk : k < xs.length
  ·obtain ⟨b, off, rfl, hcell⟩ := hc k hk
   have HL : Hid (lmZ xs (k : Int) = lm xs k) := by show _ = _; unfold lmZ; rw [if_neg h0]; rfl
   clear hc
   go_enter Tryz.func170, Tryz.ntmps170
   go_wp2
   go_ret
   exact ⟨by rw [HL.out]; rfl, rfl⟩
  ·have HL : Hid (lmZ xs (k : Int) = 0) := by show _ = _; unfold lmZ; rw [if_neg h0]; exact lm_ge (by simpa using hk)
   clear hc
   go_enter Tryz.func170, Tryz.ntmps170
   go_wp2
   go_ret
   exact ⟨by rw [HL.out]; rfl, rfl⟩
theorem leading_walk (a : Option Addr) (cap : Nat) (xs : List Nat) (n : Int) (s x0 x1 x2 : Nat) (w : World) (hv : Rd w (.slice a xs.length cap) xs) (hn0 : 0 ≤ n) (hn1 : n ≤ 1000000) (hs : s ≤ 63)
  (e0 : lmZ xs (n - 3) = x0) (e1 : lmZ xs (n - 2) = x1) (e2 : lmZ xs (n - 1) = x2) (l0 : x0 < B64) (l1 : x1 < B64) (l2 : x2 < B64) :
  Calls Tryz.prog 148 #[.slice a xs.length cap, .int .i64 n, .int .i64 (s : Nat)] w (Re w (.agg #[.int .u64 (shO (shHi x0 s) x1 s : Nat), .int .u64 (shO (shHi x1 s) x2 s : Nat)])) := by
 have hmf : ∀ (fn : Fn) (first cap : Array Value) (w : World), (Instr.makeFunc fn first cap).run Tryz.prog w = .ok (.func fn first cap) w := fun _ _ _ _ => rfl
 obtain ⟨w1, hw1⟩ : ∃ w1, w1 = (w.alloc (.cells #[.slice a xs.length cap] 66)).alloc (.cells #[.int .u64 0, .int .u64 0] 196) := ⟨_, rfl⟩
 have k : Cel w1 w.heap.size [.slice a xs.length cap] 66 := by rw [hw1]; exact (Cel.new w _ _).alloc _
 have k1 : Cel w1 (w.heap.size + 1) [.int .u64 0, .int .u64 0] 196 := by
  rw [hw1]
  have := Cel.new (w.alloc (.cells #[.slice a xs.length cap] 66)) [.int .u64 0, .int .u64 0] 196
  simpa using this
 have bb : Below w.heap.size w w1 := by rw [hw1]; go_grown
 have HA := shut (fun i => at_any i _ _ xs ⟨w.heap.size, 0, none⟩ (k.cell 0) (hv.below bb))
 have el : ∀ x : Nat, IntKind.u64.wrap ((x : Int) * 2 ^ s) = ((shLo x s : Nat) : Int) := fun x => by rw [← cast_mul_pow, wrapMod]; rfl
 have eh : ∀ x : Nat, ((x : Int) / 2 ^ (64 - s)) = ((shHi x s : Nat) : Int) := fun x => by rw [← cast_div_pow]; rfl
 have o1 := or_swap (shHi x0 s) x1 s hs l1 (sh_facts (c := 0) hs l0 (Nat.pow_pos (by omega))).2.1
 have o2 := or_swap (shHi x1 s) x2 s hs l2 (sh_facts (c := 0) hs l1 (Nat.pow_pos (by omega))).2.1
 have E0 := shut e0
 have E1 := shut e1
 have E2 := shut e2
 have hs1 : (s : Int) ≤ 63 := by omega
 clear k hv e0 e1 e2 l0 l1 l2
 go_enter Tryz.func148, Tryz.ntmps148
 go_wp2_with fail
 rw [← hw1]
 clear hw1
 refine (HA.out (n - 3)).mono ?_
 rintro e w2 ⟨rfl, rfl⟩
 rw [E0.out]
 go_wp2_with fail
 refine (HA.out (n - 2)).mono ?_
 rintro e w3 ⟨rfl, rfl⟩
 rw [E1.out]
 go_wp2_with fail
 refine (HA.out (n - 1)).mono ?_
 rintro e w4 ⟨rfl, rfl⟩
 rw [E2.out]
 have c0 := k1.cell 0
 have c1 := k1.cell 1
 have f0 := k1.frozen 0
 have f1 := k1.frozen 1
 simp only [List.getElem?_cons_zero, List.getElem?_cons_succ] at c0 c1
 clear HA E0 E1 E2
 go_wp2
 go_region
 go_wp2
 exact post_a2 (p := 6) (by kernel_rfl) rfl rfl ((k1.set 0 _).set 1 _).drew ⟨rfl, ((bb.setCell (by simp) _).setCell (by simp) _).drew⟩
theorem lmZ_nat (xs : List Nat) (k : Nat) : lmZ xs (k : Int) = lm xs k := by unfold lmZ; rw [if_neg (by omega)]; rfl
theorem leading_any (a : Option Addr) (cap : Nat) (xs : List Nat) (n s : Nat) (w : World) (hv : Rd w (.slice a xs.length cap) xs) (lx : M.Low B64 xs) (hl : xs.length ≤ n) (hn : 2 ≤ n) (hn1 : n ≤ 1000000) (hs : s ≤ 63) (hx : lm xs (n - 1) * 2 ^ s < B64) :
  Calls Tryz.prog 148 #[.slice a xs.length cap, .int .i64 (n : Nat), .int .i64 (s : Nat)] w fun e w' => ∃ p q : Nat, e = .returned (.agg #[.int .u64 (p : Nat), .int .u64 (q : Nat)]) ∧ p < B64 ∧ q < B64 ∧
   p + B64 * q = M.val B64 xs * 2 ^ s / B64 ^ (n - 2) ∧ Below w.heap.size w w' := by
 obtain ⟨x1, e1⟩ : ∃ x, lmZ xs ((n : Int) - 2) = x := ⟨_, rfl⟩
 obtain ⟨x2, e2⟩ : ∃ x, lmZ xs ((n : Int) - 1) = x := ⟨_, rfl⟩
 obtain ⟨x0, e0⟩ : ∃ x, lmZ xs ((n : Int) - 3) = x := ⟨_, rfl⟩
 have E1 : x1 = lm xs (n - 2) := by rw [← e1, show (n : Int) - 2 = ((n - 2 : Nat) : Int) by omega, lmZ_nat]
 have E2 : x2 = lm xs (n - 1) := by rw [← e2, show (n : Int) - 1 = ((n - 1 : Nat) : Int) by omega, lmZ_nat]
 have l1 : x1 < B64 := by rw [E1]; exact lm_lt B64_pos lx _
 have l2 : x2 < B64 := by rw [E2]; exact lm_lt B64_pos lx _
 have l0 : x0 < B64 := by
  rw [← e0]
  unfold lmZ
  split
  ·exact B64_pos
  ·exact lm_lt B64_pos lx _
 have hS : 0 < 2 ^ s := Nat.pow_pos (by omega)
 obtain ⟨-, g2, -, -, -⟩ := sh_facts (c := 0) hs l0 hS
 obtain ⟨f1, f2, f3, -, -⟩ := sh_facts hs l1 g2
 obtain ⟨k1, k2, k3, -, -⟩ := sh_facts hs l2 f2
 have hb : B64 = 2 ^ s * 2 ^ (64 - s) := by rw [← Nat.pow_add, show s + (64 - s) = 64 by omega]; rfl
 have hZ : 0 < 2 ^ (64 - s) := Nat.pow_pos (by omega)
 refine (leading_walk a cap xs n s x0 x1 x2 w hv (by omega) (by omega) hs e0 e1 e2 l0 l1 l2).mono ?_
 rintro e w' ⟨rfl, bb⟩
 refine ⟨_, _, rfl, f1, k1, ?_, bb⟩
 have z2 : shHi x2 s = 0 := by
  unfold shHi
  rw [Nat.div_eq_zero_iff]
  right
  rw [← E2, hb, Nat.mul_comm] at hx
  exact Nat.lt_of_mul_lt_mul_left hx
 rw [z2, Nat.mul_zero, Nat.add_zero] at k3
 have key : M.val B64 xs * 2 ^ s / B64 ^ (n - 2) = shHi x0 s + x1 * 2 ^ s + B64 * (x2 * 2 ^ s) := by
  have v1 := M.val_take_succ B64 xs (n - 2)
  have v2 := M.val_take_succ B64 xs (n - 1)
  rw [show n - 2 + 1 = n - 1 by omega] at v1
  rw [show n - 1 + 1 = n by omega, M.val_take_all _ _ _ hl] at v2
  have vE1 : xs.getD (n - 2) 0 = x1 := E1.symm
  have vE2 : xs.getD (n - 1) 0 = x2 := E2.symm
  rw [vE1] at v1
  rw [vE2, v1] at v2
  by_cases h2 : n = 2
  ·subst h2
   have z0 : x0 = 0 := by rw [← e0]; unfold lmZ; rw [if_pos (by omega)]
   have hh : shHi x0 s = 0 := by rw [z0]; exact Nat.zero_div _
   rw [v2, hh]
   simp only [Nat.sub_self, Nat.pow_zero, Nat.div_one, List.take_zero, M.val_nil, Nat.zero_add, Nat.one_mul, show 2 - 1 = 1 from rfl, Nat.pow_one]
   rw [Nat.add_mul, Nat.mul_assoc]
  ·have E0 : x0 = lm xs (n - 3) := by rw [← e0, show (n : Int) - 3 = ((n - 3 : Nat) : Int) by omega, lmZ_nat]
   have v0 := M.val_take_succ B64 xs (n - 3)
   rw [show n - 3 + 1 = n - 2 by omega, show xs.getD (n - 3) 0 = x0 from E0.symm] at v0
   have lL : M.val B64 (xs.take (n - 3)) < B64 ^ (n - 3) := M.val_lt_pow B64_pos (lx.take _) (by simp; omega)
   rw [v0] at v2
   have p1 : B64 ^ (n - 2) = B64 ^ (n - 3) * B64 := by rw [show n - 2 = n - 3 + 1 by omega, Nat.pow_succ]
   have p2 : B64 ^ (n - 1) = B64 ^ (n - 3) * B64 * B64 := by rw [show n - 1 = n - 3 + 1 + 1 by omega, Nat.pow_succ, Nat.pow_succ]
   rw [v2, p1, p2]
   exact M.lead hb hS hZ (Nat.pow_pos B64_pos) lL
 rw [key]
 have : B64 * (shO (shHi x1 s) x2 s) = B64 * (shHi x1 s + x2 * 2 ^ s) := by rw [k3]
 rw [this, Nat.mul_add]
 omega
def HfAt (xs zs : List Nat) (k r : Nat) : Prop := zs.length = xs.length - k ∧ M.Low D32 zs ∧ r ≤ 1 ∧ 2 * M.val D32 zs + r = M.val D32 (xs.drop k)
theorem HfAt.step {xs zs : List Nat} {k r : Nat} (lx : M.Low D32 xs) (hk : k + 1 ≤ xs.length) (h : HfAt xs zs (k + 1) r) : HfAt xs ((D32 * r + lm xs k) / 2 :: zs) k ((D32 * r + lm xs k) % 2) := by
 obtain ⟨h1, h2, h3, h4⟩ := h
 have b1 : lm xs k < D32 := lm_lt D32_pos lx k
 refine ⟨by simp; omega, ?_, by omega, ?_⟩
 ·intro x hx
  rcases List.mem_cons.1 hx with rfl | hx
  ·unfold D32 at *; omega
  ·exact h2 x hx
 ·rw [drop_lm xs k (by omega), M.val_cons, M.val_cons, ← h4]
  have e := Nat.div_add_mod (D32 * r + lm xs k) 2
  rw [Nat.mul_add D32]
  have e2 : D32 * (2 * M.val D32 zs) = 2 * (D32 * M.val D32 zs) := Nat.mul_left_comm _ _ _
  omega
theorem rhalf_any (va : Value) (xs : List Nat) (w : World) (ha : Rd w va xs) (la : M.Low D32 xs) (hx : xs.length ≤ 100000) :
  Calls Tryz.prog 145 #[va] w fun e w' => ∃ v, e = .returned (.tuple #[v, .bool (decide (M.val D32 xs % 2 = 1))]) ∧ Rd w' v (M.digs D32 (M.val D32 xs / 2)) ∧ Below w.heap.size w w' := by
 have ha0 := ha
 obtain ⟨a, ca, rfl, hca, -⟩ := ha
 obtain ⟨n, hn⟩ : ∃ n, n = xs.length := ⟨_, rfl⟩
 rw [← hn] at ha0 hca hx ⊢
 have HN := shut hn
 clear hn
 go_enter Tryz.func145, Tryz.ntmps145
 go_wp2_with (at_make; refine wpList_mk rfl _ _ rfl _ n rfl rfl (by omega) (by omega) ?_; intro w2 hblk hbel)
 go_loopw [5, 6] (fun r i wr => ∃ (k rr : Nat) (zs : List Nat), k ≤ n ∧ i = .int .i64 ((k : Int) - 1) ∧ r = .int .u64 rr ∧ HfAt xs zs k rr ∧ Blk wr w.heap.size (List.replicate k 0 ++ zs) ∧ Below w.heap.size w wr) (fun _ i _ => (intOf i + 1).toNat)
 case atStart => exact ⟨n, 0, [], Nat.le_refl _, rfl, rfl, ⟨by rw [HN.out]; simp, M.Low.nil _, by omega, by rw [HN.out]; simp [M.val]⟩, by simpa using hblk, hbel⟩
 case round =>
  obtain ⟨k, rr, zs, hk, rfl, rfl, hat, hblk', hbel'⟩ := hrel
  match k with
  | 0 =>
   obtain ⟨h1, h2, h3, h4⟩ := hat
   rw [List.drop_zero] at h4
   rw [List.replicate_zero, List.nil_append] at hblk'
   have hzl : zs.length = n := by rw [h1, HN.out]; omega
   have hrd : Rd wr (.slice (some ⟨w.heap.size, 0, none⟩) n n) zs := by
    have := hblk'.rd0 n (by omega)
    rwa [hzl] at this
   have e1 : M.val D32 zs = M.val D32 xs / 2 := by omega
   have e2 : ((rr : Int) == 1) = decide (M.val D32 xs % 2 = 1) := by
    rw [Bool.eq_iff_iff]
    simp
    omega
   have E1 := shut e1
   have E2 := shut e2
   have hlen : zs.length ≤ 1000000 := by omega
   clear h4 e1 e2 h1 h3 hzl
   go_wp2_with fail
   refine (trim_any D32 D32_two _ _ zs hrd h2 hlen).mono ?_
   rintro e w' ⟨v', rfl, hv', rfl⟩
   go_wp2
   go_ret2
   exact ⟨_, by rw [← E2.out]; rfl, by rw [← E1.out]; exact hv', hbel'⟩
  | k + 1 =>
   have HST := shut (hat.step la (by rw [← HN.out]; exact hk))
   have b1 : lm xs k < 4294967296 := lm_lt D32_pos la k
   have hr1 : rr ≤ 1 := hat.2.2.1
   have hzl : zs.length = n - (k + 1) := by rw [hat.1, HN.out]
   obtain ⟨b1', o1, rfl, q1⟩ := ha0.at hbel' (j := k) (by rw [← HN.out]; omega)
   have hc1 := hblk'.cell (j := k) (by simp; omega)
   have hf1 := hblk'.frozen k
   have hset : ∀ y, Blk (wr.setCell ⟨w.heap.size, k, none⟩ (.int .u64 (y : Nat))) w.heap.size (List.replicate k 0 ++ y :: zs) := fun y => by
    have h := hblk'.set k y
    have e : (List.replicate (k + 1) 0 ++ zs).set k y = List.replicate k 0 ++ y :: zs := by
     rw [List.replicate_succ', List.append_assoc, List.set_append_right _ _ (by simp)]
     simp
    rwa [e] at h
   have HS := shut (hset ((D32 * rr + lm xs k) / 2))
   have ik : (k : Int) < n := by omega
   clear hset hat hzl
   go_wp2
   have e1 : ((rr : Int) * 4294967296 + (lm xs k : Int)) % 2 = (((D32 * rr + lm xs k) % 2 : Nat) : Int) := by unfold D32; omega
   have e2 : ((rr : Int) * 4294967296 + (lm xs k : Int)) / 2 = (((D32 * rr + lm xs k) / 2 : Nat) : Int) := by unfold D32; omega
   rw [e1, e2]
   exact ⟨⟨k, _, _, by omega, rfl, rfl, HST.out, HS.out, hbel'.setCell (Nat.le_refl _) _⟩, by simp only [intOf]; omega⟩
theorem boxes4 (w : World) (x0 x1 y0 y1 : Value) : ∃ w0, w0 = (((w.alloc (.cells #[x0, x1] 24)).alloc (.cells #[y0, y1] 24)).alloc (.cells #[.bool false, .string { data := #[] }] 24)).alloc (.cells #[x0, x1, y0, y1] 24) ∧
  Cel w0 w.heap.size [x0, x1] 24 ∧ Cel w0 (w.heap.size + 1) [y0, y1] 24 ∧ Cel w0 (w.heap.size + 1 + 1) [.bool false, .string { data := #[] }] 24 ∧ Cel w0 (w.heap.size + 1 + 1 + 1) [x0, x1, y0, y1] 24 ∧ Below w.heap.size w w0 := by
 refine ⟨_, rfl, (((Cel.new w [x0, x1] 24).alloc _).alloc _).alloc _, ?_, ?_, ?_, by go_grown⟩
 ·have := ((Cel.new (w.alloc (.cells #[x0, x1] 24)) [y0, y1] 24).alloc (.cells #[.bool false, .string { data := #[] }] 24)).alloc (.cells #[x0, x1, y0, y1] 24)
  simpa using this
 ·have := (Cel.new ((w.alloc (.cells #[x0, x1] 24)).alloc (.cells #[y0, y1] 24)) [.bool false, .string { data := #[] }] 24).alloc (.cells #[x0, x1, y0, y1] 24)
  simpa using this
 ·have := Cel.new (((w.alloc (.cells #[x0, x1] 24)).alloc (.cells #[y0, y1] 24)).alloc (.cells #[.bool false, .string { data := #[] }] 24)) [x0, x1, y0, y1] 24
  simpa using this
theorem sgn_natOf (neg : Bool) (s : ByteArray) : sgn neg (natOf s) = zOf neg s := rfl
theorem digs_len_bytes {s : ByteArray} (k : Nat) (h : s.size ≤ 8 * k) : (M.digs B64 (natOf s)).length ≤ k :=
 M.digs_len_of_lt B64_two (Nat.lt_of_lt_of_le (natOf_lt s) (by rw [B64_pow]; exact Nat.pow_le_pow_right (by omega) h))
theorem succ_lt_pow {b k x : Nat} (hb : 2 ≤ b) (h : x < b ^ k) : x + 1 < b ^ (k + 1) := by
 rw [Nat.pow_succ]
 have h1 : b ^ k * 2 ≤ b ^ k * b := Nat.mul_le_mul_left _ hb
 generalize b ^ k = p at *
 omega
theorem digs_pos {b n : Nat} (hb : 2 ≤ b) (h : n ≠ 0) : 0 < (M.digs b n).length := by
 refine Nat.pos_of_ne_zero fun h0 => ?_
 have := M.val_digs hb n
 rw [List.length_eq_zero_iff.1 h0, M.val_nil] at this
 omega
theorem digs_zero {b n : Nat} (h : n = 0) : (M.digs b n).length = 0 := by subst h; rfl
theorem divmod_pos {X Y K : Nat} (hY : 0 < Y) (hK : K ≤ 4000) (hx : X < B64 ^ K) (hy : Y < B64 ^ K) (v0 v1 : Value) (wx : World) (r0 : Rd wx v0 (M.digs B64 X)) (r1 : Rd wx v1 (M.digs B64 Y)) :
  Calls Tryz.prog 90 #[v0, v1] wx fun e w' => ∃ q r, e = .returned (.tuple #[q, r, .int .i64 0]) ∧ Rd w' q (M.digs B64 (X / Y)) ∧ Rd w' r (M.digs B64 (X % Y)) ∧ Below wx.heap.size wx w' := by
 have := divmod_any v0 v1 _ _ wx r0 r1 (M.Low.digs B64_two _) (M.Low.digs B64_two _) (Nat.le_trans (M.digs_len_of_lt B64_two hx) hK) (Nat.le_trans (M.digs_len_of_lt B64_two hy) hK)
 rw [M.val_digs B64_two, M.val_digs B64_two] at this
 refine this.mono ?_
 rintro e w' ⟨-, h, hb⟩
 obtain ⟨q, r, rfl, hq, hr⟩ := h hY
 exact ⟨q, r, rfl, hq, hr, hb⟩
theorem tell_dig (neg : Bool) {V K : Nat} (hK : K ≤ 4000) (hV : V < B64 ^ K) (v : Value) (wx : World) (hr : Rd wx v (M.digs B64 V)) :
  Calls Tryz.prog 87 #[.agg #[.bool neg, v]] wx (Re wx (zI (sgn neg V))) := by
 have := tell_any neg v _ wx hr (M.Low.digs B64_two _) (Nat.le_trans (M.digs_len_of_lt B64_two hV) hK)
 rwa [M.val_digs B64_two] at this
def Bd (z : Int) (k : Nat) : Prop := z.natAbs < 256 ^ k
theorem pow256_pos (k : Nat) : 0 < 256 ^ k := Nat.pow_pos (by omega)
theorem Bd.zero (k : Nat) : Bd 0 k := pow256_pos k
theorem Bd.mono {z : Int} {j k : Nat} (h : Bd z j) (hk : j ≤ k) : Bd z k := Nat.lt_of_lt_of_le h (Nat.pow_le_pow_right (by omega) hk)
theorem bd_zOf {n : Bool} {s : ByteArray} {k : Nat} (h : s.size ≤ k) : Bd (zOf n s) k := by
 unfold Bd
 rw [natAbs_zOf]
 exact Nat.lt_of_lt_of_le (natOf_lt s) (Nat.pow_le_pow_right (by omega) h)
theorem Bd.add {x y : Int} {k : Nat} (hx : Bd x k) (hy : Bd y k) : Bd (x + y) (k + 1) := by
 unfold Bd at *
 rw [Nat.pow_succ]
 generalize 256 ^ k = p at *
 omega
theorem Bd.neg {x : Int} {k : Nat} (hx : Bd x k) : Bd (-x) k := by
 unfold Bd at *
 rwa [Int.natAbs_neg]
theorem Bd.mul {x y : Int} {j k : Nat} (hx : Bd x j) (hy : Bd y k) : Bd (x * y) (j + k) := by
 unfold Bd at *
 rw [Int.natAbs_mul, Nat.pow_add]
 exact Nat.mul_lt_mul'' hx hy
theorem Bd.le {x y : Int} {k : Nat} (hy : Bd y k) (h : x.natAbs ≤ y.natAbs) : Bd x k := Nat.lt_of_le_of_lt h hy
theorem Bd.div {x : Int} {k : Nat} (hx : Bd x k) (g : Nat) (hg : (g : Int) ∣ x) : Bd (x / (g : Int)) k := by
 refine hx.le ?_
 rw [Int.natAbs_ediv_of_dvd hg]
 exact Nat.div_le_self _ _
theorem Bd.nat {a b k : Nat} (hb : Bd (b : Int) k) (h : a ≤ b) : Bd (a : Int) k := hb.le (by simpa using h)
theorem Bd.size {z : Int} {k : Nat} (h : Bd z k) : (strOf z.natAbs).size ≤ k := strOf_lt h
theorem named : ∃ (nf : Int → Bool) (sf : Int → ByteArray), (∀ z, zI z = .agg #[.bool (nf z), .string (sf z)]) ∧ (∀ z, OkZ (nf z) (sf z)) ∧ (∀ z k, Bd z k → (sf z).size ≤ k) ∧ (∀ z, zOf (nf z) (sf z) = z) ∧ (∀ n s, OkZ n s → nf (zOf n s) = n ∧ sf (zOf n s) = s) ∧ (∀ z, natOf (sf z) = z.natAbs) ∧ (∀ z, nf z = decide (z < 0)) ∧ (∀ z, sf z = strOf z.natAbs) :=
 ⟨fun z => decide (z < 0), fun z => strOf z.natAbs, fun _ => rfl, okZ_zI, fun z k h => h.size, zOf_zI, fun n s h => by
  have e := zV_ok h
  unfold zI zV at e
  simp only [Value.agg.injEq] at e
  have e' : [Value.bool n, .string s] = [.bool (decide (zOf n s < 0)), .string (strOf (zOf n s).natAbs)] := congrArg Array.toList e
  simp only [List.cons.injEq, Value.bool.injEq, Value.string.injEq] at e'
  exact ⟨e'.1.symm, e'.2.1.symm⟩, fun z => natOf_strOf _, fun _ => rfl, fun _ => rfl⟩
theorem strOf_one : strOf 1 = ⟨#[1]⟩ := by decide +kernel
theorem natOf_one : natOf ⟨#[1]⟩ = 1 := by rw [← strOf_one, natOf_strOf]
theorem zI_one : zI 1 = .agg #[.bool false, .string ⟨#[1]⟩] := by
 show zV (decide ((1 : Int) < 0)) (strOf 1) = _
 rw [strOf_one]
 rfl
def OkQ (n : Bool) (s d : ByteArray) : Prop := OkZ n s ∧ OkS d ∧ 0 < natOf d ∧ Nat.gcd (natOf s) (natOf d) = 1
def qOf (n : Bool) (s d : ByteArray) : Rat := mkRat (zOf n s) (natOf d)
def qI (q : Rat) : Value := .agg #[.bool (decide (q.num < 0)), .string (strOf q.num.natAbs), .string (strOf q.den)]
theorem OkQ.low {n : Bool} {s d : ByteArray} (h : OkQ n s d) : (qOf n s d).num = zOf n s ∧ (qOf n s d).den = natOf d :=
 Q.mk_low h.2.2.1 (by rw [natAbs_zOf]; exact h.2.2.2)
theorem OkQ.parts {n : Bool} {s d : ByteArray} (h : OkQ n s d) : decide ((qOf n s d).num < 0) = n ∧ strOf (qOf n s d).num.natAbs = s ∧ strOf (qOf n s d).den = d := by
 rw [h.low.1, h.low.2, natAbs_zOf, strOf_natOf h.1.1, strOf_natOf h.2.1]
 refine ⟨?_, rfl, rfl⟩
 cases n with
 | false => simp [zOf]
 | true =>
  have := natOf_pos h.1.1 (h.1.2 rfl)
  simp [zOf]; omega
theorem okQ_qI (q : Rat) : OkQ (decide (q.num < 0)) (strOf q.num.natAbs) (strOf q.den) := by
 refine ⟨okZ_zI _, okS_strOf _, ?_, ?_⟩
 ·rw [natOf_strOf]; exact q.den_pos
 ·rw [natOf_strOf, natOf_strOf]; exact q.reduced
theorem qOf_qI (q : Rat) : qOf (decide (q.num < 0)) (strOf q.num.natAbs) (strOf q.den) = q := by
 unfold qOf
 rw [zOf_zI, natOf_strOf, Rat.mkRat_self]
theorem qI_of {q : Rat} {z : Int} {m : Nat} (h : q.num = z ∧ q.den = m) {n : Bool} {s d : ByteArray} (hz : zI z = .agg #[.bool n, .string s]) (hd : d = strOf m) : qI q = .agg #[.bool n, .string s, .string d] := by
 obtain ⟨rfl, rfl⟩ := h
 subst hd
 have e : (#[.bool (decide (q.num < 0)), .string (strOf q.num.natAbs)] : Array Value) = #[.bool n, .string s] := by
  have : zI q.num = .agg #[.bool (decide (q.num < 0)), .string (strOf q.num.natAbs)] := rfl
  rw [this] at hz
  simpa using hz
 have e' : [Value.bool (decide (q.num < 0)), .string (strOf q.num.natAbs)] = [.bool n, .string s] := congrArg Array.toList e
 simp only [List.cons.injEq, Value.bool.injEq, Value.string.injEq, and_true] at e'
 unfold qI
 rw [e'.1, e'.2]
def Bq (q : Rat) (k : Nat) : Prop := Bd q.num k ∧ Bd (q.den : Int) k
theorem named3 : ∃ (nf : Rat → Bool) (sf df : Rat → ByteArray), (∀ q, qI q = .agg #[.bool (nf q), .string (sf q), .string (df q)]) ∧ (∀ q, OkQ (nf q) (sf q) (df q)) ∧ (∀ q k, Bq q k → (sf q).size ≤ k ∧ (df q).size ≤ k) ∧ (∀ q, qOf (nf q) (sf q) (df q) = q) ∧ (∀ n s d, OkQ n s d → nf (qOf n s d) = n ∧ sf (qOf n s d) = s ∧ df (qOf n s d) = d) :=
 ⟨fun q => decide (q.num < 0), fun q => strOf q.num.natAbs, fun q => strOf q.den, fun _ => rfl, okQ_qI, fun q k h => ⟨h.1.size, by have := h.2.size; simpa using this⟩, qOf_qI, fun n s d h => h.parts⟩
def chkq (n : Bool) (s d : ByteArray) : Nat := if 8000 < s.size ∨ 8000 < d.size then 5 else if chk n s ≠ 0 ∨ d.size = 0 ∨ lm (byts d) 0 = 0 ∨ Nat.gcd (natOf s) (natOf d) ≠ 1 then 1 else 0
theorem chkq_zero {n : Bool} {s d : ByteArray} (h : chkq n s d = 0) : OkQ n s d ∧ s.size ≤ 8000 ∧ d.size ≤ 8000 := by
 unfold chkq at h
 by_cases h1 : 8000 < s.size ∨ 8000 < d.size
 ·rw [if_pos h1] at h; omega
 ·rw [if_neg h1] at h
  by_cases h2 : chk n s ≠ 0 ∨ d.size = 0 ∨ lm (byts d) 0 = 0 ∨ Nat.gcd (natOf s) (natOf d) ≠ 1
  ·rw [if_pos h2] at h; omega
  ·have hs : s.size ≤ 8000 := by omega
   have c0 : chk n s = 0 := by
    refine Classical.byContradiction fun e => h2 (Or.inl e)
   have d0 : 0 < d.size := Nat.pos_of_ne_zero fun e => h2 (Or.inr (Or.inl e))
   have od : OkS d := fun _ e => h2 (Or.inr (Or.inr (Or.inl e)))
   have g1 : Nat.gcd (natOf s) (natOf d) = 1 := Classical.byContradiction fun e => h2 (Or.inr (Or.inr (Or.inr e)))
   exact ⟨⟨(chk_ok (by omega)).1 c0, od, natOf_pos od d0, g1⟩, hs, by omega⟩
theorem chkq_ok {n : Bool} {s d : ByteArray} (h : OkQ n s d) (hs : s.size ≤ 8000) (hd : d.size ≤ 8000) : chkq n s d = 0 := by
 unfold chkq
 rw [if_neg (by omega), if_neg]
 have d0 : 0 < d.size := Nat.pos_of_ne_zero fun e => by have := natOf_empty e; have := h.2.2.1; omega
 rintro (a | a | a | a)
 ·exact a ((chk_ok (by omega)).2 h.1)
 ·omega
 ·exact h.2.1 d0 a
 ·exact a h.2.2.2
end Go.Proofs.YtbafjmjcepcckaaGreatDoor
