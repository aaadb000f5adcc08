import Derived.Test.YtnplifkgeeicjaaGreatDoorQ22
import Derived.Test.YtnplifkgeeicjaaGreatDoorQ24
import Derived.Test.YtnplifkgeeicjaaGreatDoorQ25
set_option maxRecDepth 100000
set_option maxHeartbeats 1000000
namespace Go.Proofs.YtnplifkgeeicjaaGreatDoor
open Go.RowKit
def Bk (w : World) (g : Nat) (ys : List Nat) (t : TypeId) : Prop := w.heap[g]? = some (.cells (Dd ys) t (0, 0))
theorem Bk.lt {w : World} {g : Nat} {ys : List Nat} {t : TypeId} (h : Bk w g ys t) : g < w.heap.size := by
 unfold Bk at h
 by_cases hg : g < w.heap.size
 ·exact hg
 ·rw [Array.getElem?_eq_none (by omega)] at h; cases h
theorem Bk.cell {w : World} {g : Nat} {ys : List Nat} {t : TypeId} (h : Bk w g ys t) {j : Nat} (hj : j < ys.length) : w.cell? ⟨g, j, none⟩ = some (.int .u64 (lm ys j : Nat)) := by
 unfold Bk at h
 simp [World.cell?, h, Dd, lm, hj]
theorem Bk.o {w : World} {g : Nat} {ys : List Nat} {t : TypeId} (h : Bk w g ys t) (j : Nat) : w.frozen? ⟨g, j, none⟩ = false := by
 unfold Bk at h
 simp [World.frozen?, h]
theorem Bk.set {w : World} {g : Nat} {ys : List Nat} {t : TypeId} (h : Bk w g ys t) (j x : Nat) : Bk (w.setCell ⟨g, j, none⟩ (.int .u64 (x : Nat))) g (ys.set j x) t := by
 unfold Bk at h ⊢
 simp [World.setCell, Array.getElem?_modify, h, Dd]
theorem Bk.w {w : World} {g g' : Nat} {ys : List Nat} {t : TypeId} (h : Bk w g ys t) (hn : g ≠ g') (j : Nat) (v : Value) : Bk (w.setCell ⟨g', j, none⟩ v) g ys t := by
 unfold Bk at h ⊢
 rw [Below.heap_setCell _ _ _ _ (by exact hn)]; exact h
theorem Bk.b {w w' : World} {g : Nat} {ys : List Nat} {t : TypeId} (h : Bk w g ys t) (hb : Below w.heap.size w w') : Bk w' g ys t := by
 have := h.lt
 unfold Bk at h ⊢
 rw [hb.block g this]; exact h
theorem Bk.only {w w' : World} {g g' : Nat} {ys : List Nat} {t : TypeId} (h : Bk w g ys t) (k : Ca g' w w') (hn : g ≠ g') : Bk w' g ys t := by
 unfold Bk at *; rw [k.block g hn]; exact h
theorem Bk.rd {w : World} {g : Nat} {ys q : List Nat} {t : TypeId} (h : Bk w g (ys ++ q) t) (cap : Nat) (hc : ys.length ≤ cap) : Rd w (.slice (some ⟨g, 0, none⟩) ys.length cap) ys := by
 refine ⟨_, cap, rfl, hc, fun j hj => ⟨g, 0, rfl, ?_⟩⟩
 rw [Nat.zero_add, h.cell (by simp; omega)]
 unfold lm
 rw [Jh, Jh, List.getElem?_append_left hj]
def Kq (x f m : Nat) : Nat := Df (Ds x f) m 0
def tHi (x f m : Nat) : Nat := Dz x f + En (Ds x f) m 0
theorem P7 {x f m : Nat} (hx : x < Bb) (hf : f < Bb) (hm : m < Bb) : tHi x f m < Bb ∧ Kq x f m < Bb ∧ Kq x f m + Bb * tHi x f m = x * f + m := by
 have hp : x * f ≤ 18446744073709551615 * 18446744073709551615 := Nat.mul_le_mul (by unfold Bb at hx; omega) (by unfold Bb at hf; omega)
 unfold tHi Kq Dz Ds Df En
 unfold Bb at *
 generalize x * f = P at *
 refine ⟨by omega, by omega, by omega⟩
theorem Kb (x f m : Nat) (hx : x < Bb) (hf : f < Bb) (hm : m < Bb) (w : World) :
  Calls Tryz.prog 237 #[.int .u64 (x : Nat), .int .u64 (f : Nat), .int .u64 (m : Nat)] w fun e w' => e = .returned (.tuple #[.int .u64 (Kq x f m : Nat), .int .u64 (tHi x f m : Nat)]) ∧ w' = w := by
 have f1 := (P7 hx hf hm).1
 unfold Bb at f1
 unfold tHi at f1
 go_enter Tryz.func237, Tryz.ntmps237
 go_wp2_with fail
 refine (Fu x f hx hf _).mono ?_
 rintro e w' ⟨rfl, rfl⟩
 go_wp2_with (first | simp only [Nh (Ds x f) m])
 go_ret2
 exact ⟨by simp only [Kq, tHi, Int.natCast_add]; rfl, rfl⟩
def Bcu (s d : List Nat) (k c : Nat) : Prop := d.length = k ∧ M.Low Bb d ∧ c ≤ 1 ∧ M.val Bb d + M.val Bb (s.take k) = Bb ^ k * c
theorem Bcu.step {s d : List Nat} {k c : Nat} (ls : M.Low Bb s) (h : Bcu s d k c) : Bcu s (d ++ [Co 0 (lm s k) c]) (k + 1) (D3 0 (lm s k) c) := by
 obtain ⟨h1, h2, h3, h4⟩ := h
 have hl := By Bl ls k
 have f1 : Co 0 (lm s k) c < Bb := by unfold Co Bb; omega
 have f2 : D3 0 (lm s k) c ≤ 1 := by unfold D3; split <;> omega
 have f3 : Co 0 (lm s k) c + lm s k + c = Bb * D3 0 (lm s k) c := by
  unfold Co D3
  unfold Bb at *
  split <;> omega
 refine ⟨by simp [h1], h2.snoc f1, f2, ?_⟩
 rw [M.val_snoc, h1, M.val_take_succ, Nat.pow_succ]
 have e : Bb ^ k * (Co 0 (lm s k) c + lm s k + c) = Bb ^ k * (Bb * D3 0 (lm s k) c) := by rw [f3]
 simp only [Nat.mul_add, ← Nat.mul_assoc] at e
 show _ + (_ + Bb ^ k * lm s k) = _
 omega
theorem Bad (y c : Nat) (hc : c ≤ 1) (w : World) : (callFunc 178 #[.int .u64 0, .int .u64 (y : Nat), .int .u64 (c : Nat)]).run Tryz.prog w =
  .ok (.value (.tuple #[.int .u64 (Co 0 y c : Nat), .int .u64 (D3 0 y c : Nat)])) w := Nm 0 y c hc w
theorem El (g : Nat) (t : TypeId) (s q : List Nat) (cap : Nat) (w : World) (hb : Bk w g (s ++ q) t) (ls : M.Low Bb s) (hm : s.length ≤ 1000000) (h0 : M.val Bb s ≠ 0) :
  Calls Tryz.prog 238 #[.slice (some ⟨g, 0, none⟩) s.length cap] w fun e w' => ∃ (s' : List Nat), e = .returned (.tuple #[]) ∧ Bk w' g (s' ++ q) t ∧ s'.length = s.length ∧ M.Low Bb s' ∧
   M.val Bb s' + M.val Bb s = Bb ^ s.length ∧ Ca g w w' := by
 have H0 : Hid (M.val Bb s ≠ 0) := h0
 clear h0
 go_enter Tryz.func238, Tryz.ntmps238
 go_wp2
 go_loopw [2, 7] (fun c i wr => ∃ (k cc : Nat) (d : List Nat), k ≤ s.length ∧ i = .int .i64 k ∧ c = .int .u64 cc ∧ Bcu s d k cc ∧ Bk wr g ([] ++ d ++ s.drop k ++ q) t ∧ Ca g w wr) (fun _ i _ => s.length - (intOf i).toNat)
 case atStart => exact ⟨0, 0, [], by omega, rfl, rfl, ⟨rfl, M.Low.nil _, by omega, by simp [M.val]⟩, by simpa using hb, Ca.refl _ _⟩
 case round =>
  obtain ⟨k, cc, d, hk, rfl, rfl, hat, hblk, hon⟩ := hrel
  have hdl : d.length = k := hat.1
  have hcc : cc ≤ 1 := hat.2.2.1
  by_cases hlt : k < s.length
  ·rw [Eg s k hlt] at hblk
   have hc1 := hblk.cell (j := k) (by simp; omega)
   have hf1 := hblk.o k
   have em := Fl [] d (s.drop (k + 1)) q (lm s k)
   rw [List.length_nil, Nat.zero_add, hdl] at em
   rw [em] at hc1
   have hset := hblk.set k (Co 0 (lm s k) cc)
   have es := Ec [] d (s.drop (k + 1)) q (lm s k) (Co 0 (lm s k) cc)
   rw [List.length_nil, Nat.zero_add, hdl] at es
   rw [es] at hset
   have HST : Hid (Bcu s (d ++ [Co 0 (lm s k) cc]) (k + 1) (D3 0 (lm s k) cc)) := hat.step ls
   have HB := Ba hset
   have hks : (k : Int) < s.length := by omega
   clear hset es em
   go_wp2_with (simp only [Bad (lm s k) cc hcc])
   exact ⟨⟨k + 1, _, _, by omega, by go_num, rfl, HST.out, HB.out, hon.setCell _ _⟩, by simp [intOf]; omega⟩
  ·have hke : k = s.length := by omega
   rw [List.drop_of_length_le (by omega), List.append_nil, List.nil_append] at hblk
   obtain ⟨h1, h2, h3, h4⟩ := hat
   rw [M.val_take_all _ _ _ (by omega), hke] at h4
   have h4' : M.val Bb d + M.val Bb s = Bb ^ s.length := by
    have := H0.out
    rcases (show cc = 0 ∨ cc = 1 by omega) with e | e
    ·rw [e, Nat.mul_zero] at h4; omega
    ·rwa [e, Nat.mul_one] at h4
   have H4 := Ba h4'
   have HD : Hid (d.length = s.length) := by rw [← hke]; exact h1
   clear h4 h4' h1 hke hdl
   go_wp2
   go_end0
   exact ⟨d, rfl, hblk, HD.out, h2, H4.out, hon⟩
namespace M
theorem lead {b t z P L x0 x1 x2 : Nat} (hb : b = t * z) (ht : 0 < t) (hz0 : 0 < z) (hP : 0 < P) (hL : L < P) : (L + P * x0 + P * b * x1 + P * b * b * x2) * t / (P * b) = x0 / z + x1 * t + b * (x2 * t) := by
 have hz : P * b = t * (P * z) := by rw [hb]; grind
 have e : (L + P * x0 + P * b * x1 + P * b * b * x2) * t = (L + P * x0) * t + P * b * (x1 * t + b * (x2 * t)) := by grind
 have hb0 : 0 < P * b := by rw [hz]; exact Nat.mul_pos ht (Nat.mul_pos hP hz0)
 rw [e, Nat.add_mul_div_left _ _ hb0]
 have e2 : (L + P * x0) * t / (P * b) = x0 / z := by
  rw [hz, Nat.mul_comm _ t, Nat.mul_div_mul_left _ _ ht, ← Nat.div_div_eq_div_mul, Nat.add_mul_div_left _ _ hP, Nat.div_eq_of_lt hL, Nat.zero_add]
 rw [e2]
 omega
end M
theorem or_swap (c x s : Nat) (hs : s ≤ 63) (hx : x < Bb) (hc : c < 2 ^ s) : bits .or .u64 ((Ow x s : Nat) : Int) (c : Int) = ((Ts c x s : Nat) : Int) := by
 obtain ⟨-, -, -, f4, hc'⟩ := Fe hs hx hc
 have hlow : Ow x s < 18446744073709551616 := Nat.mod_lt _ (by omega)
 rw [← f4, bits_or_u64_nat _ _ hc' hlow, bits_or_u64_nat _ _ hlow hc', Nat.or_comm]
theorem post_a2 {fn : Func} {p : Tmp} {R : Ending → World → Prop} {a : Act} {w : World} {g : Nat} {x y : Value} (h : fn.results = #[.cell p 303]) (hp : a.tmps.getD p undef = .pointer (some ⟨g, 0, none⟩)) (hd : a.defers = [])
  (hc : Be w g [x, y] 303) (hR : R (.returned (.agg #[x, y])) w) : bodyPost Tryz.prog fn R .ret a w := by
 refine ⟨hd, .agg #[x, y], ?_, hR⟩
 exact results_cell_row (P := Tryz.prog) h _ w g 303 #[x, y] (0, 0) _ hp hc Tryz.underlying303 rfl (by kernel_rfl)
def lmZ (xs : List Nat) (i : Int) : Nat := if i < 0 then 0 else lm xs i.toNat
theorem at_any (i : Int) (w : World) (v : Value) (xs : List Nat) (p : Addr) (hp : w.cell? p = some v) (hv : Rd w v xs) :
  Calls Tryz.prog 263 #[.int .i64 i, .pointer (some p)] w fun e w' => e = .returned (.int .u64 (lmZ xs i : Nat)) ∧ w' = w := by
 obtain ⟨a, cap, rfl, hcap, hc⟩ := hv
 by_cases h0 : i < 0
 ·have HL : Hid (lmZ xs i = 0) := by show _ = _; unfold lmZ; rw [if_pos h0]
  clear hc
  go_enter Tryz.func263, Tryz.ntmps263
  go_wp2
  go_ret
  exact ⟨by rw [HL.out]; rfl, rfl⟩
 ·obtain ⟨k, rfl⟩ := Int.eq_ofNat_of_zero_le (show 0 ≤ i by omega)
  by_cases hk : k < xs.length
  ·obtain ⟨b, off, rfl, hcell⟩ := hc k hk
   have HL : Hid (lmZ xs (k : Int) = lm xs k) := by show _ = _; unfold lmZ; rw [if_neg h0]; rfl
   clear hc
   go_enter Tryz.func263, Tryz.ntmps263
   go_wp2
   go_ret
   exact ⟨by rw [HL.out]; rfl, rfl⟩
  ·have HL : Hid (lmZ xs (k : Int) = 0) := by show _ = _; unfold lmZ; rw [if_neg h0]; exact Ea (by simpa using hk)
   clear hc
   go_enter Tryz.func263, Tryz.ntmps263
   go_wp2
   go_ret
   exact ⟨by rw [HL.out]; rfl, rfl⟩
theorem leading_walk (a : Option Addr) (cap : Nat) (xs : List Nat) (n : Int) (s x0 x1 x2 : Nat) (w : World) (hv : Rd w (.slice a xs.length cap) xs) (hn0 : 0 ≤ n) (hn1 : n ≤ 1000000) (hs : s ≤ 63)
  (e0 : lmZ xs (n - 3) = x0) (e1 : lmZ xs (n - 2) = x1) (e2 : lmZ xs (n - 1) = x2) (l0 : x0 < Bb) (l1 : x1 < Bb) (l2 : x2 < Bb) :
  Calls Tryz.prog 234 #[.slice a xs.length cap, .int .i64 n, .int .i64 (s : Nat)] w (Re w (.agg #[.int .u64 (Ts (Gr x0 s) x1 s : Nat), .int .u64 (Ts (Gr x1 s) x2 s : Nat)])) := by
 have hmf : ∀ (fn : Fn) (first cap : Array Value) (w : World), (Instr.makeFunc fn first cap).run Tryz.prog w = .ok (.func fn first cap) w := fun _ _ _ _ => rfl
 obtain ⟨w1, hw1⟩ : ∃ w1, w1 = (w.alloc (.cells #[.slice a xs.length cap] 64)).alloc (.cells #[.int .u64 0, .int .u64 0] 303) := ⟨_, rfl⟩
 have k : Be w1 w.heap.size [.slice a xs.length cap] 64 := by rw [hw1]; exact (Be.new w _ _).alloc _
 have k1 : Be w1 (w.heap.size + 1) [.int .u64 0, .int .u64 0] 303 := by
  rw [hw1]
  have := Be.new (w.alloc (.cells #[.slice a xs.length cap] 64)) [.int .u64 0, .int .u64 0] 303
  simpa using this
 have bb : Below w.heap.size w w1 := by rw [hw1]; go_grown
 have HA := Ba (fun i => at_any i _ _ xs ⟨w.heap.size, 0, none⟩ (k.cell 0) (hv.b bb))
 have el : ∀ x : Nat, IntKind.u64.wrap ((x : Int) * 2 ^ s) = ((Ow x s : Nat) : Int) := fun x => by rw [← Da, Lb]; rfl
 have eh : ∀ x : Nat, ((x : Int) / 2 ^ (64 - s)) = ((Gr x s : Nat) : Int) := fun x => by rw [← Ez]; rfl
 have o1 := or_swap (Gr x0 s) x1 s hs l1 (Fe (c := 0) hs l0 (Nat.pow_pos (by omega))).2.1
 have o2 := or_swap (Gr x1 s) x2 s hs l2 (Fe (c := 0) hs l1 (Nat.pow_pos (by omega))).2.1
 have E0 := Ba e0
 have E1 := Ba e1
 have E2 := Ba e2
 have hs1 : (s : Int) ≤ 63 := by omega
 clear k hv e0 e1 e2 l0 l1 l2
 go_enter Tryz.func234, Tryz.ntmps234
 go_wp2_with fail
 rw [← hw1]
 clear hw1
 refine (HA.out (n - 3)).mono ?_
 rintro e w2 ⟨rfl, rfl⟩
 rw [E0.out]
 go_wp2_with fail
 refine (HA.out (n - 2)).mono ?_
 rintro e w3 ⟨rfl, rfl⟩
 rw [E1.out]
 go_wp2_with fail
 refine (HA.out (n - 1)).mono ?_
 rintro e w4 ⟨rfl, rfl⟩
 rw [E2.out]
 have c0 := k1.cell 0
 have c1 := k1.cell 1
 have f0 := k1.o 0
 have f1 := k1.o 1
 simp only [Jn, Jm] at c0 c1
 clear HA E0 E1 E2
 go_wp2
 go_region
 go_wp2
 exact post_a2 (p := 6) (by kernel_rfl) rfl rfl ((k1.set 0 _).set 1 _).drew ⟨rfl, ((bb.setCell (by simp) _).setCell (by simp) _).drew⟩
theorem lmZ_nat (xs : List Nat) (k : Nat) : lmZ xs (k : Int) = lm xs k := by unfold lmZ; rw [if_neg (by omega)]; rfl
theorem leading_any (a : Option Addr) (cap : Nat) (xs : List Nat) (n s : Nat) (w : World) (hv : Rd w (.slice a xs.length cap) xs) (lx : M.Low Bb xs) (hl : xs.length ≤ n) (hn : 2 ≤ n) (hn1 : n ≤ 1000000) (hs : s ≤ 63) (hx : lm xs (n - 1) * 2 ^ s < Bb) :
  Calls Tryz.prog 234 #[.slice a xs.length cap, .int .i64 (n : Nat), .int .i64 (s : Nat)] w fun e w' => ∃ p q : Nat, e = .returned (.agg #[.int .u64 (p : Nat), .int .u64 (q : Nat)]) ∧ p < Bb ∧ q < Bb ∧
   p + Bb * q = M.val Bb xs * 2 ^ s / Bb ^ (n - 2) ∧ Below w.heap.size w w' := by
 obtain ⟨x1, e1⟩ : ∃ x, lmZ xs ((n : Int) - 2) = x := ⟨_, rfl⟩
 obtain ⟨x2, e2⟩ : ∃ x, lmZ xs ((n : Int) - 1) = x := ⟨_, rfl⟩
 obtain ⟨x0, e0⟩ : ∃ x, lmZ xs ((n : Int) - 3) = x := ⟨_, rfl⟩
 have E1 : x1 = lm xs (n - 2) := by rw [← e1, show (n : Int) - 2 = ((n - 2 : Nat) : Int) by omega, lmZ_nat]
 have E2 : x2 = lm xs (n - 1) := by rw [← e2, show (n : Int) - 1 = ((n - 1 : Nat) : Int) by omega, lmZ_nat]
 have l1 : x1 < Bb := by rw [E1]; exact By Bl lx _
 have l2 : x2 < Bb := by rw [E2]; exact By Bl lx _
 have l0 : x0 < Bb := by
  rw [← e0]
  unfold lmZ
  split
  ·exact Bl
  ·exact By Bl lx _
 have hS : 0 < 2 ^ s := Nat.pow_pos (by omega)
 obtain ⟨-, g2, -, -, -⟩ := Fe (c := 0) hs l0 hS
 obtain ⟨f1, f2, f3, -, -⟩ := Fe hs l1 g2
 obtain ⟨k1, k2, k3, -, -⟩ := Fe hs l2 f2
 have hb : Bb = 2 ^ s * 2 ^ (64 - s) := by rw [← Nat.pow_add, show s + (64 - s) = 64 by omega]; rfl
 have hZ : 0 < 2 ^ (64 - s) := Nat.pow_pos (by omega)
 refine (leading_walk a cap xs n s x0 x1 x2 w hv (by omega) (by omega) hs e0 e1 e2 l0 l1 l2).mono ?_
 rintro e w' ⟨rfl, bb⟩
 refine ⟨_, _, rfl, f1, k1, ?_, bb⟩
 have z2 : Gr x2 s = 0 := by
  unfold Gr
  rw [Nat.div_eq_zero_iff]
  right
  rw [← E2, hb, Nat.mul_comm] at hx
  exact Nat.lt_of_mul_lt_mul_left hx
 rw [z2, Nat.mul_zero, Nat.add_zero] at k3
 have key : M.val Bb xs * 2 ^ s / Bb ^ (n - 2) = Gr x0 s + x1 * 2 ^ s + Bb * (x2 * 2 ^ s) := by
  have v1 := M.val_take_succ Bb xs (n - 2)
  have v2 := M.val_take_succ Bb xs (n - 1)
  rw [show n - 2 + 1 = n - 1 by omega] at v1
  rw [show n - 1 + 1 = n by omega, M.val_take_all _ _ _ hl] at v2
  have vE1 : xs.getD (n - 2) 0 = x1 := E1.symm
  have vE2 : xs.getD (n - 1) 0 = x2 := E2.symm
  rw [vE1] at v1
  rw [vE2, v1] at v2
  by_cases h2 : n = 2
  ·subst h2
   have z0 : x0 = 0 := by rw [← e0]; unfold lmZ; rw [if_pos (by omega)]
   have hh : Gr x0 s = 0 := by rw [z0]; exact Nat.zero_div _
   rw [v2, hh]
   simp only [Nat.sub_self, Nat.pow_zero, Nat.div_one, List.take_zero, M.val_nil, Nat.zero_add, Nat.one_mul, show 2 - 1 = 1 from rfl, Nat.pow_one]
   rw [Nat.add_mul, Nat.mul_assoc]
  ·have E0 : x0 = lm xs (n - 3) := by rw [← e0, show (n : Int) - 3 = ((n - 3 : Nat) : Int) by omega, lmZ_nat]
   have v0 := M.val_take_succ Bb xs (n - 3)
   rw [show n - 3 + 1 = n - 2 by omega, show xs.getD (n - 3) 0 = x0 from E0.symm] at v0
   have lL : M.val Bb (xs.take (n - 3)) < Bb ^ (n - 3) := M.val_lt_pow Bl (lx.take _) (by simp; omega)
   rw [v0] at v2
   have p1 : Bb ^ (n - 2) = Bb ^ (n - 3) * Bb := by rw [show n - 2 = n - 3 + 1 by omega, Nat.pow_succ]
   have p2 : Bb ^ (n - 1) = Bb ^ (n - 3) * Bb * Bb := by rw [show n - 1 = n - 3 + 1 + 1 by omega, Nat.pow_succ, Nat.pow_succ]
   rw [v2, p1, p2]
   exact M.lead hb hS hZ (Nat.pow_pos Bl) lL
 rw [key]
 have : Bb * (Ts (Gr x1 s) x2 s) = Bb * (Gr x1 s + x2 * 2 ^ s) := by rw [k3]
 rw [this, Nat.mul_add]
 omega
def Be6 (xs zs : List Nat) (k r : Nat) : Prop := zs.length = xs.length - k ∧ M.Low Bm zs ∧ r ≤ 1 ∧ 2 * M.val Bm zs + r = M.val Bm (xs.drop k)
theorem Be6.step {xs zs : List Nat} {k r : Nat} (lx : M.Low Bm xs) (hk : k + 1 ≤ xs.length) (h : Be6 xs zs (k + 1) r) : Be6 xs ((Bm * r + lm xs k) / 2 :: zs) k ((Bm * r + lm xs k) % 2) := by
 obtain ⟨h1, h2, h3, h4⟩ := h
 have b1 : lm xs k < Bm := By Bv lx k
 refine ⟨by simp; omega, ?_, by omega, ?_⟩
 ·intro x hx
  rcases List.mem_cons.1 hx with rfl | hx
  ·unfold Bm at *; omega
  ·exact h2 x hx
 ·rw [Eg xs k (by omega), M.val_cons, M.val_cons, ← h4]
  have e := Nat.div_add_mod (Bm * r + lm xs k) 2
  rw [Nat.mul_add Bm]
  have e2 : Bm * (2 * M.val Bm zs) = 2 * (Bm * M.val Bm zs) := Nat.mul_left_comm _ _ _
  omega
theorem X5 (va : Value) (xs : List Nat) (w : World) (ha : Rd w va xs) (la : M.Low Bm xs) (hx : xs.length ≤ 100000) :
  Calls Tryz.prog 193 #[va] w fun e w' => ∃ v, e = .returned (.tuple #[v, Iz (decide (M.val Bm xs % 2 = 1))]) ∧ Rd w' v (M.digs Bm (M.val Bm xs / 2)) ∧ Below w.heap.size w w' := by
 have ha0 := ha
 obtain ⟨a, ca, rfl, hca, -⟩ := ha
 obtain ⟨n, hn⟩ : ∃ n, n = xs.length := ⟨_, rfl⟩
 rw [← hn] at ha0 hca hx ⊢
 have HN := Ba hn
 clear hn
 go_enter Tryz.func193, Tryz.ntmps193
 go_wp2_with (at_make; refine B8 rfl _ _ rfl _ n rfl rfl (by omega) (by omega) ?_; intro w2 hblk hbel)
 go_loopw [5, 6] (fun r i wr => ∃ (k rr : Nat) (zs : List Nat), k ≤ n ∧ i = .int .i64 ((k : Int) - 1) ∧ r = .int .u64 rr ∧ Be6 xs zs k rr ∧ B6 wr w.heap.size (List.replicate k 0 ++ zs) ∧ Below w.heap.size w wr) (fun _ i _ => (intOf i + 1).toNat)
 case atStart => exact ⟨n, 0, [], Jb _, rfl, rfl, ⟨by rw [HN.out]; simp, M.Low.nil _, by omega, by rw [HN.out]; simp [M.val]⟩, by simpa using hblk, hbel⟩
 case round =>
  obtain ⟨k, rr, zs, hk, rfl, rfl, hat, hblk', hbel'⟩ := hrel
  match k with
  | 0 =>
   obtain ⟨h1, h2, h3, h4⟩ := hat
   rw [List.drop_zero] at h4
   rw [List.replicate_zero, List.nil_append] at hblk'
   have hzl : zs.length = n := by rw [h1, HN.out]; omega
   have hrd : Rd wr (.slice (some ⟨w.heap.size, 0, none⟩) n n) zs := by
    have := hblk'.rd0 n (by omega)
    rwa [hzl] at this
   have e1 : M.val Bm zs = M.val Bm xs / 2 := by omega
   have e2 : ((rr : Int) == 1) = decide (M.val Bm xs % 2 = 1) := by
    rw [Bool.eq_iff_iff]
    simp
    omega
   have E1 := Ba e1
   have E2 := Ba e2
   have hlen : zs.length ≤ 1000000 := by omega
   clear h4 e1 e2 h1 h3 hzl
   go_wp2_with fail
   refine (Ev Bm Bj _ _ zs hrd h2 hlen).mono ?_
   rintro e w' ⟨v', rfl, hv', rfl⟩
   go_wp2
   go_ret2
   exact ⟨_, by rw [← E2.out]; rfl, by rw [← E1.out]; exact hv', hbel'⟩
  | k + 1 =>
   have HST := Ba (hat.step la (by rw [← HN.out]; exact hk))
   have b1 : lm xs k < 4294967296 := By Bv la k
   have hr1 : rr ≤ 1 := hat.2.2.1
   have hzl : zs.length = n - (k + 1) := by rw [hat.1, HN.out]
   obtain ⟨b1', o1, rfl, q1⟩ := ha0.at hbel' (j := k) (by rw [← HN.out]; omega)
   have hc1 := hblk'.cell (j := k) (by simp; omega)
   have hf1 := hblk'.o k
   have hset : ∀ y, B6 (wr.setCell ⟨w.heap.size, k, none⟩ (.int .u64 (y : Nat))) w.heap.size (List.replicate k 0 ++ y :: zs) := fun y => by
    have h := hblk'.set k y
    have e : (List.replicate (k + 1) 0 ++ zs).set k y = List.replicate k 0 ++ y :: zs := by
     rw [List.replicate_succ', List.append_assoc, List.set_append_right _ _ (by simp)]
     simp
    rwa [e] at h
   have HS := Ba (hset ((Bm * rr + lm xs k) / 2))
   have ik : (k : Int) < n := by omega
   clear hset hat hzl
   go_wp2
   have e1 : ((rr : Int) * 4294967296 + (lm xs k : Int)) % 2 = (((Bm * rr + lm xs k) % 2 : Nat) : Int) := by unfold Bm; omega
   have e2 : ((rr : Int) * 4294967296 + (lm xs k : Int)) / 2 = (((Bm * rr + lm xs k) / 2 : Nat) : Int) := by unfold Bm; omega
   rw [e1, e2]
   exact ⟨⟨k, _, _, by omega, rfl, rfl, HST.out, HS.out, hbel'.setCell (Jb _) _⟩, by simp only [intOf]; omega⟩
theorem Bco (w : World) (x0 x1 y0 y1 : Value) : ∃ w0, w0 = (((w.alloc (.cells #[x0, x1] 24)).alloc (.cells #[y0, y1] 24)).alloc (.cells #[Iz false, .string { data := #[] }] 24)).alloc (.cells #[x0, x1, y0, y1] 24) ∧
  Be w0 w.heap.size [x0, x1] 24 ∧ Be w0 (w.heap.size + 1) [y0, y1] 24 ∧ Be w0 (w.heap.size + 1 + 1) [Iz false, .string { data := #[] }] 24 ∧ Be w0 (w.heap.size + 1 + 1 + 1) [x0, x1, y0, y1] 24 ∧ Below w.heap.size w w0 := by
 refine ⟨_, rfl, (((Be.new w [x0, x1] 24).alloc _).alloc _).alloc _, ?_, ?_, ?_, by go_grown⟩
 ·have := ((Be.new (w.alloc (.cells #[x0, x1] 24)) [y0, y1] 24).alloc (.cells #[Iz false, .string { data := #[] }] 24)).alloc (.cells #[x0, x1, y0, y1] 24)
  simpa using this
 ·have := (Be.new ((w.alloc (.cells #[x0, x1] 24)).alloc (.cells #[y0, y1] 24)) [Iz false, .string { data := #[] }] 24).alloc (.cells #[x0, x1, y0, y1] 24)
  simpa using this
 ·have := Be.new (((w.alloc (.cells #[x0, x1] 24)).alloc (.cells #[y0, y1] 24)).alloc (.cells #[Iz false, .string { data := #[] }] 24)) [x0, x1, y0, y1] 24
  simpa using this
theorem D5 (neg : Bool) (s : ByteArray) : C4 neg (Bc s) = Cq neg s := rfl
theorem Hz {s : ByteArray} (k : Nat) (h : s.size ≤ 8 * k) : (M.digs Bb (Bc s)).length ≤ k :=
 M.digs_len_of_lt Bg (Jl (Ew s) (by rw [Kk]; exact Nat.pow_le_pow_right (by omega) h))
theorem Rq {b k x : Nat} (hb : 2 ≤ b) (h : x < b ^ k) : x + 1 < b ^ (k + 1) := by
 rw [Nat.pow_succ]
 have h1 : b ^ k * 2 ≤ b ^ k * b := Nat.mul_le_mul_left _ hb
 generalize b ^ k = p at *
 omega
theorem digs_pos {b n : Nat} (hb : 2 ≤ b) (h : n ≠ 0) : 0 < (M.digs b n).length := by
 refine Nat.pos_of_ne_zero fun h0 => ?_
 have := M.val_digs hb n
 rw [List.length_eq_zero_iff.1 h0, M.val_nil] at this
 omega
theorem digs_zero {b n : Nat} (h : n = 0) : (M.digs b n).length = 0 := by subst h; rfl
theorem Of {X Y K : Nat} (hY : 0 < Y) (hK : K ≤ 4000) (hx : X < Bb ^ K) (hy : Y < Bb ^ K) (v0 v1 : Value) (wx : World) (r0 : Rd wx v0 (M.digs Bb X)) (r1 : Rd wx v1 (M.digs Bb Y)) :
  Calls Tryz.prog 173 #[v0, v1] wx fun e w' => ∃ q r, e = .returned (.tuple #[q, r, .int .i64 0]) ∧ Rd w' q (M.digs Bb (X / Y)) ∧ Rd w' r (M.digs Bb (X % Y)) ∧ Below wx.heap.size wx w' := by
 have := Gb v0 v1 _ _ wx r0 r1 (M.Low.digs Bg _) (M.Low.digs Bg _) (Jf (M.digs_len_of_lt Bg hx) hK) (Jf (M.digs_len_of_lt Bg hy) hK)
 rw [M.val_digs Bg, M.val_digs Bg] at this
 refine this.mono ?_
 rintro e w' ⟨-, h, hb⟩
 obtain ⟨q, r, rfl, hq, hr⟩ := h hY
 exact ⟨q, r, rfl, hq, hr, hb⟩
theorem Ho (neg : Bool) {V K : Nat} (hK : K ≤ 4000) (hV : V < Bb ^ K) (v : Value) (wx : World) (hr : Rd wx v (M.digs Bb V)) :
  Calls Tryz.prog 170 #[.agg #[Iz neg, v]] wx (Re wx (zI (C4 neg V))) := by
 have := Nl neg v _ wx hr (M.Low.digs Bg _) (Jf (M.digs_len_of_lt Bg hV) hK)
 rwa [M.val_digs Bg] at this
def Bd (z : Int) (k : Nat) : Prop := z.natAbs < 256 ^ k
theorem Un (k : Nat) : 0 < 256 ^ k := Nat.pow_pos (by omega)
theorem Bd.zero (k : Nat) : Bd 0 k := Un k
theorem Bd.mono {z : Int} {j k : Nat} (h : Bd z j) (hk : j ≤ k) : Bd z k := Jl h (Nat.pow_le_pow_right (by omega) hk)
theorem E9 {n : Bool} {s : ByteArray} {k : Nat} (h : s.size ≤ k) : Bd (Cq n s) k := by
 unfold Bd
 rw [D9]
 exact Jl (Ew s) (Nat.pow_le_pow_right (by omega) h)
theorem Bd.add {x y : Int} {k : Nat} (hx : Bd x k) (hy : Bd y k) : Bd (x + y) (k + 1) := by
 unfold Bd at *
 rw [Nat.pow_succ]
 generalize 256 ^ k = p at *
 omega
theorem Bd.neg {x : Int} {k : Nat} (hx : Bd x k) : Bd (-x) k := by
 unfold Bd at *
 rwa [Int.natAbs_neg]
theorem Bd.mul {x y : Int} {j k : Nat} (hx : Bd x j) (hy : Bd y k) : Bd (x * y) (j + k) := by
 unfold Bd at *
 rw [Int.natAbs_mul, Nat.pow_add]
 exact Nat.mul_lt_mul'' hx hy
theorem Bd.le {x y : Int} {k : Nat} (hy : Bd y k) (h : x.natAbs ≤ y.natAbs) : Bd x k := Nat.lt_of_le_of_lt h hy
theorem Bd.div {x : Int} {k : Nat} (hx : Bd x k) (g : Nat) (hg : (g : Int) ∣ x) : Bd (x / (g : Int)) k := by
 refine hx.le ?_
 rw [Int.natAbs_ediv_of_dvd hg]
 exact Nat.div_le_self _ _
theorem Bd.nat {a b k : Nat} (hb : Bd (b : Int) k) (h : a ≤ b) : Bd (a : Int) k := hb.le (by simpa using h)
theorem Bd.size {z : Int} {k : Nat} (h : Bd z k) : (Bf z.natAbs).size ≤ k := Hp h
theorem Bhi : ∃ (nf : Int → Bool) (sf : Int → ByteArray), (∀ z, zI z = .agg #[Iz (nf z), I (sf z)]) ∧ (∀ z, Kj (nf z) (sf z)) ∧ (∀ z k, Bd z k → (sf z).size ≤ k) ∧ (∀ z, Cq (nf z) (sf z) = z) ∧ (∀ n s, Kj n s → nf (Cq n s) = n ∧ sf (Cq n s) = s) ∧ (∀ z, Bc (sf z) = z.natAbs) ∧ (∀ z, nf z = decide (z < 0)) ∧ (∀ z, sf z = Bf z.natAbs) :=
 ⟨fun z => decide (z < 0), fun z => Bf z.natAbs, fun _ => rfl, Qj, fun z k h => h.size, Pr, fun n s h => by
  have e := Bg2 h
  unfold zI zV at e
  simp only [Value.agg.injEq] at e
  have e' : [Value.bool n, I s] = [Iz (decide (Cq n s < 0)), I (Bf (Cq n s).natAbs)] := congrArg Array.toList e
  simp only [List.cons.injEq, Value.bool.injEq, Value.string.injEq] at e'
  exact ⟨e'.1.symm, e'.2.1.symm⟩, fun z => Bu _, fun _ => rfl, fun _ => rfl⟩
theorem Eb : Bf 1 = ⟨#[1]⟩ := by decide +kernel
theorem Dr : Bc ⟨#[1]⟩ = 1 := by rw [← Eb, Bu]
theorem Zo : zI 1 = .agg #[Iz false, I ⟨#[1]⟩] := by
 show zV (decide ((1 : Int) < 0)) (Bf 1) = _
 rw [Eb]
 rfl
def On (n : Bool) (s d : ByteArray) : Prop := Kj n s ∧ Pn d ∧ 0 < Bc d ∧ Nat.gcd (Bc s) (Bc d) = 1
def Gh (n : Bool) (s d : ByteArray) : Rat := mkRat (Cq n s) (Bc d)
def qI (q : Rat) : Value := (Bo (decide (q.num < 0)) (Bf q.num.natAbs) (Bf q.den))
theorem On.low {n : Bool} {s d : ByteArray} (h : On n s d) : (Gh n s d).num = Cq n s ∧ (Gh n s d).den = Bc d :=
 Q.mk_low h.2.2.1 (by rw [D9]; exact h.2.2.2)
theorem On.parts {n : Bool} {s d : ByteArray} (h : On n s d) : decide ((Gh n s d).num < 0) = n ∧ Bf (Gh n s d).num.natAbs = s ∧ Bf (Gh n s d).den = d := by
 rw [h.low.1, h.low.2, D9, Cz h.1.1, Cz h.2.1]
 refine ⟨?_, rfl, rfl⟩
 cases n with
 | false => simp [Cq]
 | true =>
  have := Ft h.1.1 (h.1.2 rfl)
  simp [Cq]; omega
theorem Fk (q : Rat) : On (decide (q.num < 0)) (Bf q.num.natAbs) (Bf q.den) := by
 refine ⟨Qj _, Ed _, ?_, ?_⟩
 ·rw [Bu]; exact q.den_pos
 ·rw [Bu, Bu]; exact q.reduced
theorem Hr (q : Rat) : Gh (decide (q.num < 0)) (Bf q.num.natAbs) (Bf q.den) = q := by
 unfold Gh
 rw [Pr, Bu, Rat.mkRat_self]
theorem Wk {q : Rat} {z : Int} {m : Nat} (h : q.num = z ∧ q.den = m) {n : Bool} {s d : ByteArray} (hz : zI z = .agg #[Iz n, I s]) (hd : d = Bf m) : qI q = (Bo n s d) := by
 obtain ⟨rfl, rfl⟩ := h
 subst hd
 have e : (#[Iz (decide (q.num < 0)), I (Bf q.num.natAbs)] : Array Value) = #[Iz n, I s] := by
  have : zI q.num = .agg #[Iz (decide (q.num < 0)), I (Bf q.num.natAbs)] := rfl
  rw [this] at hz
  simpa using hz
 have e' : [Value.bool (decide (q.num < 0)), I (Bf q.num.natAbs)] = [Iz n, I s] := congrArg Array.toList e
 simp only [List.cons.injEq, Value.bool.injEq, Value.string.injEq, and_true] at e'
 unfold qI
 rw [e'.1, e'.2]
def Bq (q : Rat) (k : Nat) : Prop := Bd q.num k ∧ Bd (q.den : Int) k
theorem Us : ∃ (nf : Rat → Bool) (sf df : Rat → ByteArray), (∀ q, qI q = (Bo (nf q) (sf q) (df q))) ∧ (∀ q, On (nf q) (sf q) (df q)) ∧ (∀ q k, Bq q k → (sf q).size ≤ k ∧ (df q).size ≤ k) ∧ (∀ q, Gh (nf q) (sf q) (df q) = q) ∧ (∀ n s d, On n s d → nf (Gh n s d) = n ∧ sf (Gh n s d) = s ∧ df (Gh n s d) = d) :=
 ⟨fun q => decide (q.num < 0), fun q => Bf q.num.natAbs, fun q => Bf q.den, fun _ => rfl, Fk, fun q k h => ⟨h.1.size, by have := h.2.size; simpa using this⟩, Hr, fun n s d h => h.parts⟩
def Bt (n : Bool) (s d : ByteArray) : Nat := if 8000 < s.size ∨ 8000 < d.size then 5 else if Lp n s ≠ 0 ∨ d.size = 0 ∨ lm (B9 d) 0 = 0 ∨ Nat.gcd (Bc s) (Bc d) ≠ 1 then 1 else 0
theorem Y9 {n : Bool} {s d : ByteArray} (h : Bt n s d = 0) : On n s d ∧ s.size ≤ 8000 ∧ d.size ≤ 8000 := by
 unfold Bt at h
 by_cases h1 : 8000 < s.size ∨ 8000 < d.size
 ·rw [if_pos h1] at h; omega
 ·rw [if_neg h1] at h
  by_cases h2 : Lp n s ≠ 0 ∨ d.size = 0 ∨ lm (B9 d) 0 = 0 ∨ Nat.gcd (Bc s) (Bc d) ≠ 1
  ·rw [if_pos h2] at h; omega
  ·have hs : s.size ≤ 8000 := by omega
   have c0 : Lp n s = 0 := by
    refine Classical.byContradiction fun e => h2 (Or.inl e)
   have d0 : 0 < d.size := Nat.pos_of_ne_zero fun e => h2 (Or.inr (Or.inl e))
   have od : Pn d := fun _ e => h2 (Or.inr (Or.inr (Or.inl e)))
   have g1 : Nat.gcd (Bc s) (Bc d) = 1 := Classical.byContradiction fun e => h2 (Or.inr (Or.inr (Or.inr e)))
   exact ⟨⟨(H8 (by omega)).1 c0, od, Ft od d0, g1⟩, hs, by omega⟩
theorem Q6 {n : Bool} {s d : ByteArray} (h : On n s d) (hs : s.size ≤ 8000) (hd : d.size ≤ 8000) : Bt n s d = 0 := by
 unfold Bt
 rw [if_neg (by omega), if_neg]
 have d0 : 0 < d.size := Nat.pos_of_ne_zero fun e => by have := Mm e; have := h.2.2.1; omega
 rintro (a | a | a | a)
 ·exact a ((H8 (by omega)).2 h.1)
 ·omega
 ·exact h.2.1 d0 a
 ·exact a h.2.2.2
end Go.Proofs.YtnplifkgeeicjaaGreatDoor
