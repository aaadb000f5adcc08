/-
  Package whole: the leading limbs of a row.
  Package whole: Div of numbers that may be.
  The decimal text of a number; gussetref02: Text.
  Package whole: Of.
  gussetref02: make0, Of.
  Package gussetref01: half.
  gussetref02: Check, Both, Negate; what gussetref01 tells of digits, by their values.
  Package whole: Mul.
  gussetref02: Sum.
  Package whole: Add.
  Package whole: read of one number; powersUpTo of one limb.
  Package whole: few of Euclid's steps.
  Package whole: Div.
  Package whole: steps after steps; whether there are none.
  Package gussetref01: Gcd.
  gussetref02.Common.
  Package whole: Div where nothing is added.
  Package whole: Div where the rest would be below 0.
-/
import Derived.Test.YtnplifkgeeicjaaGreatDoorU22
import Derived.Test.YtnplifkgeeicjaaGreatDoorU24
import Derived.Test.YtnplifkgeeicjaaGreatDoorU26
import Derived.Test.YtnplifkgeeicjaaGreatDoorU27
set_option maxRecDepth 100000
set_option maxHeartbeats 8000000
namespace Go.Proofs.YtnplifkgeeicjaaGreatDoor
open Go.RowKit
namespace M
theorem lead {b t z P L x0 x1 x2 : Nat} (hb : b = t * z) (ht : 0 < t) (hz0 : 0 < z) (hP : 0 < P) (hL : L < P) : (L + P * x0 + P * b * x1 + P * b * b * x2) * t / (P * b) = x0 / z + x1 * t + b * (x2 * t) := by
 have hz : P * b = t * (P * z) := by rw [hb]; grind
 have e : (L + P * x0 + P * b * x1 + P * b * b * x2) * t = (L + P * x0) * t + P * b * (x1 * t + b * (x2 * t)) := by grind
 have hb0 : 0 < P * b := by rw [hz]; exact Nat.mul_pos ht (Nat.mul_pos hP hz0)
 rw [e, Nat.add_mul_div_left _ _ hb0]
 have e2 : (L + P * x0) * t / (P * b) = x0 / z := by
  rw [hz, Nat.mul_comm _ t, Nat.mul_div_mul_left _ _ ht, ← Nat.div_div_eq_div_mul, Nat.add_mul_div_left _ _ hP, Nat.div_eq_of_lt hL, Nat.zero_add]
 rw [e2]
 omega
end M
theorem or_swap (c x s : Nat) (hs : s ≤ 63) (hx : x < B64) (hc : c < 2 ^ s) : bits .or .u64 ((shLo x s : Nat) : Int) (c : Int) = ((shO c x s : Nat) : Int) := by
 obtain ⟨-, -, -, f4, hc'⟩ := sh_facts hs hx hc
 have hlow : shLo x s < 18446744073709551616 := Nat.mod_lt _ (by omega)
 rw [← f4, bits_or_u64_nat _ _ hc' hlow, bits_or_u64_nat _ _ hlow hc', Nat.or_comm]
theorem post_a2 {fn : Func} {p : Tmp} {R : Ending → World → Prop} {a : Act} {w : World} {g : Nat} {x y : Value} (h : fn.results = #[.cell p 303]) (hp : a.tmps.getD p undef = .pointer (some ⟨g, 0, none⟩)) (hd : a.defers = [])
  (hc : Cel w g [x, y] 303) (hR : R (.returned (.agg #[x, y])) w) : bodyPost Tryz.prog fn R .ret a w := by
 refine ⟨hd, .agg #[x, y], ?_, hR⟩
 exact results_cell_row (P := Tryz.prog) h _ w g 303 #[x, y] (0, 0) _ hp hc Tryz.underlying303 rfl (by kernel_rfl)
def lmZ (xs : List Nat) (i : Int) : Nat := if i < 0 then 0 else lm xs i.toNat
theorem at_any (i : Int) (w : World) (v : Value) (xs : List Nat) (p : Addr) (hp : w.cell? p = some v) (hv : Rd w v xs) :
  Calls Tryz.prog 263 #[.int .i64 i, .pointer (some p)] w fun e w' => e = .returned (.int .u64 (lmZ xs i : Nat)) ∧ w' = w := by
 obtain ⟨a, cap, rfl, hcap, hc⟩ := hv
 by_cases h0 : i < 0
 ·have HL : Hid (lmZ xs i = 0) := by show _ = _; unfold lmZ; rw [if_pos h0]
  clear hc
  go_enter Tryz.func263, Tryz.ntmps263
  go_wp2
  go_ret
  exact ⟨by rw [HL.out]; rfl, rfl⟩
 ·obtain ⟨k, rfl⟩ := Int.eq_ofNat_of_zero_le (show 0 ≤ i by omega)
  by_cases hk : k < xs.length
  ·obtain ⟨b, off, rfl, hcell⟩ := hc k hk
   have HL : Hid (lmZ xs (k : Int) = lm xs k) := by show _ = _; unfold lmZ; rw [if_neg h0]; rfl
   clear hc
   go_enter Tryz.func263, Tryz.ntmps263
   go_wp2
   go_ret
   exact ⟨by rw [HL.out]; rfl, rfl⟩
  ·have HL : Hid (lmZ xs (k : Int) = 0) := by show _ = _; unfold lmZ; rw [if_neg h0]; exact lm_ge (by simpa using hk)
   clear hc
   go_enter Tryz.func263, Tryz.ntmps263
   go_wp2
   go_ret
   exact ⟨by rw [HL.out]; rfl, rfl⟩
theorem leading_walk (a : Option Addr) (cap : Nat) (xs : List Nat) (n : Int) (s x0 x1 x2 : Nat) (w : World) (hv : Rd w (.slice a xs.length cap) xs) (hn0 : 0 ≤ n) (hn1 : n ≤ 1000000) (hs : s ≤ 63)
  (e0 : lmZ xs (n - 3) = x0) (e1 : lmZ xs (n - 2) = x1) (e2 : lmZ xs (n - 1) = x2) (l0 : x0 < B64) (l1 : x1 < B64) (l2 : x2 < B64) :
  Calls Tryz.prog 234 #[.slice a xs.length cap, .int .i64 n, .int .i64 (s : Nat)] w (Re w (.agg #[.int .u64 (shO (shHi x0 s) x1 s : Nat), .int .u64 (shO (shHi x1 s) x2 s : Nat)])) := by
 have hmf : ∀ (fn : Fn) (first cap : Array Value) (w : World), (Instr.makeFunc fn first cap).run Tryz.prog w = .ok (.func fn first cap) w := fun _ _ _ _ => rfl
 obtain ⟨w1, hw1⟩ : ∃ w1, w1 = (w.alloc (.cells #[.slice a xs.length cap] 64)).alloc (.cells #[.int .u64 0, .int .u64 0] 303) := ⟨_, rfl⟩
 have k : Cel w1 w.heap.size [.slice a xs.length cap] 64 := by rw [hw1]; exact (Cel.new w _ _).alloc _
 have k1 : Cel w1 (w.heap.size + 1) [.int .u64 0, .int .u64 0] 303 := by
  rw [hw1]
  have := Cel.new (w.alloc (.cells #[.slice a xs.length cap] 64)) [.int .u64 0, .int .u64 0] 303
  simpa using this
 have bb : Below w.heap.size w w1 := by rw [hw1]; go_grown
 have HA := shut (fun i => at_any i _ _ xs ⟨w.heap.size, 0, none⟩ (k.cell 0) (hv.below bb))
 have el : ∀ x : Nat, IntKind.u64.wrap ((x : Int) * 2 ^ s) = ((shLo x s : Nat) : Int) := fun x => by rw [← cast_mul_pow, wrapMod]; rfl
 have eh : ∀ x : Nat, ((x : Int) / 2 ^ (64 - s)) = ((shHi x s : Nat) : Int) := fun x => by rw [← cast_div_pow]; rfl
 have o1 := or_swap (shHi x0 s) x1 s hs l1 (sh_facts (c := 0) hs l0 (Nat.pow_pos (by omega))).2.1
 have o2 := or_swap (shHi x1 s) x2 s hs l2 (sh_facts (c := 0) hs l1 (Nat.pow_pos (by omega))).2.1
 have E0 := shut e0
 have E1 := shut e1
 have E2 := shut e2
 have hs1 : (s : Int) ≤ 63 := by omega
 clear k hv e0 e1 e2 l0 l1 l2
 go_enter Tryz.func234, Tryz.ntmps234
 go_wp2_with fail
 rw [← hw1]
 clear hw1
 refine (HA.out (n - 3)).mono ?_
 rintro e w2 ⟨rfl, rfl⟩
 rw [E0.out]
 go_wp2_with fail
 refine (HA.out (n - 2)).mono ?_
 rintro e w3 ⟨rfl, rfl⟩
 rw [E1.out]
 go_wp2_with fail
 refine (HA.out (n - 1)).mono ?_
 rintro e w4 ⟨rfl, rfl⟩
 rw [E2.out]
 have c0 := k1.cell 0
 have c1 := k1.cell 1
 have f0 := k1.frozen 0
 have f1 := k1.frozen 1
 simp only [List.getElem?_cons_zero, List.getElem?_cons_succ] at c0 c1
 clear HA E0 E1 E2
 go_wp2
 go_region
 go_wp2
 exact post_a2 (p := 6) (by kernel_rfl) rfl rfl ((k1.set 0 _).set 1 _).drew ⟨rfl, ((bb.setCell (by simp) _).setCell (by simp) _).drew⟩
theorem lmZ_nat (xs : List Nat) (k : Nat) : lmZ xs (k : Int) = lm xs k := by unfold lmZ; rw [if_neg (by omega)]; rfl
theorem leading_any (a : Option Addr) (cap : Nat) (xs : List Nat) (n s : Nat) (w : World) (hv : Rd w (.slice a xs.length cap) xs) (lx : M.Low B64 xs) (hl : xs.length ≤ n) (hn : 2 ≤ n) (hn1 : n ≤ 1000000) (hs : s ≤ 63) (hx : lm xs (n - 1) * 2 ^ s < B64) :
  Calls Tryz.prog 234 #[.slice a xs.length cap, .int .i64 (n : Nat), .int .i64 (s : Nat)] w fun e w' => ∃ p q : Nat, e = .returned (.agg #[.int .u64 (p : Nat), .int .u64 (q : Nat)]) ∧ p < B64 ∧ q < B64 ∧
   p + B64 * q = M.val B64 xs * 2 ^ s / B64 ^ (n - 2) ∧ Below w.heap.size w w' := by
 obtain ⟨x1, e1⟩ : ∃ x, lmZ xs ((n : Int) - 2) = x := ⟨_, rfl⟩
 obtain ⟨x2, e2⟩ : ∃ x, lmZ xs ((n : Int) - 1) = x := ⟨_, rfl⟩
 obtain ⟨x0, e0⟩ : ∃ x, lmZ xs ((n : Int) - 3) = x := ⟨_, rfl⟩
 have E1 : x1 = lm xs (n - 2) := by rw [← e1, show (n : Int) - 2 = ((n - 2 : Nat) : Int) by omega, lmZ_nat]
 have E2 : x2 = lm xs (n - 1) := by rw [← e2, show (n : Int) - 1 = ((n - 1 : Nat) : Int) by omega, lmZ_nat]
 have l1 : x1 < B64 := by rw [E1]; exact lm_lt B64_pos lx _
 have l2 : x2 < B64 := by rw [E2]; exact lm_lt B64_pos lx _
 have l0 : x0 < B64 := by
  rw [← e0]
  unfold lmZ
  split
  ·exact B64_pos
  ·exact lm_lt B64_pos lx _
 have hS : 0 < 2 ^ s := Nat.pow_pos (by omega)
 obtain ⟨-, g2, -, -, -⟩ := sh_facts (c := 0) hs l0 hS
 obtain ⟨f1, f2, f3, -, -⟩ := sh_facts hs l1 g2
 obtain ⟨k1, k2, k3, -, -⟩ := sh_facts hs l2 f2
 have hb : B64 = 2 ^ s * 2 ^ (64 - s) := by rw [← Nat.pow_add, show s + (64 - s) = 64 by omega]; rfl
 have hZ : 0 < 2 ^ (64 - s) := Nat.pow_pos (by omega)
 refine (leading_walk a cap xs n s x0 x1 x2 w hv (by omega) (by omega) hs e0 e1 e2 l0 l1 l2).mono ?_
 rintro e w' ⟨rfl, bb⟩
 refine ⟨_, _, rfl, f1, k1, ?_, bb⟩
 have z2 : shHi x2 s = 0 := by
  unfold shHi
  rw [Nat.div_eq_zero_iff]
  right
  rw [← E2, hb, Nat.mul_comm] at hx
  exact Nat.lt_of_mul_lt_mul_left hx
 rw [z2, Nat.mul_zero, Nat.add_zero] at k3
 have key : M.val B64 xs * 2 ^ s / B64 ^ (n - 2) = shHi x0 s + x1 * 2 ^ s + B64 * (x2 * 2 ^ s) := by
  have v1 := M.val_take_succ B64 xs (n - 2)
  have v2 := M.val_take_succ B64 xs (n - 1)
  rw [show n - 2 + 1 = n - 1 by omega] at v1
  rw [show n - 1 + 1 = n by omega, M.val_take_all _ _ _ hl] at v2
  have vE1 : xs.getD (n - 2) 0 = x1 := E1.symm
  have vE2 : xs.getD (n - 1) 0 = x2 := E2.symm
  rw [vE1] at v1
  rw [vE2, v1] at v2
  by_cases h2 : n = 2
  ·subst h2
   have z0 : x0 = 0 := by rw [← e0]; unfold lmZ; rw [if_pos (by omega)]
   have hh : shHi x0 s = 0 := by rw [z0]; exact Nat.zero_div _
   rw [v2, hh]
   simp only [Nat.sub_self, Nat.pow_zero, Nat.div_one, List.take_zero, M.val_nil, Nat.zero_add, Nat.one_mul, show 2 - 1 = 1 from rfl, Nat.pow_one]
   rw [Nat.add_mul, Nat.mul_assoc]
  ·have E0 : x0 = lm xs (n - 3) := by rw [← e0, show (n : Int) - 3 = ((n - 3 : Nat) : Int) by omega, lmZ_nat]
   have v0 := M.val_take_succ B64 xs (n - 3)
   rw [show n - 3 + 1 = n - 2 by omega, show xs.getD (n - 3) 0 = x0 from E0.symm] at v0
   have lL : M.val B64 (xs.take (n - 3)) < B64 ^ (n - 3) := M.val_lt_pow B64_pos (lx.take _) (by simp; omega)
   rw [v0] at v2
   have p1 : B64 ^ (n - 2) = B64 ^ (n - 3) * B64 := by rw [show n - 2 = n - 3 + 1 by omega, Nat.pow_succ]
   have p2 : B64 ^ (n - 1) = B64 ^ (n - 3) * B64 * B64 := by rw [show n - 1 = n - 3 + 1 + 1 by omega, Nat.pow_succ, Nat.pow_succ]
   rw [v2, p1, p2]
   exact M.lead hb hS hZ (Nat.pow_pos B64_pos) lL
 rw [key]
 have : B64 * (shO (shHi x1 s) x2 s) = B64 * (shHi x1 s + x2 * 2 ^ s) := by rw [k3]
 rw [this, Nat.mul_add]
 omega
open Go.RowKit
theorem succ_lt_pow {b k x : Nat} (hb : 2 ≤ b) (h : x < b ^ k) : x + 1 < b ^ (k + 1) := by
 rw [Nat.pow_succ]
 have h1 : b ^ k * 2 ≤ b ^ k * b := Nat.mul_le_mul_left _ hb
 generalize b ^ k = p at *
 omega
theorem digs_pos {b n : Nat} (hb : 2 ≤ b) (h : n ≠ 0) : 0 < (M.digs b n).length := by
 refine Nat.pos_of_ne_zero fun h0 => ?_
 have := M.val_digs hb n
 rw [List.length_eq_zero_iff.1 h0, M.val_nil] at this
 omega
theorem digs_zero {b n : Nat} (h : n = 0) : (M.digs b n).length = 0 := by subst h; rfl
theorem divmod_pos {X Y K : Nat} (hY : 0 < Y) (hK : K ≤ 4000) (hx : X < B64 ^ K) (hy : Y < B64 ^ K) (v0 v1 : Value) (wx : World) (r0 : Rd wx v0 (M.digs B64 X)) (r1 : Rd wx v1 (M.digs B64 Y)) :
  Calls Tryz.prog 173 #[v0, v1] wx fun e w' => ∃ q r, e = .returned (.tuple #[q, r, .int .i64 0]) ∧ Rd w' q (M.digs B64 (X / Y)) ∧ Rd w' r (M.digs B64 (X % Y)) ∧ Below wx.heap.size wx w' := by
 have := divmod_any v0 v1 _ _ wx r0 r1 (M.Low.digs B64_two _) (M.Low.digs B64_two _) (Nat.le_trans (M.digs_len_of_lt B64_two hx) hK) (Nat.le_trans (M.digs_len_of_lt B64_two hy) hK)
 rw [M.val_digs B64_two, M.val_digs B64_two] at this
 refine this.mono ?_
 rintro e w' ⟨-, h, hb⟩
 obtain ⟨q, r, rfl, hq, hr⟩ := h hY
 exact ⟨q, r, rfl, hq, hr, hb⟩
theorem tell_dig (neg : Bool) {V K : Nat} (hK : K ≤ 4000) (hV : V < B64 ^ K) (v : Value) (wx : World) (hr : Rd wx v (M.digs B64 V)) :
  Calls Tryz.prog 170 #[.agg #[.bool neg, v]] wx (Re wx (zI (sgn neg V))) := by
 have := tell_any neg v _ wx hr (M.Low.digs B64_two _) (Nat.le_trans (M.digs_len_of_lt B64_two hV) hK)
 rwa [M.val_digs B64_two] at this
end Go.Proofs.YtnplifkgeeicjaaGreatDoor
namespace Go.Proofs.YtnplifkgeeicjaaGreatDoor
open Go.RowKit Go.Shelf
def dt (n : Nat) : List Nat := ((M.digs 10 n).map (48 + ·)).reverse
theorem dt_pos {n : Nat} (h : 0 < n) : dt n = dt (n / 10) ++ [48 + n % 10] := by
 unfold dt
 rw [M.digs_pos (by omega) h, List.map_cons, List.reverse_cons]
theorem dt_len {n k : Nat} (h : n < 256 ^ k) : (dt n).length ≤ 3 * k := by
 unfold dt
 rw [List.length_reverse, List.length_map]
 refine M.digs_len_of_lt (by omega) (Nat.lt_of_lt_of_le h ?_)
 rw [Nat.pow_mul]
 exact Nat.pow_le_pow_left (by decide) k
theorem dt_size (s : ByteArray) (k : Nat) (h : s.size ≤ k) : (dt (natOf s)).length ≤ 3 * k := dt_len (Nat.lt_of_lt_of_le (natOf_lt s) (Nat.pow_le_pow_right (by omega) h))
theorem strB_size (l : List Nat) : (strB l).size = l.length := by simp [strB, ByteArray.size]
theorem strB_cons (x : Nat) (l : List Nat) : strB (x :: l) = strB [x] ++ strB l := by
 apply ByteArray.ext
 simp [strB, ByteArray.data_append]
theorem strB_ne {l : List Nat} (h : l ≠ []) : (strB l).toList.isEmpty = false := by
 cases l with
 | nil => exact absurd rfl h
 | cons x l => rw [ByteArray.toList_eq]; rfl
open Go.RowKit
theorem boxRow (w : World) (m : Nat) : ∃ w0, w0 = (w.alloc (.cells #[.bool false, .string { data := #[] }] 24)).alloc (.cells #[.int .u64 (m : Nat)] 170) ∧
  Cel w0 w.heap.size [.bool false, .string { data := #[] }] 24 ∧ Rd w0 (.slice (some ⟨w.heap.size + 1, 0, none⟩) 1 1) [m] ∧ Below w.heap.size w w0 := by
 refine ⟨_, rfl, (Cel.new w _ 24).alloc _, rd1 _ (by simp) m, by go_grown⟩
open Go.RowKit
theorem make0_any (neg : Bool) (va : Value) (xs : List Nat) (w : World) (ha : Rd w va xs) (la : M.Low D32 xs) (hx : xs.length ≤ 100000) :
  Calls Tryz.prog 115 #[.bool neg, va] w (Re w (zI (sgn neg (M.val D32 xs)))) := by
 rw [zI_sgn]
 have H := shut (fun w0 h0 => rnat_any va xs w0 h0 la hx)
 have HE := shut (strOf_empty (M.val D32 xs))
 generalize strOf (M.val D32 xs) = s at *
 have ha0 := ha
 obtain ⟨a, ca, rfl, -, -⟩ := ha
 go_enter Tryz.func115, Tryz.ntmps115
 go_wp2_with fail
 obtain ⟨w0, hw0⟩ : ∃ w0, w0 = w.alloc (.cells #[.bool false, .string { data := #[] }] 24) := ⟨_, rfl⟩
 have k2 : Cel w0 w.heap.size [.bool false, .string { data := #[] }] 24 := by rw [hw0]; exact Cel.new w _ _
 have hb0 : Below w.heap.size w w0 := by rw [hw0]; exact (Below.refl _ _).alloc (Nat.le_refl _) _
 rw [← hw0]
 clear hw0
 refine (H.out w0 (ha0.below hb0)).mono ?_
 rintro e w1 ⟨rfl, hb⟩
 have k2' := k2.below hb
 have bb := Below.after hb0 hb
 obtain ⟨c1, c2⟩ := xk2 k2'
 have f1 := k2'.frozen 0
 have f2 := k2'.frozen 1
 clear H HE
 cases neg
 ·go_wp2
  exact post_z (p := 4) (by kernel_rfl) rfl rfl ((k2'.set 0 _).set 1 _) ⟨rfl, (bb.setCell (by simp) _).setCell (by simp) _⟩
 ·go_wp2
  exact post_z (p := 4) (by kernel_rfl) rfl rfl ((k2'.set 0 _).set 1 _) ⟨rfl, (bb.setCell (by simp) _).setCell (by simp) _⟩
theorem split_one {m : Nat} (hm : m < B64) (v : Value) (w : World) (h : Rd w v [m]) :
  Calls Tryz.prog 116 #[v] w fun e w' => ∃ v, e = .returned v ∧ Rd w' v (M.digs D32 m) ∧ Below w.heap.size w w' := by
 have := split_any v [m] w h (low_of_all (by simpa using hm)) (by simp)
 rwa [show M.val B64 [m] = m from by simp [M.val_cons, M.val_nil]] at this
theorem make0_dig (neg : Bool) (m : Nat) (hm : m < B64) (v : Value) (w : World) (h : Rd w v (M.digs D32 m)) :
  Calls Tryz.prog 115 #[.bool neg, v] w (Re w (zI (sgn neg m))) := by
 have hl : (M.digs D32 m).length ≤ 2 := M.digs_len_of_lt D32_two (by rw [show D32 ^ 2 = B64 from by rw [Nat.pow_two, D32_sq]]; exact hm)
 have := make0_any neg v _ w h (M.Low.digs D32_two _) (by omega)
 rwa [M.val_digs D32_two] at this
theorem rof_any (n : Int) (h1 : -9223372036854775808 ≤ n) (h2 : n < 9223372036854775808) (w : World) :
  Calls Tryz.prog 58 #[.int .i64 n] w (Re w (zI n)) := by
 obtain ⟨m, hm⟩ : ∃ m : Nat, m = n.natAbs := ⟨_, rfl⟩
 have hmB : m < B64 := by unfold B64; omega
 have HS := shut (fun v w h => split_one hmB v w h)
 by_cases hn : n < 0
 ·have HM := shut (fun v w h => make0_dig true m hmB v w h)
  rw [show sgn true m = n from by simp [sgn]; omega] at HM
  generalize hR : zI n = R at *
  obtain ⟨za, zb, rfl⟩ : ∃ a b, R = .agg #[.bool a, .string b] := ⟨_, _, hR.symm⟩
  clear hR hmB
  have g1 : IntKind.i64.wrap (n + 1) = n + 1 := by simp only [IntKind.wrap_i64]; omega
  have g2 : IntKind.i64.wrap (-(n + 1)) = -(n + 1) := by simp only [IntKind.wrap_i64]; omega
  have g3 : IntKind.u64.wrap (-(n + 1)) = -(n + 1) := by simp only [IntKind.wrap_u64]; omega
  have g4 : IntKind.u64.wrap (-(n + 1) + 1) = (m : Int) := by simp only [IntKind.wrap_u64]; omega
  clear hm
  go_enter Tryz.func58, Tryz.ntmps58
  go_wp2_with fail
  obtain ⟨w0, hw0, k0, r0, hb0⟩ := boxRow w m
  rw [← hw0]
  clear hw0
  refine (HS.out _ w0 r0).mono ?_
  rintro e w1 ⟨v, rfl, rv, hb1⟩
  obtain ⟨av, cv, rfl, -, -⟩ := id rv
  go_wp2_with fail
  refine (HM.out _ w1 rv).mono ?_
  rintro e w2 ⟨rfl, hb2⟩
  have bb2 := Below.after hb1 hb2
  have m2 := k0.below bb2
  have bb := Below.after hb0 bb2
  obtain ⟨e0, e1⟩ := xk2 m2
  have f0 := m2.frozen 0
  have f1 := m2.frozen 1
  go_wp2
  exact post_z (p := 2) (by kernel_rfl) rfl rfl ((m2.set 0 _).set 1 _) ⟨rfl, (bb.setCell (by simp) _).setCell (by simp) _⟩
 ·have g0 : n = (m : Int) := by omega
  have HM := shut (fun v w h => make0_dig false m hmB v w h)
  rw [show sgn false m = n from by simp [sgn]; omega] at HM
  generalize hR : zI n = R at *
  obtain ⟨za, zb, rfl⟩ : ∃ a b, R = .agg #[.bool a, .string b] := ⟨_, _, hR.symm⟩
  clear hR hmB hm
  subst g0
  have g1 : IntKind.u64.wrap (m : Int) = (m : Int) := by simp only [IntKind.wrap_u64]; omega
  go_enter Tryz.func58, Tryz.ntmps58
  go_wp2_with fail
  obtain ⟨w0, hw0, k0, r0, hb0⟩ := boxRow w m
  rw [← hw0]
  clear hw0
  refine (HS.out _ w0 r0).mono ?_
  rintro e w1 ⟨v, rfl, rv, hb1⟩
  obtain ⟨av, cv, rfl, -, -⟩ := id rv
  go_wp2_with fail
  refine (HM.out _ w1 rv).mono ?_
  rintro e w2 ⟨rfl, hb2⟩
  have bb2 := Below.after hb1 hb2
  have m2 := k0.below bb2
  have bb := Below.after hb0 bb2
  obtain ⟨e0, e1⟩ := xk2 m2
  have f0 := m2.frozen 0
  have f1 := m2.frozen 1
  go_wp2
  exact post_z (p := 2) (by kernel_rfl) rfl rfl ((m2.set 0 _).set 1 _) ⟨rfl, (bb.setCell (by simp) _).setCell (by simp) _⟩
open Go.RowKit
def HfAt (xs zs : List Nat) (k r : Nat) : Prop := zs.length = xs.length - k ∧ M.Low D32 zs ∧ r ≤ 1 ∧ 2 * M.val D32 zs + r = M.val D32 (xs.drop k)
theorem HfAt.step {xs zs : List Nat} {k r : Nat} (lx : M.Low D32 xs) (hk : k + 1 ≤ xs.length) (h : HfAt xs zs (k + 1) r) : HfAt xs ((D32 * r + lm xs k) / 2 :: zs) k ((D32 * r + lm xs k) % 2) := by
 obtain ⟨h1, h2, h3, h4⟩ := h
 have b1 : lm xs k < D32 := lm_lt D32_pos lx k
 refine ⟨by simp; omega, ?_, by omega, ?_⟩
 ·intro x hx
  rcases List.mem_cons.1 hx with rfl | hx
  ·unfold D32 at *; omega
  ·exact h2 x hx
 ·rw [drop_lm xs k (by omega), M.val_cons, M.val_cons, ← h4]
  have e := Nat.div_add_mod (D32 * r + lm xs k) 2
  rw [Nat.mul_add D32]
  have e2 : D32 * (2 * M.val D32 zs) = 2 * (D32 * M.val D32 zs) := Nat.mul_left_comm _ _ _
  omega
theorem rhalf_any (va : Value) (xs : List Nat) (w : World) (ha : Rd w va xs) (la : M.Low D32 xs) (hx : xs.length ≤ 100000) :
  Calls Tryz.prog 193 #[va] w fun e w' => ∃ v, e = .returned (.tuple #[v, .bool (decide (M.val D32 xs % 2 = 1))]) ∧ Rd w' v (M.digs D32 (M.val D32 xs / 2)) ∧ Below w.heap.size w w' := by
 have ha0 := ha
 obtain ⟨a, ca, rfl, hca, -⟩ := ha
 obtain ⟨n, hn⟩ : ∃ n, n = xs.length := ⟨_, rfl⟩
 rw [← hn] at ha0 hca hx ⊢
 have HN := shut hn
 clear hn
 go_enter Tryz.func193, Tryz.ntmps193
 go_wp2_with (at_make; refine wpList_mk rfl _ _ rfl _ n rfl rfl (by omega) (by omega) ?_; intro w2 hblk hbel)
 go_loopw [5, 6] (fun r i wr => ∃ (k rr : Nat) (zs : List Nat), k ≤ n ∧ i = .int .i64 ((k : Int) - 1) ∧ r = .int .u64 rr ∧ HfAt xs zs k rr ∧ Blk wr w.heap.size (List.replicate k 0 ++ zs) ∧ Below w.heap.size w wr) (fun _ i _ => (intOf i + 1).toNat)
 case atStart => exact ⟨n, 0, [], Nat.le_refl _, rfl, rfl, ⟨by rw [HN.out]; simp, M.Low.nil _, by omega, by rw [HN.out]; simp [M.val]⟩, by simpa using hblk, hbel⟩
 case round =>
  obtain ⟨k, rr, zs, hk, rfl, rfl, hat, hblk', hbel'⟩ := hrel
  match k with
  | 0 =>
   obtain ⟨h1, h2, h3, h4⟩ := hat
   rw [List.drop_zero] at h4
   rw [List.replicate_zero, List.nil_append] at hblk'
   have hzl : zs.length = n := by rw [h1, HN.out]; omega
   have hrd : Rd wr (.slice (some ⟨w.heap.size, 0, none⟩) n n) zs := by
    have := hblk'.rd0 n (by omega)
    rwa [hzl] at this
   have e1 : M.val D32 zs = M.val D32 xs / 2 := by omega
   have e2 : ((rr : Int) == 1) = decide (M.val D32 xs % 2 = 1) := by
    rw [Bool.eq_iff_iff]
    simp
    omega
   have E1 := shut e1
   have E2 := shut e2
   have hlen : zs.length ≤ 1000000 := by omega
   clear h4 e1 e2 h1 h3 hzl
   go_wp2_with fail
   refine (trim_any D32 D32_two _ _ zs hrd h2 hlen).mono ?_
   rintro e w' ⟨v', rfl, hv', rfl⟩
   go_wp2
   go_ret2
   exact ⟨_, by rw [← E2.out]; rfl, by rw [← E1.out]; exact hv', hbel'⟩
  | k + 1 =>
   have HST := shut (hat.step la (by rw [← HN.out]; exact hk))
   have b1 : lm xs k < 4294967296 := lm_lt D32_pos la k
   have hr1 : rr ≤ 1 := hat.2.2.1
   have hzl : zs.length = n - (k + 1) := by rw [hat.1, HN.out]
   obtain ⟨b1', o1, rfl, q1⟩ := ha0.at hbel' (j := k) (by rw [← HN.out]; omega)
   have hc1 := hblk'.cell (j := k) (by simp; omega)
   have hf1 := hblk'.frozen k
   have hset : ∀ y, Blk (wr.setCell ⟨w.heap.size, k, none⟩ (.int .u64 (y : Nat))) w.heap.size (List.replicate k 0 ++ y :: zs) := fun y => by
    have h := hblk'.set k y
    have e : (List.replicate (k + 1) 0 ++ zs).set k y = List.replicate k 0 ++ y :: zs := by
     rw [List.replicate_succ', List.append_assoc, List.set_append_right _ _ (by simp)]
     simp
    rwa [e] at h
   have HS := shut (hset ((D32 * rr + lm xs k) / 2))
   have ik : (k : Int) < n := by omega
   clear hset hat hzl
   go_wp2
   have e1 : ((rr : Int) * 4294967296 + (lm xs k : Int)) % 2 = (((D32 * rr + lm xs k) % 2 : Nat) : Int) := by unfold D32; omega
   have e2 : ((rr : Int) * 4294967296 + (lm xs k : Int)) / 2 = (((D32 * rr + lm xs k) / 2 : Nat) : Int) := by unfold D32; omega
   rw [e1, e2]
   exact ⟨⟨k, _, _, by omega, rfl, rfl, HST.out, HS.out, hbel'.setCell (Nat.le_refl _) _⟩, by simp only [intOf]; omega⟩
open Go.RowKit
theorem rb2 (w : World) (x0 x1 y0 y1 : Value) : ∃ w0, w0 = (w.alloc (.cells #[x0, x1] 24)).alloc (.cells #[y0, y1] 24) ∧
  Cel w0 w.heap.size [x0, x1] 24 ∧ Cel w0 (w.heap.size + 1) [y0, y1] 24 ∧ Below w.heap.size w w0 := by
 refine ⟨_, rfl, (Cel.new w [x0, x1] _).alloc _, ?_, by go_grown⟩
 have := Cel.new (w.alloc (.cells #[x0, x1] 24)) [y0, y1] 24
 simpa using this
theorem rb3 (w : World) (x0 x1 y0 y1 : Value) : ∃ w0, w0 = ((w.alloc (.cells #[x0, x1] 24)).alloc (.cells #[y0, y1] 24)).alloc (.cells #[.bool false, .string { data := #[] }] 24) ∧
  Cel w0 w.heap.size [x0, x1] 24 ∧ Cel w0 (w.heap.size + 1) [y0, y1] 24 ∧ Cel w0 (w.heap.size + 1 + 1) [.bool false, .string { data := #[] }] 24 ∧ Below w.heap.size w w0 := by
 refine ⟨_, rfl, ((Cel.new w [x0, x1] _).alloc _).alloc _, ?_, ?_, by go_grown⟩
 ·have := (Cel.new (w.alloc (.cells #[x0, x1] 24)) [y0, y1] 24).alloc (.cells #[.bool false, .string { data := #[] }] 24)
  simpa using this
 ·have := Cel.new ((w.alloc (.cells #[x0, x1] 24)).alloc (.cells #[y0, y1] 24)) [.bool false, .string { data := #[] }] 24
  simpa using this
theorem D32_pow (k : Nat) : D32 ^ k = 256 ^ (4 * k) := by rw [Nat.pow_mul]; rfl
theorem natOf_lt4 {s : ByteArray} (k : Nat) (h : s.size ≤ 4 * k) : natOf s < D32 ^ k := Nat.lt_of_lt_of_le (natOf_lt s) (by rw [D32_pow]; exact Nat.pow_le_pow_right (by omega) h)
theorem dlen {V K : Nat} (h : V < D32 ^ K) : (M.digs D32 V).length ≤ K := M.digs_len_of_lt D32_two h
theorem radd_dig {X Y K : Nat} (hK : K ≤ 50000) (hx : X < D32 ^ K) (hy : Y < D32 ^ K) (v0 v1 : Value) (w : World) (r0 : Rd w v0 (M.digs D32 X)) (r1 : Rd w v1 (M.digs D32 Y)) :
  Calls Tryz.prog 141 #[v0, v1] w fun e w' => ∃ v, e = .returned v ∧ Rd w' v (M.digs D32 (X + Y)) ∧ Below w.heap.size w w' := by
 have := radd_any v0 v1 _ _ w r0 r1 (M.Low.digs D32_two _) (M.Low.digs D32_two _) (Nat.le_trans (dlen hx) (by omega)) (Nat.le_trans (dlen hy) (by omega))
 rwa [M.val_digs D32_two, M.val_digs D32_two] at this
theorem digs_mono {b X Y : Nat} (hb : 2 ≤ b) (h : Y ≤ X) : (M.digs b Y).length ≤ (M.digs b X).length := by
 refine M.digs_len_of_lt hb (Nat.lt_of_le_of_lt h ?_)
 have := M.val_lt (by omega) (M.Low.digs hb X)
 rwa [M.val_digs hb] at this
theorem rsub_dig {X Y K : Nat} (hK : K ≤ 50000) (hx : X < D32 ^ K) (hle : Y ≤ X) (v0 v1 : Value) (w : World) (r0 : Rd w v0 (M.digs D32 X)) (r1 : Rd w v1 (M.digs D32 Y)) :
  Calls Tryz.prog 143 #[v0, v1] w fun e w' => ∃ v, e = .returned v ∧ Rd w' v (M.digs D32 (X - Y)) ∧ Below w.heap.size w w' := by
 have := rsub_any v0 v1 _ _ w r0 r1 (M.Low.digs D32_two _) (M.Low.digs D32_two _) (Nat.le_trans (dlen hx) (by omega)) (digs_mono D32_two hle) (by rw [M.val_digs D32_two, M.val_digs D32_two]; exact hle)
 rwa [M.val_digs D32_two, M.val_digs D32_two] at this
theorem rcmp_dig {X Y K : Nat} (hK : K ≤ 50000) (hx : X < D32 ^ K) (v0 v1 : Value) (w : World) (r0 : Rd w v0 (M.digs D32 X)) (r1 : Rd w v1 (M.digs D32 Y)) :
  Calls Tryz.prog 142 #[v0, v1] w (Re w (.int .i64 (cmpN X Y))) := by
 have := rcmp_any D32 D32_pos v0 v1 _ _ w r0 r1 (M.Low.digs D32_two _) (M.Low.digs D32_two _) (M.trim_digs D32_two _) (M.trim_digs D32_two _) (Nat.le_trans (dlen hx) (by omega))
 rwa [M.val_digs D32_two, M.val_digs D32_two] at this
theorem rdiv_dig {X Y K : Nat} (hK : K ≤ 50000) (hx : X < D32 ^ K) (hy : Y < D32 ^ K) (h0 : 0 < Y) (v0 v1 : Value) (w : World) (r0 : Rd w v0 (M.digs D32 X)) (r1 : Rd w v1 (M.digs D32 Y)) :
  Calls Tryz.prog 112 #[v0, v1] w fun e w' => ∃ q r, e = .returned (.tuple #[q, r]) ∧ Rd w' q (M.digs D32 (X / Y)) ∧ Rd w' r (M.digs D32 (X % Y)) ∧ Below w.heap.size w w' := by
 have := rdiv_any v0 v1 _ _ w r0 r1 (M.Low.digs D32_two _) (M.Low.digs D32_two _) (M.trim_digs D32_two _) (digs_pos D32_two (by omega)) (Nat.le_trans (dlen hx) (by omega)) (Nat.le_trans (dlen hy) (by omega))
 rwa [M.val_digs D32_two, M.val_digs D32_two] at this
theorem make0_val (neg : Bool) {V K : Nat} (hK : K ≤ 100000) (hV : V < D32 ^ K) (v : Value) (w : World) (h : Rd w v (M.digs D32 V)) :
  Calls Tryz.prog 115 #[.bool neg, v] w (Re w (zI (sgn neg V))) := by
 have := make0_any neg v _ w h (M.Low.digs D32_two _) (Nat.le_trans (dlen hV) hK)
 rwa [M.val_digs D32_two] at this
open Go.RowKit
theorem natOf_lt8 {s : ByteArray} (k : Nat) (h : s.size ≤ 8 * k) : natOf s < B64 ^ k := Nat.lt_of_lt_of_le (natOf_lt s) (by rw [B64_pow]; exact Nat.pow_le_pow_right (by omega) h)
open Go.RowKit
theorem dig_any (s : ByteArray) (w : World) (hm : s.size ≤ 40000) :
  Calls Tryz.prog 113 #[.string s] w fun e w' => ∃ v, e = .returned v ∧ Rd w' v (M.digs D32 (natOf s)) ∧ Below w.heap.size w w' := digits_any s w (by omega)
open Go.RowKit
theorem boxes4 (w : World) (x0 x1 y0 y1 : Value) : ∃ w0, w0 = (((w.alloc (.cells #[x0, x1] 24)).alloc (.cells #[y0, y1] 24)).alloc (.cells #[.bool false, .string { data := #[] }] 24)).alloc (.cells #[x0, x1, y0, y1] 24) ∧
  Cel w0 w.heap.size [x0, x1] 24 ∧ Cel w0 (w.heap.size + 1) [y0, y1] 24 ∧ Cel w0 (w.heap.size + 1 + 1) [.bool false, .string { data := #[] }] 24 ∧ Cel w0 (w.heap.size + 1 + 1 + 1) [x0, x1, y0, y1] 24 ∧ Below w.heap.size w w0 := by
 refine ⟨_, rfl, (((Cel.new w [x0, x1] 24).alloc _).alloc _).alloc _, ?_, ?_, ?_, by go_grown⟩
 ·have := ((Cel.new (w.alloc (.cells #[x0, x1] 24)) [y0, y1] 24).alloc (.cells #[.bool false, .string { data := #[] }] 24)).alloc (.cells #[x0, x1, y0, y1] 24)
  simpa using this
 ·have := (Cel.new ((w.alloc (.cells #[x0, x1] 24)).alloc (.cells #[y0, y1] 24)) [.bool false, .string { data := #[] }] 24).alloc (.cells #[x0, x1, y0, y1] 24)
  simpa using this
 ·have := Cel.new (((w.alloc (.cells #[x0, x1] 24)).alloc (.cells #[y0, y1] 24)).alloc (.cells #[.bool false, .string { data := #[] }] 24)) [x0, x1, y0, y1] 24
  simpa using this
theorem sgn_natOf (neg : Bool) (s : ByteArray) : sgn neg (natOf s) = zOf neg s := rfl
end Go.Proofs.YtnplifkgeeicjaaGreatDoor
namespace Go.Proofs.YtnplifkgeeicjaaGreatDoor
open Go.RowKit Go.Shelf
theorem run_mk1 (w : World) : (Instr.makeSlice 229 (.int .i64 1) (.int .i64 1)).run Tryz.prog w = .ok (.slice (some ⟨w.heap.size, 0, none⟩) 1 1) (w.alloc (.cells #[.bool false, .slice none 0 0] 228)) := by
 obtain ⟨i0, hi, hz0, hz1, hz2⟩ := info_parts (show (Tryz.prog.info? 228).map (fun i => (i.zero, i.size, i.bytes)) = some (some (.agg #[.bool false, .slice none 0 0]), 2, 32) by kernel_rfl)
 have h := run_make (P := Tryz.prog) w 229 228 i0 (.agg #[.bool false, .slice none 0 0]) Tryz.underlying229 hi hz0 .i64 .i64 1 1 (by omega) (by omega) (by rw [hz2]; omega) (by omega)
 rw [h, hz1]
 have e : madeCells (Value.cells (.agg #[.bool false, .slice none 0 0])) (Int.toNat 1 * 2) = #[.bool false, .slice none 0 0] := by
  have : Value.cells (.agg #[.bool false, .slice none 0 0]) = #[.bool false, .slice none 0 0] := by kernel_rfl
  rw [this]
  unfold madeCells
  apply Array.toList_inj.1
  rw [Array.toList_map, Array.toList_range]
  rfl
 rw [e]
 rfl
theorem no_ints1 (n0 : Bool) (a : Option Addr) (l c : Nat) : ∀ (j : Nat) (k : IntKind) (n : Int), [Value.bool n0, .slice a l c][j]? ≠ some (.int k n) := by
 intro j k n
 match j with
 | 0 => simp
 | 1 => simp
 | j + 2 => simp
theorem read1_ok (B : Nat) (n0 : Bool) (s0 : ByteArray) (w : World) (hB : Cel w B [.bool n0, .string s0] 24) (o0 : OkZ n0 s0) (z0 : s0.size ≤ 32000) :
  Calls Tryz.prog 171 #[.slice (some ⟨B, 0, none⟩) 1 1] w fun e w' => ∃ g v0, e = .returned (.tuple #[.slice (some ⟨g, 0, none⟩) 1 1, .int .i64 0]) ∧ Cel w' g [.bool n0, v0] 228 ∧ RdX w' v0 (M.digs B64 (natOf s0)) g ∧ w.heap.size ≤ g ∧ Below w.heap.size w w' := by
 have hmk := run_mk1 w
 have Z0 := shut ((chk_ok z0).2 o0)
 have H0 := shut o0.1
 clear o0
 go_enter Tryz.func171, Tryz.ntmps171
 go_wp2
 go_loopw [15] (fun i wr => Below w.heap.size w wr ∧ ((i = .int .i64 0 ∧ Cel wr w.heap.size [.bool false, .slice none 0 0] 228) ∨
   (i = .int .i64 1 ∧ ∃ v0, Cel wr w.heap.size [.bool n0, v0] 228 ∧ RdX wr v0 (M.digs B64 (natOf s0)) w.heap.size))) (fun i _ => 1 - (intOf i).toNat)
 case atStart => exact ⟨(Below.refl _ _).alloc (Nat.le_refl _) _, Or.inl ⟨rfl, Cel.new w [.bool false, .slice none 0 0] _⟩⟩
 case round =>
  obtain ⟨hbel, hc⟩ := hrel
  have kB := hB.below hbel
  obtain ⟨b0, b1⟩ := xk2 kB
  clear kB
  rcases hc with ⟨rfl, hc⟩ | ⟨rfl, v0, hc, r0⟩
  ·go_wp2_with fail
   obtain ⟨w1, hw1⟩ : ∃ w1, w1 = wr.alloc (.cells #[.bool n0, .string s0] 24) := ⟨_, rfl⟩
   have hb1 : Below wr.heap.size wr w1 := by rw [hw1]; exact (Below.refl _ _).alloc (Nat.le_refl _) _
   have k1 : Cel w1 wr.heap.size [.bool n0, .string s0] 24 := by rw [hw1]; exact Cel.new wr _ _
   rw [← hw1]
   clear hw1 b0 b1
   refine (check_any n0 s0 w1).mono ?_
   rintro e w2 ⟨rfl, hb2⟩
   rw [Z0.out]
   have k2 := k1.below hb2
   obtain ⟨d0, d1⟩ := xk2 k2
   go_wp2_with fail
   refine (of_any s0 w2 z0 H0.out).mono ?_
   rintro e w3 ⟨v, rfl, rv, hb3⟩
   obtain ⟨av, cv, rfl, -, -⟩ := id rv
   have k3' := k2.below hb3
   have d0 := cel2_0' k3'
   have k3 := ((hc.below hb1).below hb2).below hb3
   have bb3 := Below.after (Below.after (Below.after hbel hb1) hb2) hb3
   obtain ⟨e0, e1⟩ := xk2 k3
   have f0 := k3.frozen 0
   have f1 := k3.frozen 1
   have rx := rdx_of_cel rv k3 (no_ints1 _ _ _ _)
   have HRX := shut ((rx.setX 0 (.bool n0)).setX 1 (.slice av (M.digs B64 (natOf s0)).length cv))
   clear rx
   go_wp2
   exact ⟨⟨(bb3.setCell (Nat.le_refl _) _).setCell (Nat.le_refl _) _, Or.inr ⟨by go_num, _, (k3.set 0 _).set 1 _, HRX.out⟩⟩, by simp [intOf]⟩
  ·go_wp2
   go_ret2
   exact ⟨_, v0, rfl, hc, r0, Nat.le_refl _, hbel⟩
def ten19 : Nat := 10000000000000000000
def slen : Value → Nat
 | .slice _ n _ => n
 | _ => 0
open Go.RowKit
def stV (a b c d : Nat) : Value := .agg #[.int .u64 (a : Nat), .int .u64 (b : Nat), .int .u64 (c : Nat), .int .u64 (d : Nat)]
theorem post_s4 {fn : Func} {p : Tmp} {R : Ending → World → Prop} {a : Act} {w : World} {g : Nat} {x y z u : Value} (h : fn.results = #[.cell p 276]) (hp : a.tmps.getD p undef = .pointer (some ⟨g, 0, none⟩)) (hd : a.defers = [])
  (hc : Cel w g [x, y, z, u] 276) (hR : R (.returned (.agg #[x, y, z, u])) w) : bodyPost Tryz.prog fn R .ret a w := by
 refine ⟨hd, .agg #[x, y, z, u], ?_, hR⟩
 exact results_cell_row (P := Tryz.prog) h _ w g 276 #[x, y, z, u] (0, 0) _ hp hc Tryz.underlying276 rfl (by kernel_rfl)
theorem few_any (x y : Nat) (hx : x < B64) (hyx : y ≤ x) (w : World) :
  Calls Tryz.prog 235 #[.int .u64 (x : Nat), .int .u64 (y : Nat)] w fun e w' => ∃ a b c d p r : Nat, e = .returned (stV a b c d) ∧ M.Few x y a b c d p r ∧ b < 1073741824 ∧ d < 1073741824 ∧ Below w.heap.size w w' := by
 unfold stV
 unfold B64 at hx
 go_enter Tryz.func235, Tryz.ntmps235
 go_wp2
 obtain ⟨w0, hw0⟩ : ∃ w0, w0 = (w.alloc (.cells #[.int .u64 0, .int .u64 0, .int .u64 0, .int .u64 0] 276)).alloc (.cells #[.int .u64 1, .int .u64 0, .int .u64 0, .int .u64 1] 276) := ⟨_, rfl⟩
 have k0 : Cel w0 w.heap.size [.int .u64 0, .int .u64 0, .int .u64 0, .int .u64 0] 276 := by rw [hw0]; exact (Cel.new w _ _).alloc _
 have k1 : Cel w0 (w.heap.size + 1) [.int .u64 ((1 : Nat) : Int), .int .u64 ((0 : Nat) : Int), .int .u64 ((0 : Nat) : Int), .int .u64 ((1 : Nat) : Int)] 276 := by
  rw [hw0]
  have := Cel.new (w.alloc (.cells #[.int .u64 0, .int .u64 0, .int .u64 0, .int .u64 0] 276)) [.int .u64 1, .int .u64 0, .int .u64 0, .int .u64 1] 276
  simpa using this
 have b0 : Below w.heap.size w w0 := by rw [hw0]; go_grown
 rw [← hw0]
 clear hw0
 go_loopw [0, 1] (fun vx vy wr => ∃ a b c d p r : Nat, vx = .int .u64 p ∧ vy = .int .u64 r ∧ M.Few x y a b c d p r ∧ a < 1073741824 ∧ b < 1073741824 ∧ c < 1073741824 ∧ d < 1073741824 ∧ p ≤ x ∧ r ≤ p ∧
   Cel wr w.heap.size [.int .u64 0, .int .u64 0, .int .u64 0, .int .u64 0] 276 ∧ Cel wr (w.heap.size + 1) [.int .u64 (a : Nat), .int .u64 (b : Nat), .int .u64 (c : Nat), .int .u64 (d : Nat)] 276 ∧ Below w.heap.size w wr)
  (fun _ vy _ => (intOf vy).toNat)
 case atStart => exact ⟨1, 0, 0, 1, x, y, rfl, rfl, M.Few.zero x y, by omega, by omega, by omega, by omega, by omega, hyx, k0, k1, b0⟩
 case round =>
  clear k0 k1 b0
  obtain ⟨a, b, c, d, p, r, rfl, rfl, few, ha, hb, hc, hd, hp, hr, k0, k1, b0⟩ := hrel
  have e0 := k1.cell 0
  have e1 := k1.cell 1
  have e2 := k1.cell 2
  have e3 := k1.cell 3
  have z0 := k0.cell 0
  have z1 := k0.cell 1
  have z2 := k0.cell 2
  have z3 := k0.cell 3
  have f0 := k0.frozen 0
  have f1 := k0.frozen 1
  have f2 := k0.frozen 2
  have f3 := k0.frozen 3
  simp only [List.getElem?_cons_zero, List.getElem?_cons_succ] at e0 e1 e2 e3 z0 z1 z2 z3
  have FE := shut few
  by_cases h0 : r = 0
  ·go_wp2
   exact post_s4 (p := 4) (by kernel_rfl) rfl rfl ((((k0.set 0 _).set 1 _).set 2 _).set 3 _) ⟨a, b, c, d, p, r, rfl, FE.out, hb, hd, (((b0.setCell (by simp) _).setCell (by simp) _).setCell (by simp) _).setCell (by simp) _⟩
  ·obtain ⟨q, hq⟩ : ∃ q, p / r = q := ⟨_, rfl⟩
   obtain ⟨t, ht⟩ : ∃ t, p % r = t := ⟨_, rfl⟩
   have iq : IntKind.u64.wrap (Int.tdiv (p : Int) (r : Int)) = (q : Nat) := by
    rw [Int.tdiv_eq_ediv_of_nonneg (by omega), ← Int.natCast_ediv, hq]
    exact wrapIn q (by have := Nat.div_le_self p r; omega)
   have it : Int.tmod (p : Int) (r : Int) = (t : Nat) := by
    rw [Int.tmod_eq_emod_of_nonneg (by omega), ← Int.natCast_emod, ht]
   have hdm : p = q * r + t := by rw [← hq, ← ht, Nat.mul_comm]; exact (Nat.div_add_mod p r).symm
   have htr : t < r := by rw [← ht]; exact Nat.mod_lt _ (by omega)
   have HD := shut hdm
   have hr1 : ¬ (r : Int) = 0 := by omega
   have hr2 : ((r : Int) != 0) = true := by simpa using hr1
   clear hq ht hdm few
   have A := shut ha
   have B := shut hb
   have C := shut hc
   have D := shut hd
   have P := shut hp
   have X := shut hx
   have R := shut hr
   have T := shut htr
   have HYX := shut hyx
   clear ha hb hc hd hp hx hr htr hyx h0
   obtain ⟨qc, hqc⟩ : ∃ z, q * c = z := ⟨_, rfl⟩
   obtain ⟨qd, hqd⟩ : ∃ z, q * d = z := ⟨_, rfl⟩
   have iqc : (q : Int) * (c : Int) = (qc : Nat) := by rw [← hqc, Int.natCast_mul]
   have iqd : (q : Int) * (d : Int) = (qd : Nat) := by rw [← hqd, Int.natCast_mul]
   have QC := shut hqc
   have QD := shut hqd
   clear hqc hqd
   have kk : Cel wr (w.heap.size + 1) [.int .u64 (a : Nat), .int .u64 (b : Nat), .int .u64 (c : Nat), .int .u64 (d : Nat)] 276 := k1
   clear k1
   generalize hA : (a : Int) = aI at *
   generalize hB : (b : Int) = bI at *
   generalize hC : (c : Int) = cI at *
   generalize hD : (d : Int) = dI at *
   generalize hP : (p : Int) = pI at *
   generalize hR : (r : Int) = rI at *
   generalize hQ : (q : Int) = qI at *
   generalize hT : (t : Int) = tI at *
   generalize hQC : (qc : Int) = qcI at *
   generalize hQD : (qd : Int) = qdI at *
   have HA := shut hA
   have HB := shut hB
   have HC := shut hC
   have HD' := shut hD
   have HR := shut hR
   have HQ := shut hQ
   have HT := shut hT
   have HQC := shut hQC
   have HQD := shut hQD
   clear hA hB hC hD hP hR hQ hT hQC hQD
   by_cases hq1 : (1073741824 : Int) ≤ qI
   ·go_wp2
    go_region
    go_wp2
    exact post_s4 (p := 4) (by kernel_rfl) rfl rfl ((((k0.drew.set 0 _).set 1 _).set 2 _).set 3 _) ⟨a, b, c, d, p, r, by rw [HA.out, HB.out, HC.out, HD'.out], FE.out, B.out, D.out, (((b0.drew.setCell (by simp) _).setCell (by simp) _).setCell (by simp) _).setCell (by simp) _⟩
   ·have M1 : qcI ≤ 1152921502459363329 := by
     have m : q * c ≤ 1073741823 * 1073741823 := Nat.mul_le_mul (by have := HQ.out; omega) (by have := C.out; omega)
     rw [QC.out] at m
     have := HQC.out
     omega
    have M2 : qdI ≤ 1152921502459363329 := by
     have m : q * d ≤ 1073741823 * 1073741823 := Nat.mul_le_mul (by have := HQ.out; omega) (by have := D.out; omega)
     rw [QD.out] at m
     have := HQD.out
     omega
    have M3 : 0 ≤ qcI := by have := HQC.out; omega
    have M4 : 0 ≤ qdI := by have := HQD.out; omega
    have A1 : aI < 1073741824 := by have := A.out; have := HA.out; omega
    have A2 : 0 ≤ aI := by have := HA.out; omega
    have B1 : bI < 1073741824 := by have := B.out; have := HB.out; omega
    have B2 : 0 ≤ bI := by have := HB.out; omega
    have D1 : dI < 1073741824 := by have := D.out; have := HD'.out; omega
    have D2 : 0 ≤ dI := by have := HD'.out; omega
    have T1 : tI < rI := by have := T.out; have := HT.out; have := HR.out; omega
    have T2 : 0 ≤ tI := by have := HT.out; omega
    have R1 : rI ≤ 18446744073709551615 := by have := R.out; have := P.out; have := X.out; have := HR.out; omega
    have g0 := kk.frozen 0
    have g1 := kk.frozen 1
    have g2 := kk.frozen 2
    have g3 := kk.frozen 3
    by_cases hd' : 1073741824 ≤ bI + qdI
    ·-- a factor too great
     go_wp2
     go_region
     go_wp2
     go_region
     go_wp2
     exact post_s4 (p := 4) (by kernel_rfl) rfl rfl ((((k0.set 0 _).set 1 _).set 2 _).set 3 _).drew.drew ⟨a, b, c, d, p, r, by rw [HA.out, HB.out, HC.out, HD'.out], FE.out, B.out, D.out, ((((b0.setCell (by simp) _).setCell (by simp) _).setCell (by simp) _).setCell (by simp) _).drew.drew⟩
    by_cases ht' : tI < 2 * (bI + qdI)
    ·-- the rest is not sure
     go_wp2
     go_region
     go_wp2
     go_region
     go_wp2
     exact post_s4 (p := 4) (by kernel_rfl) rfl rfl ((((k0.set 0 _).set 1 _).set 2 _).set 3 _).drew.drew ⟨a, b, c, d, p, r, by rw [HA.out, HB.out, HC.out, HD'.out], FE.out, B.out, D.out, ((((b0.setCell (by simp) _).setCell (by simp) _).setCell (by simp) _).setCell (by simp) _).drew.drew⟩
    by_cases hy' : rI - tI < 2 * (dI + (bI + qdI))
    ·-- the quotient is not sure
     go_wp2
     go_region
     go_wp2
     go_region
     go_wp2
     exact post_s4 (p := 4) (by kernel_rfl) rfl rfl ((((k0.set 0 _).set 1 _).set 2 _).set 3 _).drew.drew ⟨a, b, c, d, p, r, by rw [HA.out, HB.out, HC.out, HD'.out], FE.out, B.out, D.out, ((((b0.setCell (by simp) _).setCell (by simp) _).setCell (by simp) _).setCell (by simp) _).drew.drew⟩
    have FS : Hid (M.Few x y c d (a + q * c) (b + q * d) r t) := by
     have e1 := HB.out
     have e2 := HQD.out
     have e3 := HD'.out
     have e4 := HT.out
     have e5 := HR.out
     refine FE.out.step HYX.out HD.out T.out ?_ ?_
     ·rw [QD.out]; omega
     ·rw [QD.out]; omega
    have N1 : Hid (a + q * c < 1073741824) := by
     have e1 := HB.out
     have e2 := HQD.out
     show _ < _
     have le : a + q * c ≤ b + q * d ∨ (a + q * c = 1 ∧ b = 0) := by
      rcases FE.out with ⟨h1, h2, h3, h4, -⟩ | ⟨-, h2, h3, h4, -⟩
      ·right; rw [h1, h3]; exact ⟨by simp, h2⟩
      ·left
       have := Nat.mul_le_mul_left q h3
       omega
     rw [QD.out] at le
     omega
    have N2 : Hid (b + q * d < 1073741824) := by
     have e1 := HB.out
     have e2 := HQD.out
     show _ < _
     rw [QD.out]
     omega
    go_wp2
    go_region
    go_wp2
    go_region
    go_wp2
    have ec : [Value.int .u64 cI, Value.int .u64 dI, Value.int .u64 (aI + qcI), Value.int .u64 (bI + qdI)] = [Value.int .u64 (c : Nat), Value.int .u64 (d : Nat), Value.int .u64 ((a + q * c : Nat) : Int), Value.int .u64 ((b + q * d : Nat) : Int)] := by
     rw [QC.out, QD.out, Int.natCast_add, Int.natCast_add, HA.out, HB.out, HC.out, HD'.out, HQC.out, HQD.out]
    refine ⟨⟨c, d, a + q * c, b + q * d, r, t, by rw [HR.out], by rw [HT.out], FS.out, C.out, D.out, N1.out, N2.out, Nat.le_trans R.out P.out, Nat.le_of_lt T.out,
     ((((k0.other (by omega) _ _).other (by omega) _ _).other (by omega) _ _).other (by omega) _ _).drew.drew, ?_, ((((b0.setCell (by simp) _).setCell (by simp) _).setCell (by simp) _).setCell (by simp) _).drew.drew⟩, by simp only [intOf]; omega⟩
    rw [← ec]
    exact ((((kk.set 0 _).set 1 _).set 2 _).set 3 _).drew.drew
open Go.RowKit
theorem boxes5 (w : World) (x0 x1 y0 y1 : Value) : ∃ w0, w0 = ((((w.alloc (.cells #[x0, x1] 24)).alloc (.cells #[y0, y1] 24)).alloc (.cells #[.bool false, .string { data := #[] }] 24)).alloc (.cells #[.bool false, .string { data := #[] }] 24)).alloc (.cells #[x0, x1, y0, y1] 24) ∧
  Cel w0 w.heap.size [x0, x1] 24 ∧ Cel w0 (w.heap.size + 1) [y0, y1] 24 ∧ Cel w0 (w.heap.size + 1 + 1) [.bool false, .string { data := #[] }] 24 ∧ Cel w0 (w.heap.size + 1 + 1 + 1) [.bool false, .string { data := #[] }] 24 ∧ Cel w0 (w.heap.size + 1 + 1 + 1 + 1) [x0, x1, y0, y1] 24 ∧ Below w.heap.size w w0 := by
 refine ⟨_, rfl, ((((Cel.new w [x0, x1] 24).alloc _).alloc _).alloc _).alloc _, ?_, ?_, ?_, ?_, by go_grown⟩
 ·have := (((Cel.new (w.alloc (.cells #[x0, x1] 24)) [y0, y1] 24).alloc (.cells #[.bool false, .string { data := #[] }] 24)).alloc (.cells #[.bool false, .string { data := #[] }] 24)).alloc (.cells #[x0, x1, y0, y1] 24)
  simpa using this
 ·have := ((Cel.new ((w.alloc (.cells #[x0, x1] 24)).alloc (.cells #[y0, y1] 24)) [.bool false, .string { data := #[] }] 24).alloc (.cells #[.bool false, .string { data := #[] }] 24)).alloc (.cells #[x0, x1, y0, y1] 24)
  simpa using this
 ·have := (Cel.new (((w.alloc (.cells #[x0, x1] 24)).alloc (.cells #[y0, y1] 24)).alloc (.cells #[.bool false, .string { data := #[] }] 24)) [.bool false, .string { data := #[] }] 24).alloc (.cells #[x0, x1, y0, y1] 24)
  simpa using this
 ·have := Cel.new ((((w.alloc (.cells #[x0, x1] 24)).alloc (.cells #[y0, y1] 24)).alloc (.cells #[.bool false, .string { data := #[] }] 24)).alloc (.cells #[.bool false, .string { data := #[] }] 24)) [x0, x1, y0, y1] 24
  simpa using this
theorem ediv_neg_nat (X Y : Nat) (hY : 0 < Y) : (-(X : Int)) / (Y : Int) = (if X % Y = 0 then -((X / Y : Nat) : Int) else -((X / Y + 1 : Nat) : Int)) ∧ (-(X : Int)) % (Y : Int) = (if X % Y = 0 then 0 else ((Y - X % Y : Nat) : Int)) := by
 have hd := Nat.div_add_mod X Y
 have hl := Nat.mod_lt X hY
 refine (Int.ediv_emod_unique (by omega)).2 ?_
 generalize X / Y = q at *
 generalize X % Y = r at *
 have e : (X : Int) = (Y : Int) * (q : Int) + (r : Int) := by rw [← hd]; simp
 by_cases h : r = 0
 ·subst h
  simp only [if_true]
  refine ⟨?_, by omega, by omega⟩
  rw [e, Int.mul_neg]; simp
 ·rw [if_neg h, if_neg h]
  refine ⟨?_, by omega, by omega⟩
  rw [e, Int.natCast_add, Int.mul_neg, Int.mul_add]
  have : ((Y - r : Nat) : Int) = (Y : Int) - (r : Int) := by omega
  rw [this]
  simp
  omega
theorem sgn_ediv (a b : Bool) (X Y : Nat) (hY : 0 < Y) : sgn a X / sgn b Y = sgn (a != b) (if a = true ∧ X % Y ≠ 0 then X / Y + 1 else X / Y) ∧ sgn a X % sgn b Y = sgn false (if a = true ∧ X % Y ≠ 0 then Y - X % Y else X % Y) := by
 have h := ediv_neg_nat X Y hY
 cases a <;> cases b
 ·simp [sgn]
 ·simp [sgn, Int.ediv_neg]
 ·rw [show sgn true X = -(X : Int) from rfl, show sgn false Y = (Y : Int) from rfl, h.1, h.2]
  by_cases h0 : X % Y = 0
  ·simp [sgn, h0]
  ·simp [sgn, h0]
 ·rw [show sgn true X = -(X : Int) from rfl, show sgn true Y = -(Y : Int) from rfl, Int.ediv_neg, Int.emod_neg, h.1, h.2]
  by_cases h0 : X % Y = 0
  ·simp [sgn, h0]
  ·simp [sgn, h0]
open Go.RowKit
theorem none_any (a b c d : Nat) (w : World) :
  Calls Tryz.prog 205 #[stV a b c d] w (Re w (.bool (decide (b = 0)))) := by
 unfold stV
 have HB : Hid ((((b : Nat) : Int) == 0) = decide (b = 0)) := by show _ = _; rw [Bool.eq_iff_iff]; simp
 go_enter Tryz.func205, Tryz.ntmps205
 go_wp2
 go_ret
 exact ⟨by show Ending.returned (.bool ((b : Int) == 0)) = _; rw [HB.out], by go_grown⟩
theorem prod30 {a b : Nat} (ha : a < 1073741824) (hb : b < 1073741824) : a * b ≤ 1152921502459363329 := Nat.le_trans (Nat.mul_le_mul (show a ≤ 1073741823 by omega) (show b ≤ 1073741823 by omega)) (by decide)
theorem after_any (a b c d a' b' c' d' : Nat) (w : World) (ha : a < 1073741824) (hb : b < 1073741824) (hc : c < 1073741824) (hd : d < 1073741824) (ha' : a' < 1073741824) (hb' : b' < 1073741824) (hc' : c' < 1073741824) (hd' : d' < 1073741824) :
  Calls Tryz.prog 236 #[stV a b c d, stV a' b' c' d'] w (Re w (stV (a * a' + b * c') (a * b' + b * d') (c * a' + d * c') (c * b' + d * d'))) := by
 unfold stV
 have p1 := prod30 ha ha'
 have p2 := prod30 hb hc'
 have p3 := prod30 ha hb'
 have p4 := prod30 hb hd'
 have p5 := prod30 hc ha'
 have p6 := prod30 hd hc'
 have p7 := prod30 hc hb'
 have p8 := prod30 hd hd'
 simp only [Int.natCast_add, Int.natCast_mul]
 have q : ∀ x y : Nat, x * y ≤ 1152921502459363329 → (x : Int) * (y : Int) ≤ 1152921502459363329 ∧ 0 ≤ (x : Int) * (y : Int) := fun x y h => by rw [← Int.natCast_mul]; omega
 replace p1 := q _ _ p1
 replace p2 := q _ _ p2
 replace p3 := q _ _ p3
 replace p4 := q _ _ p4
 replace p5 := q _ _ p5
 replace p6 := q _ _ p6
 replace p7 := q _ _ p7
 replace p8 := q _ _ p8
 clear q ha hb hc hd ha' hb' hc' hd'
 generalize (a : Int) = A at *
 generalize (b : Int) = B at *
 generalize (c : Int) = C at *
 generalize (d : Int) = D at *
 generalize (a' : Int) = A' at *
 generalize (b' : Int) = B' at *
 generalize (c' : Int) = C' at *
 generalize (d' : Int) = D' at *
 generalize h1 : A * A' = m1 at *
 generalize h2 : B * C' = m2 at *
 generalize h3 : A * B' = m3 at *
 generalize h4 : B * D' = m4 at *
 generalize h5 : C * A' = m5 at *
 generalize h6 : D * C' = m6 at *
 generalize h7 : C * B' = m7 at *
 generalize h8 : D * D' = m8 at *
 obtain ⟨p1, r1⟩ := p1
 obtain ⟨p2, r2⟩ := p2
 obtain ⟨p3, r3⟩ := p3
 obtain ⟨p4, r4⟩ := p4
 obtain ⟨p5, r5⟩ := p5
 obtain ⟨p6, r6⟩ := p6
 obtain ⟨p7, r7⟩ := p7
 obtain ⟨p8, r8⟩ := p8
 go_enter Tryz.func236, Tryz.ntmps236
 go_wp2
 refine post_s4 (p := 4) (g := w.heap.size + 1 + 1) (by kernel_rfl) rfl rfl (x := .int .u64 (m1 + m2)) (y := .int .u64 (m3 + m4)) (z := .int .u64 (m5 + m6)) (u := .int .u64 (m7 + m8)) ?_ ⟨rfl, by go_grown⟩
 have := Cel.new ((w.alloc (.cells #[.int .u64 A, .int .u64 B, .int .u64 C, .int .u64 D] 276)).alloc (.cells #[.int .u64 A', .int .u64 B', .int .u64 C', .int .u64 D'] 276)) [.int .u64 (m1 + m2), .int .u64 (m3 + m4), .int .u64 (m5 + m6), .int .u64 (m7 + m8)] 276
 simpa using this
open Go.RowKit
def rowM (bs : Nat) (v : Value) (w : World) : Nat := match v with
 | .slice (some a) n _ => M.val bs ((List.range n).map fun j => match w.cell? ⟨a.block, a.off + j, none⟩ with | some (.int _ z) => z.toNat | _ => 0)
 | _ => 0
theorem rowM_eq {bs : Nat} (hb : 2 ≤ bs) {w : World} {v : Value} {A : Nat} (h : Rd w v (M.digs bs A)) : rowM bs v w = A := by
 obtain ⟨ao, cap, rfl, -, hc⟩ := h
 rcases Nat.eq_zero_or_pos (M.digs bs A).length with h0 | h0
 ·have z : A = 0 := by
   have := M.val_digs hb A
   rw [List.eq_nil_of_length_eq_zero h0] at this
   exact this.symm
  subst z
  rw [M.digs_zero]
  cases ao <;> rfl
 ·obtain ⟨b, off, rfl, -⟩ := hc 0 h0
  have e : ((List.range (M.digs bs A).length).map fun j => match w.cell? ⟨b, off + j, none⟩ with | some (.int _ z) => z.toNat | _ => 0) = M.digs bs A := by
   apply List.ext_getElem
   ·simp
   ·intro i h1 h2
    obtain ⟨b', off', e', hcell⟩ := hc i h2
    cases e'
    simp only [List.getElem_map, List.getElem_range, hcell]
    simp [lm, h2]
  show M.val bs _ = A
  rw [e, M.val_digs hb]
theorem lm0_dig (A : Nat) : lm (M.digs D32 A) 0 % 2 = A % 2 := by
 rcases Nat.eq_zero_or_pos A with h | h
 ·subst h; rw [M.digs_zero]; rfl
 ·rw [M.digs_pos D32_two h]
  show A % D32 % 2 = A % 2
  unfold D32
  omega
theorem rhalf_dig {A N : Nat} (hA : A ≤ N) (hN : (M.digs D32 N).length ≤ 100000) (v : Value) (w : World) (r : Rd w v (M.digs D32 A)) :
  Calls Tryz.prog 193 #[v] w fun e w' => ∃ v b, e = .returned (.tuple #[v, .bool b]) ∧ Rd w' v (M.digs D32 (A / 2)) ∧ Below w.heap.size w w' := by
 refine (rhalf_any v _ w r (M.Low.digs D32_two A) (Nat.le_trans (digs_mono D32_two hA) hN)).mono ?_
 rintro e w' ⟨v', rfl, h, hb⟩
 rw [M.val_digs D32_two] at h
 exact ⟨v', _, rfl, h, hb⟩
theorem rdbl_dig {A N : Nat} (hA : A ≤ N) (hN : (M.digs D32 N).length ≤ 100000) (v : Value) (w : World) (r : Rd w v (M.digs D32 A)) :
  Calls Tryz.prog 160 #[v, .int .u64 0] w fun e w' => ∃ v, e = .returned v ∧ Rd w' v (M.digs D32 (2 * A)) ∧ Below w.heap.size w w' := by
 refine (rdbl_any v _ 0 w r (M.Low.digs D32_two A) (by omega) (Nat.le_trans (digs_mono D32_two hA) hN)).mono ?_
 rintro e w' ⟨v', rfl, h, hb⟩
 rw [M.val_digs D32_two] at h
 exact ⟨v', rfl, h, hb⟩
theorem len_pos {A : Nat} (h : 0 < A) : 0 < (M.digs D32 A).length := by
 rw [M.digs_pos D32_two h]; simp
theorem Rd.low {w : World} {v : Value} {A : Nat} (h : Rd w v (M.digs D32 A)) (h0 : 0 < A) : ∃ b off n c x : Nat, v = .slice (some ⟨b, off, none⟩) n c ∧ 0 < n ∧ (M.digs D32 A).length = n ∧ w.cell? ⟨b, off, none⟩ = some (.int .u64 (x : Nat)) ∧ x % 2 = A % 2 := by
 obtain ⟨ao, cap, rfl, -, hc⟩ := h
 obtain ⟨b, off, rfl, hcell⟩ := hc 0 (len_pos h0)
 exact ⟨b, off, _, cap, _, rfl, len_pos h0, rfl, hcell, lm0_dig A⟩
theorem two_lt {t N K : Nat} (h : 2 ^ t ≤ N) (hN : N < D32 ^ K) : t < 32 * K := by
 rw [show D32 = 2 ^ 32 from rfl, ← Nat.pow_mul] at hN
 exact (Nat.pow_lt_pow_iff_right (by omega)).1 (Nat.lt_of_le_of_lt h hN)
theorem lt_digs (N : Nat) : N < D32 ^ (M.digs D32 N).length := by
 have := M.val_lt D32_pos (M.Low.digs D32_two N)
 rwa [M.val_digs D32_two] at this
structure GS (X Y N : Nat) (w wr : World) (va vb : Value) (A B t : Nat) : Prop where
 ra : Rd wr va (M.digs D32 A)
 rb : Rd wr vb (M.digs D32 B)
 b0 : 0 < B
 ha : A ≤ N
 hb : B ≤ N
 ht : 2 ^ t * B ≤ N
 gcd : Nat.gcd X Y = 2 ^ t * Nat.gcd A B
 bb : Below w.heap.size w wr
theorem rgcd_any (X Y N : Nat) (va vb : Value) (w : World) (ra : Rd w va (M.digs D32 X)) (rb : Rd w vb (M.digs D32 Y)) (hX : X ≤ N) (hY : Y ≤ N) (hN : (M.digs D32 N).length ≤ 50000) :
  Calls Tryz.prog 159 #[va, vb] w fun e w' => ∃ v, e = .returned v ∧ Rd w' v (M.digs D32 (Nat.gcd X Y)) ∧ Below w.heap.size w w' := by
 by_cases hX0 : X = 0
 ·subst hX0
  rw [Nat.gcd_zero_left]
  have rb' := shut rb
  rw [M.digs_zero] at ra
  obtain ⟨a, ca, rfl, -, -⟩ := ra
  obtain ⟨b, cb, rfl, -, -⟩ := rb
  simp only [List.length_nil]
  go_enter Tryz.func159, Tryz.ntmps159
  go_wp2
  go_ret
  exact ⟨_, rfl, rb'.out, Below.refl _ _⟩
 ·by_cases hY0 : Y = 0
  ·subst hY0
   rw [Nat.gcd_zero_right]
   have ra' := shut ra
   have l0 := len_pos (show 0 < X by omega)
   rw [M.digs_zero] at rb
   obtain ⟨a, ca, rfl, -, -⟩ := ra
   obtain ⟨b, cb, rfl, -, -⟩ := rb
   simp only [List.length_nil]
   generalize hl : (M.digs D32 X).length = n at *
   go_enter Tryz.func159, Tryz.ntmps159
   go_wp2
   go_ret
   exact ⟨_, rfl, ra'.out, Below.refl _ _⟩
  ·obtain ⟨b0, o0, n0, c0, x0, rfl, hn0, -, -, -⟩ := id (ra.low (by omega))
   obtain ⟨b1, o1, n1, c1, x1, rfl, hn1, -, -, -⟩ := id (rb.low (by omega))
   have RA := shut ra
   have RB := shut rb
   have z0 : ((n0 : Int) == 0) = false := by simp; omega
   have z1 : ((n1 : Int) == 0) = false := by simp; omega
   clear ra rb
   go_enter Tryz.func159, Tryz.ntmps159
   go_wp2
   go_loopw [0, 1, 5] (fun va vb vt wr => ∃ A B t : Nat, vt = .int .i64 (t : Nat) ∧ GS X Y N w wr va vb A B t ∧ 0 < A) (fun va _ _ wr => rowM D32 va wr)
   case atStart => exact ⟨X, Y, 0, rfl, ⟨RA.out, RB.out, by omega, hX, hY, by simpa using hY, by simp, Below.refl _ _⟩, by omega⟩
   case round =>
    obtain ⟨A, B, t, rfl, gs, hA0⟩ := hrel
    clear RA RB hn0 hn1 hX hY
    obtain ⟨ba, oa, na, ca, xa, rfl, hna, hla, qa, pa⟩ := id (gs.ra.low hA0)
    obtain ⟨bb, ob, nb, cb, xb, rfl, hnb, hlb, qb, pb⟩ := id (gs.rb.low gs.b0)
    have MA := shut (rowM_eq D32_two gs.ra)
    have G := shut gs
    have hna1 : (0 : Int) < (na : Nat) := by omega
    have hnb1 : (0 : Int) < (nb : Nat) := by omega
    have ht2 : (t : Int) < 1600000 := by
     have := two_lt (t := t) (Nat.le_trans (Nat.le_mul_of_pos_right _ gs.b0) gs.ht) (lt_digs N)
     omega
    by_cases hA1 : A % 2 = 1
    ·have odd : Hid (A % 2 = 1 ∨ B % 2 = 1) := Or.inl hA1
     have ex : (xa : Int) % 2 = 1 := by omega
     go_wp2
     have T0 : Hid (GS X Y N w wr (Value.slice (some ⟨ba, oa, none⟩) na ca) (Value.slice (some ⟨bb, ob, none⟩) nb cb) A B t) := G
     have HT2 := shut ht2
     clear G MA gs qa qb pa pb ex ht2
     try clear ey
     go_loopw [0, 1] (fun va vb wr => ∃ A B : Nat, GS X Y N w wr va vb A B t ∧ (A % 2 = 1 ∨ B % 2 = 1)) (fun va vb wr => rowM D32 va wr + rowM D32 vb wr)
     case atStart => exact ⟨A, B, T0.out, odd.out⟩
     case round =>
      clear T0 odd
      obtain ⟨A2, B2, gs, od⟩ := hrel
      have MA := shut (rowM_eq D32_two gs.ra)
      have MB := shut (rowM_eq D32_two gs.rb)
      have G := shut gs
      have OD := shut od
      clear od
      by_cases hA2 : A2 = 0
      ·obtain ⟨a2, c2, hv, -, -⟩ := id gs.ra
       rw [hA2, M.digs_zero] at hv
       subst hv
       have GC : Hid (Nat.gcd X Y = 2 ^ t * B2) := by
        have := gs.gcd
        rw [hA2, Nat.gcd_zero_left] at this
        exact this
       simp only [List.length_nil] at *
       clear gs
       go_wp2
       go_loopw [1, 7] (fun vb vi wr => ∃ i : Nat, i ≤ t ∧ vi = .int .i64 (i : Nat) ∧ Rd wr vb (M.digs D32 (2 ^ i * B2)) ∧ Below w.heap.size w wr) (fun _ vi _ => t - (intOf vi).toNat)
       case atStart => exact ⟨0, by omega, rfl, by simpa using G.out.rb, G.out.bb⟩
       case round =>
        obtain ⟨i, hi, rfl, ri, bi⟩ := hrel
        have RI := shut ri
        by_cases hit : i < t
        ·have hle : 2 ^ i * B2 ≤ N := Nat.le_trans (Nat.mul_le_mul_right B2 (Nat.pow_le_pow_right (by omega) hi)) G.out.ht
         have DB := shut (rdbl_dig hle (by omega) _ wr ri)
         have iit : (i : Int) < (t : Nat) := by omega
         have ht2 := HT2.out
         clear ri hle
         go_wp2_with fail
         refine (DB.out).mono ?_
         rintro e w4 ⟨v4, rfl, r4, b4⟩
         rw [← Nat.mul_assoc, ← Nat.pow_succ'] at r4
         go_wp2
         exact ⟨⟨i + 1, by omega, by go_num, r4, Below.after bi b4⟩, by simp only [intOf]; omega⟩
        ·have hie : i = t := by omega
         have iit : ¬ (i : Int) < (t : Nat) := by omega
         have ri2 := ri
         rw [hie, ← GC.out] at ri2
         have RI2 := shut ri2
         clear ri RI ri2
         go_wp2
         go_ret
         exact ⟨_, rfl, RI2.out, bi⟩
      ·obtain ⟨b2, o2, n2, c2, x2, hv, hn2, hl2, q2, p2⟩ := id (gs.ra.low (by omega))
       have hv' := shut hv
       rw [hv] at MA
       have hn21 : (0 : Int) < (n2 : Nat) := by omega
       have hn22 : ((n2 : Int) == 0) = false := by simp; omega
       clear gs q2 p2
       rw [hv]
       go_wp2
       go_loopw [0] (fun va wr => ∃ A3 : Nat, GS X Y N w wr va u1 A3 B2 t ∧ 0 < A3 ∧ A3 ≤ A2 ∧ (A3 % 2 = 1 ∨ B2 % 2 = 1)) (fun va wr => rowM D32 va wr)
       case atStart => exact ⟨A2, by rw [← hv'.out]; exact G.out, by omega, Nat.le_refl _, OD.out⟩
       case round =>
        clear hv hv'
        obtain ⟨A3, g3, hA3, lA3, od3⟩ := hrel
        obtain ⟨b3, o3, n3, c3, x3, hv3, hn3, hl3, q3, p3⟩ := id (g3.ra.low hA3)
        have M3 := shut (rowM_eq D32_two g3.ra)
        have G3 := shut g3
        have hn31 : (0 : Int) < (n3 : Nat) := by omega
        subst hv3
        by_cases hA31 : A3 % 2 = 1
        ·have ex : (x3 : Int) % 2 = 1 := by omega
         have exb : ((x3 : Int) % 2 == 0) = false := by rw [ex]; rfl
         clear g3
         go_wp2
         clear ex exb q3 p3
         go_loopw [1] (fun vb wr => ∃ B3 : Nat, GS X Y N w wr (Value.slice (some ⟨b3, o3, none⟩) n3 c3) vb A3 B3 t ∧ B3 ≤ B2) (fun vb wr => rowM D32 vb wr)
         case atStart => exact ⟨B2, G3.out, Nat.le_refl _⟩
         case round =>
          clear G3 M3
          obtain ⟨B3, g4, lB3⟩ := hrel
          obtain ⟨b4, o4, n4, c4, x4, hv4, hn4, hl4, q4, p4⟩ := id (g4.rb.low g4.b0)
          have M4 := shut (rowM_eq D32_two g4.rb)
          have G4 := shut g4
          have hn41 : (0 : Int) < (n4 : Nat) := by omega
          subst hv4
          by_cases hB31 : B3 % 2 = 1
          ·have ex : (x4 : Int) % 2 = 1 := by omega
           have exb : ((x4 : Int) % 2 == 0) = false := by rw [ex]; rfl
           have CM := shut (rcmp_dig (K := (M.digs D32 N).length) hN (Nat.lt_of_le_of_lt g4.ha (lt_digs N)) _ _ wr g4.ra g4.rb)
           clear g4
           go_wp2_with fail
           clear ex exb q4 p4
           refine (CM.out).mono ?_
           rintro e w5 ⟨rfl, b5⟩
           have rA := G4.out.ra.below b5
           have rB := G4.out.rb.below b5
           by_cases hlt : A3 < B3
           ·have hc : cmpN A3 B3 < 0 := by rw [cmpN_lt hlt]; decide
            have SB := shut (rsub_dig (K := (M.digs D32 N).length) hN (Nat.lt_of_le_of_lt G4.out.hb (lt_digs N)) (Nat.le_of_lt hlt) _ _ w5 rB rA)
            generalize cmpN A3 B3 = cc at *
            clear CM
            go_wp2_with fail
            refine (SB.out).mono ?_
            rintro e w6 ⟨v6, rfl, r6, b6⟩
            go_wp2
            refine ⟨⟨B3 - A3, A3, ⟨r6, rA.below b6, hA3, by have := G4.out.hb; omega, G4.out.ha, Nat.le_trans (Nat.mul_le_mul_left _ (Nat.le_of_lt hlt)) G4.out.ht, ?_, Below.after (Below.after G4.out.bb b5) b6⟩, Or.inr hA31⟩, ?_⟩
            ·rw [G4.out.gcd, Nat.gcd_comm (B3 - A3), Nat.gcd_sub_self_right (Nat.le_of_lt hlt)]
            ·rw [MA.out, MB.out, rowM_eq D32_two r6, rowM_eq D32_two (rA.below b6)]
             omega
           ·have hc : ¬ cmpN A3 B3 < 0 := by
             rcases Nat.lt_or_ge B3 A3 with h | h
             ·rw [cmpN_gt h]; decide
             ·rw [cmpN_eq (Nat.le_antisymm h (Nat.le_of_not_lt hlt))]; decide
            have SB := shut (rsub_dig (K := (M.digs D32 N).length) hN (Nat.lt_of_le_of_lt G4.out.ha (lt_digs N)) (Nat.le_of_not_lt hlt) _ _ w5 rA rB)
            generalize cmpN A3 B3 = cc at *
            have hc2 : decide (cc < 0) = false := decide_eq_false hc
            clear CM hN
            go_wp2_with fail
            refine (SB.out).mono ?_
            rintro e w6 ⟨v6, rfl, r6, b6⟩
            go_wp2
            refine ⟨⟨A3 - B3, B3, ⟨r6, rB.below b6, G4.out.b0, by have := G4.out.ha; omega, G4.out.hb, G4.out.ht, ?_, Below.after (Below.after G4.out.bb b5) b6⟩, Or.inr hB31⟩, ?_⟩
            ·rw [G4.out.gcd, Nat.gcd_comm (A3 - B3), Nat.gcd_sub_self_right (Nat.le_of_not_lt hlt), Nat.gcd_comm]
            ·rw [MA.out, MB.out, rowM_eq D32_two r6, rowM_eq D32_two (rB.below b6)]
             have := G4.out.b0
             omega
          ·have ex : (x4 : Int) % 2 = 0 := by omega
           have HB := shut (rhalf_dig g4.hb (by omega) _ wr g4.rb)
           clear g4
           go_wp2_with fail
           clear ex q4 p4
           refine (HB.out).mono ?_
           rintro e w5 ⟨v5, z5, rfl, r5, b5⟩
           go_wp2
           have eB : B3 = 2 ^ 1 * (B3 / 2) := by omega
           have b0' := G4.out.b0
           refine ⟨⟨B3 / 2, ⟨G4.out.ra.below b5, r5, by omega, G4.out.ha, by have := G4.out.hb; omega, Nat.le_trans (Nat.mul_le_mul_left _ (Nat.div_le_self _ _)) G4.out.ht, ?_, Below.after G4.out.bb b5⟩, by omega⟩, ?_⟩
           ·have := G4.out.gcd
            rw [eB, M.gcd_odd_right hA31] at this
            exact this
           ·rw [M4.out, rowM_eq D32_two r5]
            omega
        ·have ex : (x3 : Int) % 2 = 0 := by omega
         have HA := shut (rhalf_dig g3.ha (by omega) _ wr g3.ra)
         clear g3
         go_wp2_with fail
         clear ex q3 p3
         refine (HA.out).mono ?_
         rintro e w4 ⟨v4, z4, rfl, r4, b4⟩
         go_wp2
         have eA : A3 = 2 ^ 1 * (A3 / 2) := by omega
         have hB21 : B2 % 2 = 1 := by omega
         refine ⟨⟨A3 / 2, ⟨r4, G3.out.rb.below b4, G3.out.b0, by have := G3.out.ha; omega, G3.out.hb, G3.out.ht, ?_, Below.after G3.out.bb b4⟩, by omega, by omega, Or.inr hB21⟩, ?_⟩
         ·have := G3.out.gcd
          rw [eA, M.gcd_odd_left hB21] at this
          exact this
         ·rw [M3.out, rowM_eq D32_two r4]
          omega
    ·by_cases hB1 : B % 2 = 1
     ·have odd : Hid (A % 2 = 1 ∨ B % 2 = 1) := Or.inr hB1
      have ex : (xa : Int) % 2 = 0 := by omega
      have ey : (xb : Int) % 2 = 1 := by omega
      go_wp2
      have T0 : Hid (GS X Y N w wr (Value.slice (some ⟨ba, oa, none⟩) na ca) (Value.slice (some ⟨bb, ob, none⟩) nb cb) A B t) := G
      have HT2 := shut ht2
      clear G MA gs qa qb pa pb ex ht2
      try clear ey
      go_loopw [0, 1] (fun va vb wr => ∃ A B : Nat, GS X Y N w wr va vb A B t ∧ (A % 2 = 1 ∨ B % 2 = 1)) (fun va vb wr => rowM D32 va wr + rowM D32 vb wr)
      case atStart => exact ⟨A, B, T0.out, odd.out⟩
      case round =>
       clear T0 odd
       obtain ⟨A2, B2, gs, od⟩ := hrel
       have MA := shut (rowM_eq D32_two gs.ra)
       have MB := shut (rowM_eq D32_two gs.rb)
       have G := shut gs
       have OD := shut od
       clear od
       by_cases hA2 : A2 = 0
       ·obtain ⟨a2, c2, hv, -, -⟩ := id gs.ra
        rw [hA2, M.digs_zero] at hv
        subst hv
        have GC : Hid (Nat.gcd X Y = 2 ^ t * B2) := by
         have := gs.gcd
         rw [hA2, Nat.gcd_zero_left] at this
         exact this
        simp only [List.length_nil] at *
        clear gs
        go_wp2
        go_loopw [1, 7] (fun vb vi wr => ∃ i : Nat, i ≤ t ∧ vi = .int .i64 (i : Nat) ∧ Rd wr vb (M.digs D32 (2 ^ i * B2)) ∧ Below w.heap.size w wr) (fun _ vi _ => t - (intOf vi).toNat)
        case atStart => exact ⟨0, by omega, rfl, by simpa using G.out.rb, G.out.bb⟩
        case round =>
         obtain ⟨i, hi, rfl, ri, bi⟩ := hrel
         have RI := shut ri
         by_cases hit : i < t
         ·have hle : 2 ^ i * B2 ≤ N := Nat.le_trans (Nat.mul_le_mul_right B2 (Nat.pow_le_pow_right (by omega) hi)) G.out.ht
          have DB := shut (rdbl_dig hle (by omega) _ wr ri)
          have iit : (i : Int) < (t : Nat) := by omega
          have ht2 := HT2.out
          clear ri hle
          go_wp2_with fail
          refine (DB.out).mono ?_
          rintro e w4 ⟨v4, rfl, r4, b4⟩
          rw [← Nat.mul_assoc, ← Nat.pow_succ'] at r4
          go_wp2
          exact ⟨⟨i + 1, by omega, by go_num, r4, Below.after bi b4⟩, by simp only [intOf]; omega⟩
         ·have hie : i = t := by omega
          have iit : ¬ (i : Int) < (t : Nat) := by omega
          have ri2 := ri
          rw [hie, ← GC.out] at ri2
          have RI2 := shut ri2
          clear ri RI ri2
          go_wp2
          go_ret
          exact ⟨_, rfl, RI2.out, bi⟩
       ·obtain ⟨b2, o2, n2, c2, x2, hv, hn2, hl2, q2, p2⟩ := id (gs.ra.low (by omega))
        have hv' := shut hv
        rw [hv] at MA
        have hn21 : (0 : Int) < (n2 : Nat) := by omega
        have hn22 : ((n2 : Int) == 0) = false := by simp; omega
        clear gs q2 p2
        rw [hv]
        go_wp2
        go_loopw [0] (fun va wr => ∃ A3 : Nat, GS X Y N w wr va u1 A3 B2 t ∧ 0 < A3 ∧ A3 ≤ A2 ∧ (A3 % 2 = 1 ∨ B2 % 2 = 1)) (fun va wr => rowM D32 va wr)
        case atStart => exact ⟨A2, by rw [← hv'.out]; exact G.out, by omega, Nat.le_refl _, OD.out⟩
        case round =>
         clear hv hv'
         obtain ⟨A3, g3, hA3, lA3, od3⟩ := hrel
         obtain ⟨b3, o3, n3, c3, x3, hv3, hn3, hl3, q3, p3⟩ := id (g3.ra.low hA3)
         have M3 := shut (rowM_eq D32_two g3.ra)
         have G3 := shut g3
         have hn31 : (0 : Int) < (n3 : Nat) := by omega
         subst hv3
         by_cases hA31 : A3 % 2 = 1
         ·have ex : (x3 : Int) % 2 = 1 := by omega
          have exb : ((x3 : Int) % 2 == 0) = false := by rw [ex]; rfl
          clear g3
          go_wp2
          clear ex exb q3 p3
          go_loopw [1] (fun vb wr => ∃ B3 : Nat, GS X Y N w wr (Value.slice (some ⟨b3, o3, none⟩) n3 c3) vb A3 B3 t ∧ B3 ≤ B2) (fun vb wr => rowM D32 vb wr)
          case atStart => exact ⟨B2, G3.out, Nat.le_refl _⟩
          case round =>
           clear G3 M3
           obtain ⟨B3, g4, lB3⟩ := hrel
           obtain ⟨b4, o4, n4, c4, x4, hv4, hn4, hl4, q4, p4⟩ := id (g4.rb.low g4.b0)
           have M4 := shut (rowM_eq D32_two g4.rb)
           have G4 := shut g4
           have hn41 : (0 : Int) < (n4 : Nat) := by omega
           subst hv4
           by_cases hB31 : B3 % 2 = 1
           ·have ex : (x4 : Int) % 2 = 1 := by omega
            have exb : ((x4 : Int) % 2 == 0) = false := by rw [ex]; rfl
            have CM := shut (rcmp_dig (K := (M.digs D32 N).length) hN (Nat.lt_of_le_of_lt g4.ha (lt_digs N)) _ _ wr g4.ra g4.rb)
            clear g4
            go_wp2_with fail
            clear ex exb q4 p4
            refine (CM.out).mono ?_
            rintro e w5 ⟨rfl, b5⟩
            have rA := G4.out.ra.below b5
            have rB := G4.out.rb.below b5
            by_cases hlt : A3 < B3
            ·have hc : cmpN A3 B3 < 0 := by rw [cmpN_lt hlt]; decide
             have SB := shut (rsub_dig (K := (M.digs D32 N).length) hN (Nat.lt_of_le_of_lt G4.out.hb (lt_digs N)) (Nat.le_of_lt hlt) _ _ w5 rB rA)
             generalize cmpN A3 B3 = cc at *
             clear CM
             go_wp2_with fail
             refine (SB.out).mono ?_
             rintro e w6 ⟨v6, rfl, r6, b6⟩
             go_wp2
             refine ⟨⟨B3 - A3, A3, ⟨r6, rA.below b6, hA3, by have := G4.out.hb; omega, G4.out.ha, Nat.le_trans (Nat.mul_le_mul_left _ (Nat.le_of_lt hlt)) G4.out.ht, ?_, Below.after (Below.after G4.out.bb b5) b6⟩, Or.inr hA31⟩, ?_⟩
             ·rw [G4.out.gcd, Nat.gcd_comm (B3 - A3), Nat.gcd_sub_self_right (Nat.le_of_lt hlt)]
             ·rw [MA.out, MB.out, rowM_eq D32_two r6, rowM_eq D32_two (rA.below b6)]
              omega
            ·have hc : ¬ cmpN A3 B3 < 0 := by
              rcases Nat.lt_or_ge B3 A3 with h | h
              ·rw [cmpN_gt h]; decide
              ·rw [cmpN_eq (Nat.le_antisymm h (Nat.le_of_not_lt hlt))]; decide
             have SB := shut (rsub_dig (K := (M.digs D32 N).length) hN (Nat.lt_of_le_of_lt G4.out.ha (lt_digs N)) (Nat.le_of_not_lt hlt) _ _ w5 rA rB)
             generalize cmpN A3 B3 = cc at *
             have hc2 : decide (cc < 0) = false := decide_eq_false hc
             clear CM hN
             go_wp2_with fail
             refine (SB.out).mono ?_
             rintro e w6 ⟨v6, rfl, r6, b6⟩
             go_wp2
             refine ⟨⟨A3 - B3, B3, ⟨r6, rB.below b6, G4.out.b0, by have := G4.out.ha; omega, G4.out.hb, G4.out.ht, ?_, Below.after (Below.after G4.out.bb b5) b6⟩, Or.inr hB31⟩, ?_⟩
             ·rw [G4.out.gcd, Nat.gcd_comm (A3 - B3), Nat.gcd_sub_self_right (Nat.le_of_not_lt hlt), Nat.gcd_comm]
             ·rw [MA.out, MB.out, rowM_eq D32_two r6, rowM_eq D32_two (rB.below b6)]
              have := G4.out.b0
              omega
           ·have ex : (x4 : Int) % 2 = 0 := by omega
            have HB := shut (rhalf_dig g4.hb (by omega) _ wr g4.rb)
            clear g4
            go_wp2_with fail
            clear ex q4 p4
            refine (HB.out).mono ?_
            rintro e w5 ⟨v5, z5, rfl, r5, b5⟩
            go_wp2
            have eB : B3 = 2 ^ 1 * (B3 / 2) := by omega
            have b0' := G4.out.b0
            refine ⟨⟨B3 / 2, ⟨G4.out.ra.below b5, r5, by omega, G4.out.ha, by have := G4.out.hb; omega, Nat.le_trans (Nat.mul_le_mul_left _ (Nat.div_le_self _ _)) G4.out.ht, ?_, Below.after G4.out.bb b5⟩, by omega⟩, ?_⟩
            ·have := G4.out.gcd
             rw [eB, M.gcd_odd_right hA31] at this
             exact this
            ·rw [M4.out, rowM_eq D32_two r5]
             omega
         ·have ex : (x3 : Int) % 2 = 0 := by omega
          have HA := shut (rhalf_dig g3.ha (by omega) _ wr g3.ra)
          clear g3
          go_wp2_with fail
          clear ex q3 p3
          refine (HA.out).mono ?_
          rintro e w4 ⟨v4, z4, rfl, r4, b4⟩
          go_wp2
          have eA : A3 = 2 ^ 1 * (A3 / 2) := by omega
          have hB21 : B2 % 2 = 1 := by omega
          refine ⟨⟨A3 / 2, ⟨r4, G3.out.rb.below b4, G3.out.b0, by have := G3.out.ha; omega, G3.out.hb, G3.out.ht, ?_, Below.after G3.out.bb b4⟩, by omega, by omega, Or.inr hB21⟩, ?_⟩
          ·have := G3.out.gcd
           rw [eA, M.gcd_odd_left hB21] at this
           exact this
          ·rw [M3.out, rowM_eq D32_two r4]
           omega
     ·have ex : (xa : Int) % 2 = 0 := by omega
      have ey : (xb : Int) % 2 = 0 := by omega
      have HA := shut (rhalf_dig gs.ha (by omega) _ wr gs.ra)
      go_wp2_with fail
      refine (HA.out).mono ?_
      rintro e w2 ⟨v2, c2, rfl, r2, b2⟩
      have HB := shut (rhalf_dig G.out.hb (by omega) _ w2 (G.out.rb.below b2))
      obtain ⟨av2, cv2, rfl, -, -⟩ := id r2
      go_wp2_with fail
      refine (HB.out).mono ?_
      rintro e w3 ⟨v3, c3, rfl, r3, b3⟩
      obtain ⟨av3, cv3, rfl, -, -⟩ := id r3
      go_wp2
      have eA : A = 2 * (A / 2) := by omega
      have eB : B = 2 * (B / 2) := by omega
      refine ⟨⟨A / 2, B / 2, t + 1, by go_num, ⟨r2.below b3, r3, by have := G.out.b0; omega, by have := G.out.ha; omega, by have := G.out.hb; omega, ?_, ?_, Below.after (Below.after G.out.bb b2) b3⟩, by omega⟩, ?_⟩
      ·have := G.out.ht
       rw [eB] at this
       rw [Nat.pow_succ, Nat.mul_assoc]
       exact this
      ·have := G.out.gcd
       rw [eA, eB, Nat.gcd_mul_left] at this
       rw [this, Nat.pow_succ, Nat.mul_assoc]
      ·rw [MA.out, rowM_eq D32_two (r2.below b3)]
       omega
open Go.RowKit
theorem rgcdK {s0 s1 : ByteArray} {K : Nat} (hK : K ≤ 50000) (h0 : s0.size ≤ 4 * K) (h1 : s1.size ≤ 4 * K) (v0 v1 : Value) (w : World) (r0 : Rd w v0 (M.digs D32 (natOf s0))) (r1 : Rd w v1 (M.digs D32 (natOf s1))) :
  Calls Tryz.prog 159 #[v0, v1] w fun e w' => ∃ v, e = .returned v ∧ Rd w' v (M.digs D32 (Nat.gcd (natOf s0) (natOf s1))) ∧ Below w.heap.size w w' :=
 rgcd_any _ _ (max (natOf s0) (natOf s1)) v0 v1 w r0 r1 (by omega) (by omega) (Nat.le_trans (M.digs_len_of_lt D32_two (Nat.max_lt.2 ⟨natOf_lt4 K h0, natOf_lt4 K h1⟩)) hK)
theorem make0K {s0 s1 : ByteArray} {K : Nat} (hK : K ≤ 100000) (h0 : s0.size ≤ 4 * K) (h1 : s1.size ≤ 4 * K) (v : Value) (w : World) (h : Rd w v (M.digs D32 (Nat.gcd (natOf s0) (natOf s1)))) :
  Calls Tryz.prog 115 #[.bool false, v] w (Re w (zI ((Nat.gcd (natOf s0) (natOf s1) : Nat) : Int))) := by
 have hl : Nat.gcd (natOf s0) (natOf s1) < D32 ^ K := by
  have a := natOf_lt4 K h0
  have b := natOf_lt4 K h1
  have c : Nat.gcd (natOf s0) (natOf s1) ≤ max (natOf s0) (natOf s1) := by
   rcases Nat.eq_zero_or_pos (natOf s0) with e | e
   ·rw [e, Nat.gcd_zero_left]; omega
   ·have := Nat.le_of_dvd e (Nat.gcd_dvd_left (natOf s0) (natOf s1)); omega
  generalize D32 ^ K = P at *
  omega
 exact make0_val false (V := Nat.gcd (natOf s0) (natOf s1)) (K := K) hK hl v w h
theorem rcommon_any (n0 n1 : Bool) (s0 s1 : ByteArray) (w : World) (z0 : s0.size ≤ 40000) (z1 : s1.size ≤ 40000) :
  Calls Tryz.prog 110 #[.agg #[.bool n0, .string s0], .agg #[.bool n1, .string s1]] w (Re w (zI ((Nat.gcd (natOf s0) (natOf s1) : Nat) : Int))) := by
 have HM := shut (fun v0 v1 w r0 r1 => rgcdK (s0 := s0) (s1 := s1) (K := 10000) (by omega) (by omega) (by omega) v0 v1 w r0 r1)
 have HK := shut (fun v w h => make0K (s0 := s0) (s1 := s1) (K := 10000) (by omega) (by omega) (by omega) v w h)
 generalize hR : zI ((Nat.gcd (natOf s0) (natOf s1) : Nat) : Int) = R at *
 obtain ⟨za, zb, rfl⟩ : ∃ a b, R = .agg #[.bool a, .string b] := ⟨_, _, hR.symm⟩
 clear hR
 go_enter Tryz.func110, Tryz.ntmps110
 go_wp2
 obtain ⟨w0, hw0, k0, k1, k2, bb⟩ := rb3 w (.bool n0) (.string s0) (.bool n1) (.string s1)
 rw [← hw0]
 clear hw0
 obtain ⟨a0, a1⟩ := xk2 k0
 obtain ⟨a2, a3⟩ := xk2 k1
 go_region_held3 (fun w' => xc2 w' w.heap.size (.bool n0) (.string s0) ∧ xc2 w' (w.heap.size + 1) (.bool n1) (.string s1)) (first | exact ⟨xk2 k0, xk2 k1⟩ | exact ⟨xk2 ((k0.other (by omega) _ _).other (by omega) _ _), xk2 ((k1.other (by omega) _ _).other (by omega) _ _)⟩) (first | (go_at_call 115; refine (HK.out _ w3 rv).mono ?_; rintro e w4 ⟨rfl, b4⟩; replace k0 := k0.below b4; replace k1 := k1.below b4; have q2 := k2.below b4; have e0 := cel2_0' q2; have e1 := cel2_1' q2; have f0 := q2.frozen 0; have f1 := q2.frozen 1; replace bb := Below.after bb b4) | (go_at_call 159; refine (HM.out _ _ w2 rx ry).mono ?_; rintro e w3 ⟨v, rfl, rv, b3⟩; obtain ⟨av, cv, rfl, -, -⟩ := id rv; replace k0 := k0.below b3; replace k1 := k1.below b3; replace k2 := k2.below b3; replace bb := Below.after bb b3; have g0 := cel2_0' k0; have g2 := cel2_0' k1) | (go_at_call 113; have _x := rx; refine (dig_any _ _ z1).mono ?_; rintro e w2 ⟨vy, rfl, ry, b2⟩; obtain ⟨ay, cy, rfl, -, -⟩ := id ry; replace rx := rx.below b2; replace k0 := k0.below b2; replace k1 := k1.below b2; replace k2 := k2.below b2; replace bb := Below.after bb b2; have h0 := cel2_0' k0; have h2 := cel2_0' k1) | (go_at_call 113; refine (dig_any _ _ z0).mono ?_; rintro e w1 ⟨vx, rfl, rx, b1⟩; obtain ⟨ax, cx, rfl, -, -⟩ := id rx; replace k0 := k0.below (un b1); replace k1 := k1.below (un b1); replace k2 := k2.below (un b1); replace bb := Below.after bb (un b1); have i0 := cel2_0' k0; have i2 := cel2_0' k1; have i3 := cel2_1' k1))
 all_goals try go_wp2
 all_goals exact post_z (p := 4) (by kernel_rfl) rfl rfl ((q2.set 0 _).set 1 _) ⟨rfl, (bb.setCell (by simp; omega) _).setCell (by simp; omega) _⟩
open Go.RowKit
theorem zdiv_plain (n0 n1 : Bool) (s0 s1 : ByteArray) (w : World) (o0 : OkZ n0 s0) (o1 : OkZ n1 s1) (z0 : s0.size ≤ 16000) (z1 : s1.size ≤ 16000) (hY : 0 < natOf s1) (hp : n0 = false ∨ (M.digs B64 (natOf s0 % natOf s1)).length = 0) :
  Calls Tryz.prog 125 #[.agg #[.bool n0, .string s0], .agg #[.bool n1, .string s1]] w (Re w (.tuple #[zI (sgn (n0 != n1) (natOf s0 / natOf s1)), zI (sgn false (natOf s0 % natOf s1)), .int .i64 0])) := by
 have HM := shut (fun v0 v1 wx r0 r1 => divmod_pos (X := natOf s0) (Y := natOf s1) (K := 2000) hY (by omega) (natOf_lt8 2000 (by omega)) (natOf_lt8 2000 (by omega)) v0 v1 wx r0 r1)
 have HQ := shut (fun v wx hr => tell_dig (n0 != n1) (K := 2000) (V := natOf s0 / natOf s1) (by omega) (Nat.lt_of_le_of_lt (Nat.div_le_self _ _) (natOf_lt8 2000 (by omega))) v wx hr)
 have HR := shut (fun v wx hr => tell_dig false (K := 2000) (V := natOf s0 % natOf s1) (by omega) (Nat.lt_of_le_of_lt (Nat.mod_le _ _) (natOf_lt8 2000 (by omega))) v wx hr)
 have HP := shut hp
 clear hp hY
 generalize hR1 : zI (sgn (n0 != n1) (natOf s0 / natOf s1)) = R1 at *
 generalize hR2 : zI (sgn false (natOf s0 % natOf s1)) = R2 at *
 obtain ⟨za, zb, rfl⟩ : ∃ a b, R1 = .agg #[.bool a, .string b] := ⟨_, _, hR1.symm⟩
 obtain ⟨zc, zd, rfl⟩ : ∃ a b, R2 = .agg #[.bool a, .string b] := ⟨_, _, hR2.symm⟩
 clear hR1 hR2
 go_enter Tryz.func125, Tryz.ntmps125
 go_wp2_with fail
 obtain ⟨w0, hw0, k0, k1, k2, k4, k3, hb0⟩ := boxes5 w (.bool n0) (.string s0) (.bool n1) (.string s1)
 rw [← hw0]
 clear hw0
 refine (read2_ok _ n0 n1 s0 s1 w0 k3 o0 o1 (by omega) (by omega)).mono ?_
 rintro e w1 ⟨g, v0, v1, rfl, kg, r0, r1, hg, hb⟩
 have c0 := kg.cell 0
 have c1 := kg.cell 1
 have c2 := kg.cell 2
 have c3 := kg.cell 3
 simp only [List.getElem?_cons_zero, List.getElem?_cons_succ] at c0 c1 c2 c3
 have m0 := k0.below hb
 have m1 := k1.below hb
 have m2 := k2.below hb
 have m4 := k4.below hb
 have bb := Below.after hb0 hb
 have H31 := shut (HM.out v0 v1 w1.drew (show Rd w1 _ _ from r0.rd) (show Rd w1 _ _ from r1.rd))
 clear HM k0 k1 k2 k3 k4 kg
 obtain ⟨a0, p0, rfl, -, -⟩ := id r0
 obtain ⟨a1, p1, rfl, -, -⟩ := id r1
 go_wp2
 go_region_held3 (fun w' => w'.cell? ⟨g, 1, none⟩ = some (.slice a0 (M.digs B64 (natOf s0)).length p0) ∧ w'.cell? ⟨g, 3, none⟩ = some (.slice a1 (M.digs B64 (natOf s1)).length p1)) (first | exact ⟨c1, c3⟩ | exact ⟨cell_below c1 b31, cell_below c3 b31⟩) (first | (go_at_call 173; refine (H31.out).mono ?_; rintro e w2 ⟨vq, vr, rfl, rq, rr, b31'⟩; have b31 : Below w1.heap.size w1 w2 := ⟨b31'.os, b31'.tape, b31'.output, b31'.size, b31'.block⟩; obtain ⟨aq, cq, rfl, -, -⟩ := id rq; obtain ⟨ar, cr, rfl, -, -⟩ := id rr))
 have q0 := m0.below b31
 have q1 := m1.below b31
 have q2 := m2.below b31
 have q4 := m4.below b31
 have bb2 := Below.after bb b31
 have d0 := cel2_0 q0
 have d1 := cel2_0 q1
 clear m0 m1 m2 m4 c0 c1 c2 c3 r0 r1 H31
 have hQ := HQ.out _ _ rq
 rcases HP.out with rfl | hp
 ·rw [Bool.false_bne] at hQ
  clear HQ HP
  go_wp2_with fail
  refine hQ.mono ?_
  rintro e w4 ⟨rfl, hb4⟩
  go_wp2_with fail
  refine (HR.out _ _ (rr.below hb4)).mono ?_
  rintro e w5 ⟨rfl, hb5⟩
  have bb5 := Below.after hb4 hb5
  have p2 := q2.below bb5
  have p4 := q4.below bb5
  have bbb := Below.after bb2 bb5
  obtain ⟨e0, e1⟩ := xk2 p2
  have f0 := p2.frozen 0
  have f1 := p2.frozen 1
  obtain ⟨e2, e3⟩ := xk2 p4
  have f2 := p4.frozen 0
  have f3 := p4.frozen 1
  go_wp2
  exact post_zz1 (p := 4) (q := 5) (u := 6) (by kernel_rfl) rfl rfl rfl rfl ((((p2.set 0 _).set 1 _).other (by omega) _ _).other (by omega) _ _) ((((p4.other (by omega) _ _).other (by omega) _ _).set 0 _).set 1 _) ⟨rfl, (((bbb.setCell (by simp; omega) _).setCell (by simp; omega) _).setCell (by simp; omega) _).setCell (by simp; omega) _⟩
 ·rw [hp] at rr
  clear HP HQ
  cases n0 <;>
  ·first | rw [Bool.false_bne] at hQ | rw [Bool.true_bne] at hQ
   go_wp2_with fail
   refine hQ.mono ?_
   rintro e w4 ⟨rfl, hb4⟩
   go_wp2_with fail
   refine (HR.out _ _ (rr.below hb4)).mono ?_
   rintro e w5 ⟨rfl, hb5⟩
   have bb5 := Below.after hb4 hb5
   have p2 := q2.below bb5
   have p4 := q4.below bb5
   have bbb := Below.after bb2 bb5
   obtain ⟨e0, e1⟩ := xk2 p2
   have f0 := p2.frozen 0
   have f1 := p2.frozen 1
   obtain ⟨e2, e3⟩ := xk2 p4
   have f2 := p4.frozen 0
   have f3 := p4.frozen 1
   go_wp2
   exact post_zz1 (p := 4) (q := 5) (u := 6) (by kernel_rfl) rfl rfl rfl rfl ((((p2.set 0 _).set 1 _).other (by omega) _ _).other (by omega) _ _) ((((p4.other (by omega) _ _).other (by omega) _ _).set 0 _).set 1 _) ⟨rfl, (((bbb.setCell (by simp; omega) _).setCell (by simp; omega) _).setCell (by simp; omega) _).setCell (by simp; omega) _⟩
open Go.RowKit
theorem add_one {V K : Nat} (hK : K ≤ 4000) (hV : V < B64 ^ K) (v0 v1 : Value) (wx : World) (r0 : Rd wx v0 (M.digs B64 V)) (r1 : Rd wx v1 [1]) :
  Calls Tryz.prog 127 #[v0, v1] wx fun e w' => ∃ v, e = .returned (.tuple #[v, .int .i64 0]) ∧ Rd w' v (M.digs B64 (V + 1)) ∧ Below wx.heap.size wx w' := by
 have := add_any v0 v1 _ _ wx r0 r1 (M.Low.digs B64_two _) (low_of_all (by simp; unfold B64; omega)) (Nat.le_trans (M.digs_len_of_lt B64_two hV) hK) (by simp)
 rwa [M.val_digs B64_two, show M.val B64 [1] = 1 from by rw [M.val_cons, M.val_nil]; omega] at this
theorem sub_dig {X Y K : Nat} (hK : K ≤ 4000) (hx : X < B64 ^ K) (hy : Y < B64 ^ K) (hle : Y ≤ X) (v0 v1 : Value) (wx : World) (r0 : Rd wx v0 (M.digs B64 X)) (r1 : Rd wx v1 (M.digs B64 Y)) :
  Calls Tryz.prog 128 #[v0, v1] wx fun e w' => ∃ v, e = .returned (.tuple #[v, .int .i64 0]) ∧ Rd w' v (M.digs B64 (X - Y)) ∧ Below wx.heap.size wx w' := by
 have := sub_any v0 v1 _ _ wx r0 r1 (M.Low.digs B64_two _) (M.Low.digs B64_two _) (Nat.le_trans (M.digs_len_of_lt B64_two hx) hK) (Nat.le_trans (M.digs_len_of_lt B64_two hy) hK)
 rw [M.val_digs B64_two, M.val_digs B64_two] at this
 refine this.mono ?_
 rintro e w' ⟨h, -, hb⟩
 obtain ⟨v, rfl, hr⟩ := h hle
 exact ⟨v, rfl, hr, hb⟩
theorem zdiv_more (n1 : Bool) (s0 s1 : ByteArray) (w : World) (o0 : OkZ true s0) (o1 : OkZ n1 s1) (z0 : s0.size ≤ 16000) (z1 : s1.size ≤ 16000) (hY : 0 < natOf s1) (hp : 0 < (M.digs B64 (natOf s0 % natOf s1)).length) :
  Calls Tryz.prog 125 #[.agg #[.bool true, .string s0], .agg #[.bool n1, .string s1]] w (Re w (.tuple #[zI (sgn (!n1) (natOf s0 / natOf s1 + 1)), zI (sgn false (natOf s1 - natOf s0 % natOf s1)), .int .i64 0])) := by
 have HM := shut (fun v0 v1 wx r0 r1 => divmod_pos (X := natOf s0) (Y := natOf s1) (K := 2000) hY (by omega) (natOf_lt8 2000 (by omega)) (natOf_lt8 2000 (by omega)) v0 v1 wx r0 r1)
 have HA := shut (fun v0 v1 wx r0 r1 => add_one (V := natOf s0 / natOf s1) (K := 2000) (by omega) (Nat.lt_of_le_of_lt (Nat.div_le_self _ _) (natOf_lt8 2000 (by omega))) v0 v1 wx r0 r1)
 have HS := shut (fun v0 v1 wx r0 r1 => sub_dig (X := natOf s1) (Y := natOf s0 % natOf s1) (K := 2000) (by omega) (natOf_lt8 2000 (by omega)) (Nat.lt_of_le_of_lt (Nat.mod_le _ _) (natOf_lt8 2000 (by omega))) (Nat.le_of_lt (Nat.mod_lt _ hY)) v0 v1 wx r0 r1)
 have HQ := shut (fun v wx hr => tell_dig (!n1) (K := 2000 + 1) (V := natOf s0 / natOf s1 + 1) (by omega) (succ_lt_pow B64_two (Nat.lt_of_le_of_lt (Nat.div_le_self _ _) (natOf_lt8 2000 (by omega)))) v wx hr)
 have HR := shut (fun v wx hr => tell_dig false (K := 2000) (V := natOf s1 - natOf s0 % natOf s1) (by omega) (Nat.lt_of_le_of_lt (Nat.sub_le _ _) (natOf_lt8 2000 (by omega))) v wx hr)
 have HP := shut hp
 clear hp hY
 generalize hR1 : zI (sgn (!n1) (natOf s0 / natOf s1 + 1)) = R1 at *
 generalize hR2 : zI (sgn false (natOf s1 - natOf s0 % natOf s1)) = R2 at *
 obtain ⟨za, zb, rfl⟩ : ∃ a b, R1 = .agg #[.bool a, .string b] := ⟨_, _, hR1.symm⟩
 obtain ⟨zc, zd, rfl⟩ : ∃ a b, R2 = .agg #[.bool a, .string b] := ⟨_, _, hR2.symm⟩
 clear hR1 hR2
 go_enter Tryz.func125, Tryz.ntmps125
 go_wp2_with fail
 obtain ⟨w0, hw0, k0, k1, k2, k4, k3, hb0⟩ := boxes5 w (.bool true) (.string s0) (.bool n1) (.string s1)
 rw [← hw0]
 clear hw0
 refine (read2_ok _ true n1 s0 s1 w0 k3 o0 o1 (by omega) (by omega)).mono ?_
 rintro e w1 ⟨g, v0, v1, rfl, kg, r0, r1, hg, hb⟩
 have c0 := kg.cell 0
 have c1 := kg.cell 1
 have c2 := kg.cell 2
 have c3 := kg.cell 3
 simp only [List.getElem?_cons_zero, List.getElem?_cons_succ] at c0 c1 c2 c3
 have m0 := k0.below hb
 have m1 := k1.below hb
 have m2 := k2.below hb
 have m4 := k4.below hb
 have bb := Below.after hb0 hb
 have H31 := shut (HM.out v0 v1 w1.drew (show Rd w1 _ _ from r0.rd) (show Rd w1 _ _ from r1.rd))
 clear HM k0 k1 k2 k3 k4
 obtain ⟨a0, p0, rfl, -, -⟩ := id r0
 obtain ⟨a1, p1, rfl, -, -⟩ := id r1
 go_wp2
 go_region_held3 (fun w' => w'.cell? ⟨g, 1, none⟩ = some (.slice a0 (M.digs B64 (natOf s0)).length p0) ∧ w'.cell? ⟨g, 3, none⟩ = some (.slice a1 (M.digs B64 (natOf s1)).length p1)) (first | exact ⟨c1, c3⟩ | exact ⟨cell_below c1 b31, cell_below c3 b31⟩) (first | (go_at_call 173; refine (H31.out).mono ?_; rintro e w2 ⟨vq, vr, rfl, rq, rr, b31'⟩; have b31 : Below w1.heap.size w1 w2 := ⟨b31'.os, b31'.tape, b31'.output, b31'.size, b31'.block⟩; obtain ⟨aq, cq, rfl, -, -⟩ := id rq; obtain ⟨ar, cr, rfl, -, -⟩ := id rr))
 have q0 := m0.below b31
 have q1 := m1.below b31
 have q2 := m2.below b31
 have q4 := m4.below b31
 have qg := kg.below b31
 have qr1 := r1.rd.below b31
 have bb2 := Below.after bb b31
 have d0 := cel2_0 q0
 clear m0 m1 m2 m4 c0 c1 c2 c3 r0 r1 H31 kg
 have hp := HP.out
 go_wp2_with fail
 obtain ⟨w3, hw3⟩ : ∃ w3, w3 = w2.alloc (.cells #[.int .u64 1] 170) := ⟨_, rfl⟩
 have hb3 : Below w2.heap.size w2 w3 := by rw [hw3]; exact (Below.refl _ _).alloc (Nat.le_refl _) _
 have ro : Rd w3 (.slice (some ⟨w2.heap.size, 0, none⟩) 1 1) [1] := by rw [hw3]; exact rd1 w2 rfl 1
 rw [← hw3]
 clear hw3
 refine (HA.out _ _ w3 (rq.below hb3) ro).mono ?_
 rintro e w4 ⟨vq', rfl, rq', hb4⟩
 obtain ⟨aq', cq', rfl, -, -⟩ := id rq'
 have bb4 := Below.after hb3 hb4
 have g3 := (qg.below bb4).cell 3
 simp only [List.getElem?_cons_zero, List.getElem?_cons_succ] at g3
 go_wp2_with fail
 refine (HS.out _ _ w4 (qr1.below bb4) (rr.below bb4)).mono ?_
 rintro e w5 ⟨vr', rfl, rr', hb5⟩
 obtain ⟨ar', cr', rfl, -, -⟩ := id rr'
 have bb5 := Below.after bb4 hb5
 have d0 := cel2_0 (q0.below bb5)
 have d1 := cel2_0 (q1.below bb5)
 have hQ := HQ.out _ _ (rq'.below hb5)
 go_wp2_with fail
 refine hQ.mono ?_
 rintro e w6 ⟨rfl, hb6⟩
 go_wp2_with fail
 refine (HR.out _ _ (rr'.below hb6)).mono ?_
 rintro e w7 ⟨rfl, hb7⟩
 have bb7 := Below.after (Below.after bb5 hb6) hb7
 have p2 := q2.below bb7
 have p4 := q4.below bb7
 have bbb := Below.after bb2 bb7
 obtain ⟨e0, e1⟩ := xk2 p2
 have f0 := p2.frozen 0
 have f1 := p2.frozen 1
 obtain ⟨e2, e3⟩ := xk2 p4
 have f2 := p4.frozen 0
 have f3 := p4.frozen 1
 go_wp2
 exact post_zz1 (p := 4) (q := 5) (u := 6) (by kernel_rfl) rfl rfl rfl rfl ((((p2.set 0 _).set 1 _).other (by omega) _ _).other (by omega) _ _) ((((p4.other (by omega) _ _).other (by omega) _ _).set 0 _).set 1 _) ⟨rfl, (((bbb.setCell (by simp; omega) _).setCell (by simp; omega) _).setCell (by simp; omega) _).setCell (by simp; omega) _⟩
theorem zdiv_ok (n0 n1 : Bool) (s0 s1 : ByteArray) (w : World) (o0 : OkZ n0 s0) (o1 : OkZ n1 s1) (z0 : s0.size ≤ 16000) (z1 : s1.size ≤ 16000) (hY : 0 < natOf s1) :
  Calls Tryz.prog 125 #[.agg #[.bool n0, .string s0], .agg #[.bool n1, .string s1]] w (Re w (.tuple #[zI (zOf n0 s0 / zOf n1 s1), zI (zOf n0 s0 % zOf n1 s1), .int .i64 0])) := by
 rw [← sgn_natOf, ← sgn_natOf, (sgn_ediv n0 n1 _ _ hY).1, (sgn_ediv n0 n1 _ _ hY).2]
 by_cases h : n0 = true ∧ natOf s0 % natOf s1 ≠ 0
 ·rw [if_pos h, if_pos h]
  obtain ⟨rfl, h⟩ := h
  rw [Bool.true_bne]
  exact zdiv_more n1 s0 s1 w o0 o1 z0 z1 hY (digs_pos B64_two h)
 ·rw [if_neg h, if_neg h]
  refine zdiv_plain n0 n1 s0 s1 w o0 o1 z0 z1 hY ?_
  cases n0 with
  | false => exact Or.inl rfl
  | true =>
   refine Or.inr (digs_zero ?_)
   exact Classical.not_not.1 fun h0 => h ⟨rfl, h0⟩
end Go.Proofs.YtnplifkgeeicjaaGreatDoor
