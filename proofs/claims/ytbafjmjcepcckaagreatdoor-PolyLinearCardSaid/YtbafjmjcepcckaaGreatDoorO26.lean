/-
  Package whole: the leading limbs of a row.
  Package whole: few of Euclid's steps.
  Package whole: Of.
  Package whole: steps after steps; whether there are none.
  gussetref02: make0, Of.
  Package whole: Div of numbers that may be.
  gussetref02: Check, Both, Negate; what gussetref01 tells of digits, by their values.
  Package gussetref01: half.
  Package whole: Add.
  Package whole: Mul.
  Package whole: Div.
  Package whole: Div where nothing is added.
  Package whole: Div where the rest would be below 0.
-/
import Derived.Test.YtbafjmjcepcckaaGreatDoorO21
import Derived.Test.YtbafjmjcepcckaaGreatDoorO23
import Derived.Test.YtbafjmjcepcckaaGreatDoorO25
set_option maxRecDepth 100000
set_option maxHeartbeats 4000000
namespace Go.Proofs.YtbafjmjcepcckaaGreatDoor
open Go.RowKit
namespace M
theorem lead {b t z P L x0 x1 x2 : Nat} (hb : b = t * z) (ht : 0 < t) (hz0 : 0 < z) (hP : 0 < P) (hL : L < P) : (L + P * x0 + P * b * x1 + P * b * b * x2) * t / (P * b) = x0 / z + x1 * t + b * (x2 * t) := by
 have hz : P * b = t * (P * z) := by rw [hb]; grind
 have e : (L + P * x0 + P * b * x1 + P * b * b * x2) * t = (L + P * x0) * t + P * b * (x1 * t + b * (x2 * t)) := by grind
 have hb0 : 0 < P * b := by rw [hz]; exact Nat.mul_pos ht (Nat.mul_pos hP hz0)
 rw [e, Nat.add_mul_div_left _ _ hb0]
 have e2 : (L + P * x0) * t / (P * b) = x0 / z := by
  rw [hz, Nat.mul_comm _ t, Nat.mul_div_mul_left _ _ ht, ← Nat.div_div_eq_div_mul, Nat.add_mul_div_left _ _ hP, Nat.div_eq_of_lt hL, Nat.zero_add]
 rw [e2]
 omega
end M
theorem or_swap (c x s : Nat) (hs : s ≤ 63) (hx : x < B64) (hc : c < 2 ^ s) : bits .or .u64 ((shLo x s : Nat) : Int) (c : Int) = ((shO c x s : Nat) : Int) := by
 obtain ⟨-, -, -, f4, hc'⟩ := sh_facts hs hx hc
 have hlow : shLo x s < 18446744073709551616 := Nat.mod_lt _ (by omega)
 rw [← f4, bits_or_u64_nat _ _ hc' hlow, bits_or_u64_nat _ _ hlow hc', Nat.or_comm]
theorem post_a2 {fn : Func} {p : Tmp} {R : Ending → World → Prop} {a : Act} {w : World} {g : Nat} {x y : Value} (h : fn.results = #[.cell p 196]) (hp : a.tmps.getD p undef = .pointer (some ⟨g, 0, none⟩)) (hd : a.defers = [])
  (hc : Cel w g [x, y] 196) (hR : R (.returned (.agg #[x, y])) w) : bodyPost Tryz.prog fn R .ret a w := by
 refine ⟨hd, .agg #[x, y], ?_, hR⟩
 exact results_cell_row (P := Tryz.prog) h _ w g 196 #[x, y] (0, 0) _ hp hc Tryz.underlying196 rfl (by kernel_rfl)
def lmZ (xs : List Nat) (i : Int) : Nat := if i < 0 then 0 else lm xs i.toNat
theorem at_any (i : Int) (w : World) (v : Value) (xs : List Nat) (p : Addr) (hp : w.cell? p = some v) (hv : Rd w v xs) :
  Calls Tryz.prog 170 #[.int .i64 i, .pointer (some p)] w fun e w' => e = .returned (.int .u64 (lmZ xs i : Nat)) ∧ w' = w := by
 obtain ⟨a, cap, rfl, hcap, hc⟩ := hv
 by_cases h0 : i < 0
 ·have HL : Hid (lmZ xs i = 0) := by show _ = _; unfold lmZ; rw [if_pos h0]
  clear hc
  go_enter Tryz.func170, Tryz.ntmps170
  go_wp2
  go_ret
  exact ⟨by rw [HL.out]; rfl, rfl⟩
 ·obtain ⟨k, rfl⟩ := Int.eq_ofNat_of_zero_le (show 0 ≤ i by omega)
  by_cases hk : k < xs.length
  ·obtain ⟨b, off, rfl, hcell⟩ := hc k hk
   have HL : Hid (lmZ xs (k : Int) = lm xs k) := by show _ = _; unfold lmZ; rw [if_neg h0]; rfl
   clear hc
   go_enter Tryz.func170, Tryz.ntmps170
   go_wp2
   go_ret
   exact ⟨by rw [HL.out]; rfl, rfl⟩
  ·have HL : Hid (lmZ xs (k : Int) = 0) := by show _ = _; unfold lmZ; rw [if_neg h0]; exact lm_ge (by simpa using hk)
   clear hc
   go_enter Tryz.func170, Tryz.ntmps170
   go_wp2
   go_ret
   exact ⟨by rw [HL.out]; rfl, rfl⟩
theorem leading_walk (a : Option Addr) (cap : Nat) (xs : List Nat) (n : Int) (s x0 x1 x2 : Nat) (w : World) (hv : Rd w (.slice a xs.length cap) xs) (hn0 : 0 ≤ n) (hn1 : n ≤ 1000000) (hs : s ≤ 63)
  (e0 : lmZ xs (n - 3) = x0) (e1 : lmZ xs (n - 2) = x1) (e2 : lmZ xs (n - 1) = x2) (l0 : x0 < B64) (l1 : x1 < B64) (l2 : x2 < B64) :
  Calls Tryz.prog 148 #[.slice a xs.length cap, .int .i64 n, .int .i64 (s : Nat)] w (Re w (.agg #[.int .u64 (shO (shHi x0 s) x1 s : Nat), .int .u64 (shO (shHi x1 s) x2 s : Nat)])) := by
 have hmf : ∀ (fn : Fn) (first cap : Array Value) (w : World), (Instr.makeFunc fn first cap).run Tryz.prog w = .ok (.func fn first cap) w := fun _ _ _ _ => rfl
 obtain ⟨w1, hw1⟩ : ∃ w1, w1 = (w.alloc (.cells #[.slice a xs.length cap] 66)).alloc (.cells #[.int .u64 0, .int .u64 0] 196) := ⟨_, rfl⟩
 have k : Cel w1 w.heap.size [.slice a xs.length cap] 66 := by rw [hw1]; exact (Cel.new w _ _).alloc _
 have k1 : Cel w1 (w.heap.size + 1) [.int .u64 0, .int .u64 0] 196 := by
  rw [hw1]
  have := Cel.new (w.alloc (.cells #[.slice a xs.length cap] 66)) [.int .u64 0, .int .u64 0] 196
  simpa using this
 have bb : Below w.heap.size w w1 := by rw [hw1]; go_grown
 have HA := shut (fun i => at_any i _ _ xs ⟨w.heap.size, 0, none⟩ (k.cell 0) (hv.below bb))
 have el : ∀ x : Nat, IntKind.u64.wrap ((x : Int) * 2 ^ s) = ((shLo x s : Nat) : Int) := fun x => by rw [← cast_mul_pow, wrapMod]; rfl
 have eh : ∀ x : Nat, ((x : Int) / 2 ^ (64 - s)) = ((shHi x s : Nat) : Int) := fun x => by rw [← cast_div_pow]; rfl
 have o1 := or_swap (shHi x0 s) x1 s hs l1 (sh_facts (c := 0) hs l0 (Nat.pow_pos (by omega))).2.1
 have o2 := or_swap (shHi x1 s) x2 s hs l2 (sh_facts (c := 0) hs l1 (Nat.pow_pos (by omega))).2.1
 have E0 := shut e0
 have E1 := shut e1
 have E2 := shut e2
 have hs1 : (s : Int) ≤ 63 := by omega
 clear k hv e0 e1 e2 l0 l1 l2
 go_enter Tryz.func148, Tryz.ntmps148
 go_wp2_with fail
 rw [← hw1]
 clear hw1
 refine (HA.out (n - 3)).mono ?_
 rintro e w2 ⟨rfl, rfl⟩
 rw [E0.out]
 go_wp2_with fail
 refine (HA.out (n - 2)).mono ?_
 rintro e w3 ⟨rfl, rfl⟩
 rw [E1.out]
 go_wp2_with fail
 refine (HA.out (n - 1)).mono ?_
 rintro e w4 ⟨rfl, rfl⟩
 rw [E2.out]
 have c0 := k1.cell 0
 have c1 := k1.cell 1
 have f0 := k1.frozen 0
 have f1 := k1.frozen 1
 simp only [List.getElem?_cons_zero, List.getElem?_cons_succ] at c0 c1
 clear HA E0 E1 E2
 go_wp2
 go_region
 go_wp2
 exact post_a2 (p := 6) (by kernel_rfl) rfl rfl ((k1.set 0 _).set 1 _).drew ⟨rfl, ((bb.setCell (by simp) _).setCell (by simp) _).drew⟩
theorem lmZ_nat (xs : List Nat) (k : Nat) : lmZ xs (k : Int) = lm xs k := by unfold lmZ; rw [if_neg (by omega)]; rfl
theorem leading_any (a : Option Addr) (cap : Nat) (xs : List Nat) (n s : Nat) (w : World) (hv : Rd w (.slice a xs.length cap) xs) (lx : M.Low B64 xs) (hl : xs.length ≤ n) (hn : 2 ≤ n) (hn1 : n ≤ 1000000) (hs : s ≤ 63) (hx : lm xs (n - 1) * 2 ^ s < B64) :
  Calls Tryz.prog 148 #[.slice a xs.length cap, .int .i64 (n : Nat), .int .i64 (s : Nat)] w fun e w' => ∃ p q : Nat, e = .returned (.agg #[.int .u64 (p : Nat), .int .u64 (q : Nat)]) ∧ p < B64 ∧ q < B64 ∧
   p + B64 * q = M.val B64 xs * 2 ^ s / B64 ^ (n - 2) ∧ Below w.heap.size w w' := by
 obtain ⟨x1, e1⟩ : ∃ x, lmZ xs ((n : Int) - 2) = x := ⟨_, rfl⟩
 obtain ⟨x2, e2⟩ : ∃ x, lmZ xs ((n : Int) - 1) = x := ⟨_, rfl⟩
 obtain ⟨x0, e0⟩ : ∃ x, lmZ xs ((n : Int) - 3) = x := ⟨_, rfl⟩
 have E1 : x1 = lm xs (n - 2) := by rw [← e1, show (n : Int) - 2 = ((n - 2 : Nat) : Int) by omega, lmZ_nat]
 have E2 : x2 = lm xs (n - 1) := by rw [← e2, show (n : Int) - 1 = ((n - 1 : Nat) : Int) by omega, lmZ_nat]
 have l1 : x1 < B64 := by rw [E1]; exact lm_lt B64_pos lx _
 have l2 : x2 < B64 := by rw [E2]; exact lm_lt B64_pos lx _
 have l0 : x0 < B64 := by
  rw [← e0]
  unfold lmZ
  split
  ·exact B64_pos
  ·exact lm_lt B64_pos lx _
 have hS : 0 < 2 ^ s := Nat.pow_pos (by omega)
 obtain ⟨-, g2, -, -, -⟩ := sh_facts (c := 0) hs l0 hS
 obtain ⟨f1, f2, f3, -, -⟩ := sh_facts hs l1 g2
 obtain ⟨k1, k2, k3, -, -⟩ := sh_facts hs l2 f2
 have hb : B64 = 2 ^ s * 2 ^ (64 - s) := by rw [← Nat.pow_add, show s + (64 - s) = 64 by omega]; rfl
 have hZ : 0 < 2 ^ (64 - s) := Nat.pow_pos (by omega)
 refine (leading_walk a cap xs n s x0 x1 x2 w hv (by omega) (by omega) hs e0 e1 e2 l0 l1 l2).mono ?_
 rintro e w' ⟨rfl, bb⟩
 refine ⟨_, _, rfl, f1, k1, ?_, bb⟩
 have z2 : shHi x2 s = 0 := by
  unfold shHi
  rw [Nat.div_eq_zero_iff]
  right
  rw [← E2, hb, Nat.mul_comm] at hx
  exact Nat.lt_of_mul_lt_mul_left hx
 rw [z2, Nat.mul_zero, Nat.add_zero] at k3
 have key : M.val B64 xs * 2 ^ s / B64 ^ (n - 2) = shHi x0 s + x1 * 2 ^ s + B64 * (x2 * 2 ^ s) := by
  have v1 := M.val_take_succ B64 xs (n - 2)
  have v2 := M.val_take_succ B64 xs (n - 1)
  rw [show n - 2 + 1 = n - 1 by omega] at v1
  rw [show n - 1 + 1 = n by omega, M.val_take_all _ _ _ hl] at v2
  have vE1 : xs.getD (n - 2) 0 = x1 := E1.symm
  have vE2 : xs.getD (n - 1) 0 = x2 := E2.symm
  rw [vE1] at v1
  rw [vE2, v1] at v2
  by_cases h2 : n = 2
  ·subst h2
   have z0 : x0 = 0 := by rw [← e0]; unfold lmZ; rw [if_pos (by omega)]
   have hh : shHi x0 s = 0 := by rw [z0]; exact Nat.zero_div _
   rw [v2, hh]
   simp only [Nat.sub_self, Nat.pow_zero, Nat.div_one, List.take_zero, M.val_nil, Nat.zero_add, Nat.one_mul, show 2 - 1 = 1 from rfl, Nat.pow_one]
   rw [Nat.add_mul, Nat.mul_assoc]
  ·have E0 : x0 = lm xs (n - 3) := by rw [← e0, show (n : Int) - 3 = ((n - 3 : Nat) : Int) by omega, lmZ_nat]
   have v0 := M.val_take_succ B64 xs (n - 3)
   rw [show n - 3 + 1 = n - 2 by omega, show xs.getD (n - 3) 0 = x0 from E0.symm] at v0
   have lL : M.val B64 (xs.take (n - 3)) < B64 ^ (n - 3) := M.val_lt_pow B64_pos (lx.take _) (by simp; omega)
   rw [v0] at v2
   have p1 : B64 ^ (n - 2) = B64 ^ (n - 3) * B64 := by rw [show n - 2 = n - 3 + 1 by omega, Nat.pow_succ]
   have p2 : B64 ^ (n - 1) = B64 ^ (n - 3) * B64 * B64 := by rw [show n - 1 = n - 3 + 1 + 1 by omega, Nat.pow_succ, Nat.pow_succ]
   rw [v2, p1, p2]
   exact M.lead hb hS hZ (Nat.pow_pos B64_pos) lL
 rw [key]
 have : B64 * (shO (shHi x1 s) x2 s) = B64 * (shHi x1 s + x2 * 2 ^ s) := by rw [k3]
 rw [this, Nat.mul_add]
 omega
def stV (a b c d : Nat) : Value := .agg #[.int .u64 (a : Nat), .int .u64 (b : Nat), .int .u64 (c : Nat), .int .u64 (d : Nat)]
theorem post_s4 {fn : Func} {p : Tmp} {R : Ending → World → Prop} {a : Act} {w : World} {g : Nat} {x y z u : Value} (h : fn.results = #[.cell p 164]) (hp : a.tmps.getD p undef = .pointer (some ⟨g, 0, none⟩)) (hd : a.defers = [])
  (hc : Cel w g [x, y, z, u] 164) (hR : R (.returned (.agg #[x, y, z, u])) w) : bodyPost Tryz.prog fn R .ret a w := by
 refine ⟨hd, .agg #[x, y, z, u], ?_, hR⟩
 exact results_cell_row (P := Tryz.prog) h _ w g 164 #[x, y, z, u] (0, 0) _ hp hc Tryz.underlying164 rfl (by kernel_rfl)
theorem few_any (x y : Nat) (hx : x < B64) (hyx : y ≤ x) (w : World) :
  Calls Tryz.prog 149 #[.int .u64 (x : Nat), .int .u64 (y : Nat)] w fun e w' => ∃ a b c d p r : Nat, e = .returned (stV a b c d) ∧ M.Few x y a b c d p r ∧ b < 1073741824 ∧ d < 1073741824 ∧ Below w.heap.size w w' := by
 unfold stV
 unfold B64 at hx
 go_enter Tryz.func149, Tryz.ntmps149
 go_wp2
 obtain ⟨w0, hw0⟩ : ∃ w0, w0 = (w.alloc (.cells #[.int .u64 0, .int .u64 0, .int .u64 0, .int .u64 0] 164)).alloc (.cells #[.int .u64 1, .int .u64 0, .int .u64 0, .int .u64 1] 164) := ⟨_, rfl⟩
 have k0 : Cel w0 w.heap.size [.int .u64 0, .int .u64 0, .int .u64 0, .int .u64 0] 164 := by rw [hw0]; exact (Cel.new w _ _).alloc _
 have k1 : Cel w0 (w.heap.size + 1) [.int .u64 ((1 : Nat) : Int), .int .u64 ((0 : Nat) : Int), .int .u64 ((0 : Nat) : Int), .int .u64 ((1 : Nat) : Int)] 164 := by
  rw [hw0]
  have := Cel.new (w.alloc (.cells #[.int .u64 0, .int .u64 0, .int .u64 0, .int .u64 0] 164)) [.int .u64 1, .int .u64 0, .int .u64 0, .int .u64 1] 164
  simpa using this
 have b0 : Below w.heap.size w w0 := by rw [hw0]; go_grown
 rw [← hw0]
 clear hw0
 go_loopw [0, 1] (fun vx vy wr => ∃ a b c d p r : Nat, vx = .int .u64 p ∧ vy = .int .u64 r ∧ M.Few x y a b c d p r ∧ a < 1073741824 ∧ b < 1073741824 ∧ c < 1073741824 ∧ d < 1073741824 ∧ p ≤ x ∧ r ≤ p ∧
   Cel wr w.heap.size [.int .u64 0, .int .u64 0, .int .u64 0, .int .u64 0] 164 ∧ Cel wr (w.heap.size + 1) [.int .u64 (a : Nat), .int .u64 (b : Nat), .int .u64 (c : Nat), .int .u64 (d : Nat)] 164 ∧ Below w.heap.size w wr)
  (fun _ vy _ => (intOf vy).toNat)
 case atStart => exact ⟨1, 0, 0, 1, x, y, rfl, rfl, M.Few.zero x y, by omega, by omega, by omega, by omega, by omega, hyx, k0, k1, b0⟩
 case round =>
  clear k0 k1 b0
  obtain ⟨a, b, c, d, p, r, rfl, rfl, few, ha, hb, hc, hd, hp, hr, k0, k1, b0⟩ := hrel
  have e0 := k1.cell 0
  have e1 := k1.cell 1
  have e2 := k1.cell 2
  have e3 := k1.cell 3
  have z0 := k0.cell 0
  have z1 := k0.cell 1
  have z2 := k0.cell 2
  have z3 := k0.cell 3
  have f0 := k0.frozen 0
  have f1 := k0.frozen 1
  have f2 := k0.frozen 2
  have f3 := k0.frozen 3
  simp only [List.getElem?_cons_zero, List.getElem?_cons_succ] at e0 e1 e2 e3 z0 z1 z2 z3
  have FE := shut few
  by_cases h0 : r = 0
  ·go_wp2
   exact post_s4 (p := 4) (by kernel_rfl) rfl rfl ((((k0.set 0 _).set 1 _).set 2 _).set 3 _) ⟨a, b, c, d, p, r, rfl, FE.out, hb, hd, (((b0.setCell (by simp) _).setCell (by simp) _).setCell (by simp) _).setCell (by simp) _⟩
  ·obtain ⟨q, hq⟩ : ∃ q, p / r = q := ⟨_, rfl⟩
   obtain ⟨t, ht⟩ : ∃ t, p % r = t := ⟨_, rfl⟩
   have iq : IntKind.u64.wrap (Int.tdiv (p : Int) (r : Int)) = (q : Nat) := by
    rw [Int.tdiv_eq_ediv_of_nonneg (by omega), ← Int.natCast_ediv, hq]
    exact wrapIn q (by have := Nat.div_le_self p r; omega)
   have it : Int.tmod (p : Int) (r : Int) = (t : Nat) := by
    rw [Int.tmod_eq_emod_of_nonneg (by omega), ← Int.natCast_emod, ht]
   have hdm : p = q * r + t := by rw [← hq, ← ht, Nat.mul_comm]; exact (Nat.div_add_mod p r).symm
   have htr : t < r := by rw [← ht]; exact Nat.mod_lt _ (by omega)
   have HD := shut hdm
   have hr1 : ¬ (r : Int) = 0 := by omega
   have hr2 : ((r : Int) != 0) = true := by simpa using hr1
   clear hq ht hdm few
   have A := shut ha
   have B := shut hb
   have C := shut hc
   have D := shut hd
   have P := shut hp
   have X := shut hx
   have R := shut hr
   have T := shut htr
   have HYX := shut hyx
   clear ha hb hc hd hp hx hr htr hyx h0
   obtain ⟨qc, hqc⟩ : ∃ z, q * c = z := ⟨_, rfl⟩
   obtain ⟨qd, hqd⟩ : ∃ z, q * d = z := ⟨_, rfl⟩
   have iqc : (q : Int) * (c : Int) = (qc : Nat) := by rw [← hqc, Int.natCast_mul]
   have iqd : (q : Int) * (d : Int) = (qd : Nat) := by rw [← hqd, Int.natCast_mul]
   have QC := shut hqc
   have QD := shut hqd
   clear hqc hqd
   have kk : Cel wr (w.heap.size + 1) [.int .u64 (a : Nat), .int .u64 (b : Nat), .int .u64 (c : Nat), .int .u64 (d : Nat)] 164 := k1
   clear k1
   generalize hA : (a : Int) = aI at *
   generalize hB : (b : Int) = bI at *
   generalize hC : (c : Int) = cI at *
   generalize hD : (d : Int) = dI at *
   generalize hP : (p : Int) = pI at *
   generalize hR : (r : Int) = rI at *
   generalize hQ : (q : Int) = qI at *
   generalize hT : (t : Int) = tI at *
   generalize hQC : (qc : Int) = qcI at *
   generalize hQD : (qd : Int) = qdI at *
   have HA := shut hA
   have HB := shut hB
   have HC := shut hC
   have HD' := shut hD
   have HR := shut hR
   have HQ := shut hQ
   have HT := shut hT
   have HQC := shut hQC
   have HQD := shut hQD
   clear hA hB hC hD hP hR hQ hT hQC hQD
   by_cases hq1 : (1073741824 : Int) ≤ qI
   ·go_wp2
    go_region
    go_wp2
    exact post_s4 (p := 4) (by kernel_rfl) rfl rfl ((((k0.drew.set 0 _).set 1 _).set 2 _).set 3 _) ⟨a, b, c, d, p, r, by rw [HA.out, HB.out, HC.out, HD'.out], FE.out, B.out, D.out, (((b0.drew.setCell (by simp) _).setCell (by simp) _).setCell (by simp) _).setCell (by simp) _⟩
   ·have M1 : qcI ≤ 1152921502459363329 := by
     have m : q * c ≤ 1073741823 * 1073741823 := Nat.mul_le_mul (by have := HQ.out; omega) (by have := C.out; omega)
     rw [QC.out] at m
     have := HQC.out
     omega
    have M2 : qdI ≤ 1152921502459363329 := by
     have m : q * d ≤ 1073741823 * 1073741823 := Nat.mul_le_mul (by have := HQ.out; omega) (by have := D.out; omega)
     rw [QD.out] at m
     have := HQD.out
     omega
    have M3 : 0 ≤ qcI := by have := HQC.out; omega
    have M4 : 0 ≤ qdI := by have := HQD.out; omega
    have A1 : aI < 1073741824 := by have := A.out; have := HA.out; omega
    have A2 : 0 ≤ aI := by have := HA.out; omega
    have B1 : bI < 1073741824 := by have := B.out; have := HB.out; omega
    have B2 : 0 ≤ bI := by have := HB.out; omega
    have D1 : dI < 1073741824 := by have := D.out; have := HD'.out; omega
    have D2 : 0 ≤ dI := by have := HD'.out; omega
    have T1 : tI < rI := by have := T.out; have := HT.out; have := HR.out; omega
    have T2 : 0 ≤ tI := by have := HT.out; omega
    have R1 : rI ≤ 18446744073709551615 := by have := R.out; have := P.out; have := X.out; have := HR.out; omega
    have g0 := kk.frozen 0
    have g1 := kk.frozen 1
    have g2 := kk.frozen 2
    have g3 := kk.frozen 3
    by_cases hd' : 1073741824 ≤ bI + qdI
    ·-- a factor too great
     go_wp2
     go_region
     go_wp2
     go_region
     go_wp2
     exact post_s4 (p := 4) (by kernel_rfl) rfl rfl ((((k0.set 0 _).set 1 _).set 2 _).set 3 _).drew.drew ⟨a, b, c, d, p, r, by rw [HA.out, HB.out, HC.out, HD'.out], FE.out, B.out, D.out, ((((b0.setCell (by simp) _).setCell (by simp) _).setCell (by simp) _).setCell (by simp) _).drew.drew⟩
    by_cases ht' : tI < 2 * (bI + qdI)
    ·-- the rest is not sure
     go_wp2
     go_region
     go_wp2
     go_region
     go_wp2
     exact post_s4 (p := 4) (by kernel_rfl) rfl rfl ((((k0.set 0 _).set 1 _).set 2 _).set 3 _).drew.drew ⟨a, b, c, d, p, r, by rw [HA.out, HB.out, HC.out, HD'.out], FE.out, B.out, D.out, ((((b0.setCell (by simp) _).setCell (by simp) _).setCell (by simp) _).setCell (by simp) _).drew.drew⟩
    by_cases hy' : rI - tI < 2 * (dI + (bI + qdI))
    ·-- the quotient is not sure
     go_wp2
     go_region
     go_wp2
     go_region
     go_wp2
     exact post_s4 (p := 4) (by kernel_rfl) rfl rfl ((((k0.set 0 _).set 1 _).set 2 _).set 3 _).drew.drew ⟨a, b, c, d, p, r, by rw [HA.out, HB.out, HC.out, HD'.out], FE.out, B.out, D.out, ((((b0.setCell (by simp) _).setCell (by simp) _).setCell (by simp) _).setCell (by simp) _).drew.drew⟩
    have FS : Hid (M.Few x y c d (a + q * c) (b + q * d) r t) := by
     have e1 := HB.out
     have e2 := HQD.out
     have e3 := HD'.out
     have e4 := HT.out
     have e5 := HR.out
     refine FE.out.step HYX.out HD.out T.out ?_ ?_
     ·rw [QD.out]; omega
     ·rw [QD.out]; omega
    have N1 : Hid (a + q * c < 1073741824) := by
     have e1 := HB.out
     have e2 := HQD.out
     show _ < _
     have le : a + q * c ≤ b + q * d ∨ (a + q * c = 1 ∧ b = 0) := by
      rcases FE.out with ⟨h1, h2, h3, h4, -⟩ | ⟨-, h2, h3, h4, -⟩
      ·right; rw [h1, h3]; exact ⟨by simp, h2⟩
      ·left
       have := Nat.mul_le_mul_left q h3
       omega
     rw [QD.out] at le
     omega
    have N2 : Hid (b + q * d < 1073741824) := by
     have e1 := HB.out
     have e2 := HQD.out
     show _ < _
     rw [QD.out]
     omega
    go_wp2
    go_region
    go_wp2
    go_region
    go_wp2
    have ec : [Value.int .u64 cI, Value.int .u64 dI, Value.int .u64 (aI + qcI), Value.int .u64 (bI + qdI)] = [Value.int .u64 (c : Nat), Value.int .u64 (d : Nat), Value.int .u64 ((a + q * c : Nat) : Int), Value.int .u64 ((b + q * d : Nat) : Int)] := by
     rw [QC.out, QD.out, Int.natCast_add, Int.natCast_add, HA.out, HB.out, HC.out, HD'.out, HQC.out, HQD.out]
    refine ⟨⟨c, d, a + q * c, b + q * d, r, t, by rw [HR.out], by rw [HT.out], FS.out, C.out, D.out, N1.out, N2.out, Nat.le_trans R.out P.out, Nat.le_of_lt T.out,
     ((((k0.other (by omega) _ _).other (by omega) _ _).other (by omega) _ _).other (by omega) _ _).drew.drew, ?_, ((((b0.setCell (by simp) _).setCell (by simp) _).setCell (by simp) _).setCell (by simp) _).drew.drew⟩, by simp only [intOf]; omega⟩
    rw [← ec]
    exact ((((kk.set 0 _).set 1 _).set 2 _).set 3 _).drew.drew
theorem boxRow (w : World) (m : Nat) : ∃ w0, w0 = (w.alloc (.cells #[.bool false, .string { data := #[] }] 24)).alloc (.cells #[.int .u64 (m : Nat)] 118) ∧
  Cel w0 w.heap.size [.bool false, .string { data := #[] }] 24 ∧ Rd w0 (.slice (some ⟨w.heap.size + 1, 0, none⟩) 1 1) [m] ∧ Below w.heap.size w w0 := by
 refine ⟨_, rfl, (Cel.new w _ 24).alloc _, rd1 _ (by simp) m, by go_grown⟩
theorem zof_any (n : Int) (h1 : -9223372036854775808 ≤ n) (h2 : n < 9223372036854775808) (w : World) :
  Calls Tryz.prog 54 #[.int .i64 n] w (Re w (zI n)) := by
 obtain ⟨m, hm⟩ : ∃ m : Nat, m = n.natAbs := ⟨_, rfl⟩
 have hT : ∀ (neg : Bool) (v : Value) (wx : World), neg = decide (n < 0) → Rd wx v [m] → Calls Tryz.prog 87 #[.agg #[.bool neg, v]] wx (Re wx (zI n)) := fun neg v wx hn hr => by
  have := tell_any neg v [m] wx hr (low_of_all (by simp; unfold B64; omega)) (by simp)
  have e : sgn neg (M.val B64 [m]) = n := by
   rw [hn, M.val_cons, M.val_nil]
   unfold sgn
   by_cases h : n < 0
   ·simp [h]; omega
   ·simp [h]; omega
  rwa [e] at this
 have HT := shut hT
 clear hT
 generalize hR : zI n = R at *
 obtain ⟨za, zb, rfl⟩ : ∃ a b, R = .agg #[.bool a, .string b] := ⟨_, _, hR.symm⟩
 clear hR
 by_cases hn : n < 0
 ·have g1 : IntKind.u64.wrap n = n + 18446744073709551616 := by simp only [IntKind.wrap_u64]; omega
  have g2 : IntKind.u64.wrap (-(n + 18446744073709551616)) = (m : Int) := by simp only [IntKind.wrap_u64]; omega
  go_enter Tryz.func54, Tryz.ntmps54
  go_wp2_with fail
  rw [← hm]
  obtain ⟨w0, hw0, k0, r0, hb0⟩ := boxRow w m
  rw [← hw0]
  clear hw0
  refine (HT.out true _ w0 (by simp [hn]) r0).mono ?_
  rintro e w1 ⟨rfl, hb⟩
  have m2 := k0.below hb
  have bb := Below.after hb0 hb
  obtain ⟨e0, e1⟩ := xk2 m2
  have f0 := m2.frozen 0
  have f1 := m2.frozen 1
  go_wp2
  exact post_z (p := 2) (by kernel_rfl) rfl rfl ((m2.set 0 _).set 1 _) ⟨rfl, (bb.setCell (by simp) _).setCell (by simp) _⟩
 ·have g0 : n = (m : Int) := by omega
  clear hm
  subst g0
  have g1 : IntKind.u64.wrap (m : Int) = (m : Int) := by simp only [IntKind.wrap_u64]; omega
  go_enter Tryz.func54, Tryz.ntmps54
  go_wp2_with fail
  obtain ⟨w0, hw0, k0, r0, hb0⟩ := boxRow w m
  rw [← hw0]
  clear hw0
  refine (HT.out false _ w0 (by simp) r0).mono ?_
  rintro e w1 ⟨rfl, hb⟩
  have m2 := k0.below hb
  have bb := Below.after hb0 hb
  obtain ⟨e0, e1⟩ := xk2 m2
  have f0 := m2.frozen 0
  have f1 := m2.frozen 1
  go_wp2
  exact post_z (p := 2) (by kernel_rfl) rfl rfl ((m2.set 0 _).set 1 _) ⟨rfl, (bb.setCell (by simp) _).setCell (by simp) _⟩
theorem none_any (a b c d : Nat) (w : World) :
  Calls Tryz.prog 120 #[stV a b c d] w (Re w (.bool (decide (b = 0)))) := by
 unfold stV
 have HB : Hid ((((b : Nat) : Int) == 0) = decide (b = 0)) := by show _ = _; rw [Bool.eq_iff_iff]; simp
 go_enter Tryz.func120, Tryz.ntmps120
 go_wp2
 go_ret
 exact ⟨by show Ending.returned (.bool ((b : Int) == 0)) = _; rw [HB.out], by go_grown⟩
theorem prod30 {a b : Nat} (ha : a < 1073741824) (hb : b < 1073741824) : a * b ≤ 1152921502459363329 := Nat.le_trans (Nat.mul_le_mul (show a ≤ 1073741823 by omega) (show b ≤ 1073741823 by omega)) (by decide)
theorem after_any (a b c d a' b' c' d' : Nat) (w : World) (ha : a < 1073741824) (hb : b < 1073741824) (hc : c < 1073741824) (hd : d < 1073741824) (ha' : a' < 1073741824) (hb' : b' < 1073741824) (hc' : c' < 1073741824) (hd' : d' < 1073741824) :
  Calls Tryz.prog 150 #[stV a b c d, stV a' b' c' d'] w (Re w (stV (a * a' + b * c') (a * b' + b * d') (c * a' + d * c') (c * b' + d * d'))) := by
 unfold stV
 have p1 := prod30 ha ha'
 have p2 := prod30 hb hc'
 have p3 := prod30 ha hb'
 have p4 := prod30 hb hd'
 have p5 := prod30 hc ha'
 have p6 := prod30 hd hc'
 have p7 := prod30 hc hb'
 have p8 := prod30 hd hd'
 simp only [Int.natCast_add, Int.natCast_mul]
 have q : ∀ x y : Nat, x * y ≤ 1152921502459363329 → (x : Int) * (y : Int) ≤ 1152921502459363329 ∧ 0 ≤ (x : Int) * (y : Int) := fun x y h => by rw [← Int.natCast_mul]; omega
 replace p1 := q _ _ p1
 replace p2 := q _ _ p2
 replace p3 := q _ _ p3
 replace p4 := q _ _ p4
 replace p5 := q _ _ p5
 replace p6 := q _ _ p6
 replace p7 := q _ _ p7
 replace p8 := q _ _ p8
 clear q ha hb hc hd ha' hb' hc' hd'
 generalize (a : Int) = A at *
 generalize (b : Int) = B at *
 generalize (c : Int) = C at *
 generalize (d : Int) = D at *
 generalize (a' : Int) = A' at *
 generalize (b' : Int) = B' at *
 generalize (c' : Int) = C' at *
 generalize (d' : Int) = D' at *
 generalize h1 : A * A' = m1 at *
 generalize h2 : B * C' = m2 at *
 generalize h3 : A * B' = m3 at *
 generalize h4 : B * D' = m4 at *
 generalize h5 : C * A' = m5 at *
 generalize h6 : D * C' = m6 at *
 generalize h7 : C * B' = m7 at *
 generalize h8 : D * D' = m8 at *
 obtain ⟨p1, r1⟩ := p1
 obtain ⟨p2, r2⟩ := p2
 obtain ⟨p3, r3⟩ := p3
 obtain ⟨p4, r4⟩ := p4
 obtain ⟨p5, r5⟩ := p5
 obtain ⟨p6, r6⟩ := p6
 obtain ⟨p7, r7⟩ := p7
 obtain ⟨p8, r8⟩ := p8
 go_enter Tryz.func150, Tryz.ntmps150
 go_wp2
 refine post_s4 (p := 4) (g := w.heap.size + 1 + 1) (by kernel_rfl) rfl rfl (x := .int .u64 (m1 + m2)) (y := .int .u64 (m3 + m4)) (z := .int .u64 (m5 + m6)) (u := .int .u64 (m7 + m8)) ?_ ⟨rfl, by go_grown⟩
 have := Cel.new ((w.alloc (.cells #[.int .u64 A, .int .u64 B, .int .u64 C, .int .u64 D] 164)).alloc (.cells #[.int .u64 A', .int .u64 B', .int .u64 C', .int .u64 D'] 164)) [.int .u64 (m1 + m2), .int .u64 (m3 + m4), .int .u64 (m5 + m6), .int .u64 (m7 + m8)] 164
 simpa using this
theorem make0_any (neg : Bool) (va : Value) (xs : List Nat) (w : World) (ha : Rd w va xs) (la : M.Low D32 xs) (hx : xs.length ≤ 100000) :
  Calls Tryz.prog 75 #[.bool neg, va] w (Re w (zI (sgn neg (M.val D32 xs)))) := by
 rw [zI_sgn]
 have H := shut (fun w0 h0 => rnat_any va xs w0 h0 la hx)
 have HE := shut (strOf_empty (M.val D32 xs))
 generalize strOf (M.val D32 xs) = s at *
 have ha0 := ha
 obtain ⟨a, ca, rfl, -, -⟩ := ha
 go_enter Tryz.func75, Tryz.ntmps75
 go_wp2_with fail
 obtain ⟨w0, hw0⟩ : ∃ w0, w0 = w.alloc (.cells #[.bool false, .string { data := #[] }] 24) := ⟨_, rfl⟩
 have k2 : Cel w0 w.heap.size [.bool false, .string { data := #[] }] 24 := by rw [hw0]; exact Cel.new w _ _
 have hb0 : Below w.heap.size w w0 := by rw [hw0]; exact (Below.refl _ _).alloc (Nat.le_refl _) _
 rw [← hw0]
 clear hw0
 refine (H.out w0 (ha0.below hb0)).mono ?_
 rintro e w1 ⟨rfl, hb⟩
 have k2' := k2.below hb
 have bb := Below.after hb0 hb
 obtain ⟨c1, c2⟩ := xk2 k2'
 have f1 := k2'.frozen 0
 have f2 := k2'.frozen 1
 clear H HE
 cases neg
 ·go_wp2
  exact post_z (p := 4) (by kernel_rfl) rfl rfl ((k2'.set 0 _).set 1 _) ⟨rfl, (bb.setCell (by simp) _).setCell (by simp) _⟩
 ·go_wp2
  exact post_z (p := 4) (by kernel_rfl) rfl rfl ((k2'.set 0 _).set 1 _) ⟨rfl, (bb.setCell (by simp) _).setCell (by simp) _⟩
theorem split_one {m : Nat} (hm : m < B64) (v : Value) (w : World) (h : Rd w v [m]) :
  Calls Tryz.prog 76 #[v] w fun e w' => ∃ v, e = .returned v ∧ Rd w' v (M.digs D32 m) ∧ Below w.heap.size w w' := by
 have := split_any v [m] w h (low_of_all (by simpa using hm)) (by simp)
 rwa [show M.val B64 [m] = m from by simp [M.val_cons, M.val_nil]] at this
theorem make0_dig (neg : Bool) (m : Nat) (hm : m < B64) (v : Value) (w : World) (h : Rd w v (M.digs D32 m)) :
  Calls Tryz.prog 75 #[.bool neg, v] w (Re w (zI (sgn neg m))) := by
 have hl : (M.digs D32 m).length ≤ 2 := M.digs_len_of_lt D32_two (by rw [show D32 ^ 2 = B64 from by rw [Nat.pow_two, D32_sq]]; exact hm)
 have := make0_any neg v _ w h (M.Low.digs D32_two _) (by omega)
 rwa [M.val_digs D32_two] at this
theorem rof_any (n : Int) (h1 : -9223372036854775808 ≤ n) (h2 : n < 9223372036854775808) (w : World) :
  Calls Tryz.prog 48 #[.int .i64 n] w (Re w (zI n)) := by
 obtain ⟨m, hm⟩ : ∃ m : Nat, m = n.natAbs := ⟨_, rfl⟩
 have hmB : m < B64 := by unfold B64; omega
 have HS := shut (fun v w h => split_one hmB v w h)
 by_cases hn : n < 0
 ·have HM := shut (fun v w h => make0_dig true m hmB v w h)
  rw [show sgn true m = n from by simp [sgn]; omega] at HM
  generalize hR : zI n = R at *
  obtain ⟨za, zb, rfl⟩ : ∃ a b, R = .agg #[.bool a, .string b] := ⟨_, _, hR.symm⟩
  clear hR hmB
  have g1 : IntKind.i64.wrap (n + 1) = n + 1 := by simp only [IntKind.wrap_i64]; omega
  have g2 : IntKind.i64.wrap (-(n + 1)) = -(n + 1) := by simp only [IntKind.wrap_i64]; omega
  have g3 : IntKind.u64.wrap (-(n + 1)) = -(n + 1) := by simp only [IntKind.wrap_u64]; omega
  have g4 : IntKind.u64.wrap (-(n + 1) + 1) = (m : Int) := by simp only [IntKind.wrap_u64]; omega
  clear hm
  go_enter Tryz.func48, Tryz.ntmps48
  go_wp2_with fail
  obtain ⟨w0, hw0, k0, r0, hb0⟩ := boxRow w m
  rw [← hw0]
  clear hw0
  refine (HS.out _ w0 r0).mono ?_
  rintro e w1 ⟨v, rfl, rv, hb1⟩
  obtain ⟨av, cv, rfl, -, -⟩ := id rv
  go_wp2_with fail
  refine (HM.out _ w1 rv).mono ?_
  rintro e w2 ⟨rfl, hb2⟩
  have bb2 := Below.after hb1 hb2
  have m2 := k0.below bb2
  have bb := Below.after hb0 bb2
  obtain ⟨e0, e1⟩ := xk2 m2
  have f0 := m2.frozen 0
  have f1 := m2.frozen 1
  go_wp2
  exact post_z (p := 2) (by kernel_rfl) rfl rfl ((m2.set 0 _).set 1 _) ⟨rfl, (bb.setCell (by simp) _).setCell (by simp) _⟩
 ·have g0 : n = (m : Int) := by omega
  have HM := shut (fun v w h => make0_dig false m hmB v w h)
  rw [show sgn false m = n from by simp [sgn]; omega] at HM
  generalize hR : zI n = R at *
  obtain ⟨za, zb, rfl⟩ : ∃ a b, R = .agg #[.bool a, .string b] := ⟨_, _, hR.symm⟩
  clear hR hmB hm
  subst g0
  have g1 : IntKind.u64.wrap (m : Int) = (m : Int) := by simp only [IntKind.wrap_u64]; omega
  go_enter Tryz.func48, Tryz.ntmps48
  go_wp2_with fail
  obtain ⟨w0, hw0, k0, r0, hb0⟩ := boxRow w m
  rw [← hw0]
  clear hw0
  refine (HS.out _ w0 r0).mono ?_
  rintro e w1 ⟨v, rfl, rv, hb1⟩
  obtain ⟨av, cv, rfl, -, -⟩ := id rv
  go_wp2_with fail
  refine (HM.out _ w1 rv).mono ?_
  rintro e w2 ⟨rfl, hb2⟩
  have bb2 := Below.after hb1 hb2
  have m2 := k0.below bb2
  have bb := Below.after hb0 bb2
  obtain ⟨e0, e1⟩ := xk2 m2
  have f0 := m2.frozen 0
  have f1 := m2.frozen 1
  go_wp2
  exact post_z (p := 2) (by kernel_rfl) rfl rfl ((m2.set 0 _).set 1 _) ⟨rfl, (bb.setCell (by simp) _).setCell (by simp) _⟩
theorem succ_lt_pow {b k x : Nat} (hb : 2 ≤ b) (h : x < b ^ k) : x + 1 < b ^ (k + 1) := by
 rw [Nat.pow_succ]
 have h1 : b ^ k * 2 ≤ b ^ k * b := Nat.mul_le_mul_left _ hb
 generalize b ^ k = p at *
 omega
theorem digs_pos {b n : Nat} (hb : 2 ≤ b) (h : n ≠ 0) : 0 < (M.digs b n).length := by
 refine Nat.pos_of_ne_zero fun h0 => ?_
 have := M.val_digs hb n
 rw [List.length_eq_zero_iff.1 h0, M.val_nil] at this
 omega
theorem digs_zero {b n : Nat} (h : n = 0) : (M.digs b n).length = 0 := by subst h; rfl
theorem divmod_pos {X Y K : Nat} (hY : 0 < Y) (hK : K ≤ 4000) (hx : X < B64 ^ K) (hy : Y < B64 ^ K) (v0 v1 : Value) (wx : World) (r0 : Rd wx v0 (M.digs B64 X)) (r1 : Rd wx v1 (M.digs B64 Y)) :
  Calls Tryz.prog 90 #[v0, v1] wx fun e w' => ∃ q r, e = .returned (.tuple #[q, r, .int .i64 0]) ∧ Rd w' q (M.digs B64 (X / Y)) ∧ Rd w' r (M.digs B64 (X % Y)) ∧ Below wx.heap.size wx w' := by
 have := divmod_any v0 v1 _ _ wx r0 r1 (M.Low.digs B64_two _) (M.Low.digs B64_two _) (Nat.le_trans (M.digs_len_of_lt B64_two hx) hK) (Nat.le_trans (M.digs_len_of_lt B64_two hy) hK)
 rw [M.val_digs B64_two, M.val_digs B64_two] at this
 refine this.mono ?_
 rintro e w' ⟨-, h, hb⟩
 obtain ⟨q, r, rfl, hq, hr⟩ := h hY
 exact ⟨q, r, rfl, hq, hr, hb⟩
theorem tell_dig (neg : Bool) {V K : Nat} (hK : K ≤ 4000) (hV : V < B64 ^ K) (v : Value) (wx : World) (hr : Rd wx v (M.digs B64 V)) :
  Calls Tryz.prog 87 #[.agg #[.bool neg, v]] wx (Re wx (zI (sgn neg V))) := by
 have := tell_any neg v _ wx hr (M.Low.digs B64_two _) (Nat.le_trans (M.digs_len_of_lt B64_two hV) hK)
 rwa [M.val_digs B64_two] at this
theorem rcheck_any (n : Bool) (s : ByteArray) (w : World) :
  Calls Tryz.prog 100 #[.agg #[.bool n, .string s]] w (Re w (.int .i64 (chk n s : Nat))) := by
 by_cases h1 : 32000 < s.size
 ·have HC : Hid (chk n s = 5) := by show _ = _; unfold chk; rw [if_pos h1]
  go_enter Tryz.func100, Tryz.ntmps100
  go_wp2
  go_ret
  exact ⟨by rw [HC.out]; rfl, by go_grown⟩
 ·by_cases hs : 0 < s.size
  ·have g4 := toList_ne hs
   have g5 : s.toList.isEmpty = false := by simpa using g4
   by_cases h0 : lm (byts s) 0 = 0
   ·have HC : Hid (chk n s = 1) := by show _ = _; unfold chk; rw [if_neg h1, if_pos (Or.inr ⟨hs, h0⟩)]
    have HI := shut (fun w => isNat_no s w hs h0)
    clear h0
    go_enter Tryz.func100, Tryz.ntmps100
    go_wp2_with fail
    refine (HI.out _).mono ?_
    rintro e w1 ⟨rfl, hw⟩
    subst hw
    go_wp2
    go_ret
    exact ⟨by rw [HC.out]; rfl, by go_grown⟩
   ·have HC : Hid (chk n s = 0) := by
     show _ = _
     unfold chk
     rw [if_neg h1, if_neg (by rintro (⟨a, _⟩ | ⟨_, b⟩); · omega
                               ·exact h0 b)]
    have HI := shut (fun w => isNat_yes s w (fun _ => h0))
    clear h0
    cases n <;>
    ·go_enter Tryz.func100, Tryz.ntmps100
     go_wp2_with fail
     refine (HI.out _).mono ?_
     rintro e w1 ⟨rfl, hw⟩
     subst hw
     go_wp2
     go_ret
     exact ⟨by rw [HC.out]; rfl, by go_grown⟩
  ·have g3 : s = ByteArray.empty := ByteArray.size_eq_zero_iff.1 (by omega)
   subst g3
   have HI := shut (fun w => isNat_yes ByteArray.empty w (fun h => absurd h hs))
   cases n with
   | true =>
    have HC : Hid (chk true ByteArray.empty = 1) := by show _ = _; rfl
    go_enter Tryz.func100, Tryz.ntmps100
    go_wp2_with fail
    refine (HI.out _).mono ?_
    rintro e w1 ⟨rfl, hw⟩
    subst hw
    go_wp2
    go_ret
    exact ⟨by rw [HC.out]; rfl, by go_grown⟩
   | false =>
    have HC : Hid (chk false ByteArray.empty = 0) := by show _ = _; rfl
    go_enter Tryz.func100, Tryz.ntmps100
    go_wp2_with fail
    refine (HI.out _).mono ?_
    rintro e w1 ⟨rfl, hw⟩
    subst hw
    go_wp2
    go_ret
    exact ⟨by rw [HC.out]; rfl, by go_grown⟩
theorem rb2 (w : World) (x0 x1 y0 y1 : Value) : ∃ w0, w0 = (w.alloc (.cells #[x0, x1] 24)).alloc (.cells #[y0, y1] 24) ∧
  Cel w0 w.heap.size [x0, x1] 24 ∧ Cel w0 (w.heap.size + 1) [y0, y1] 24 ∧ Below w.heap.size w w0 := by
 refine ⟨_, rfl, (Cel.new w [x0, x1] _).alloc _, ?_, by go_grown⟩
 have := Cel.new (w.alloc (.cells #[x0, x1] 24)) [y0, y1] 24
 simpa using this
theorem rb3 (w : World) (x0 x1 y0 y1 : Value) : ∃ w0, w0 = ((w.alloc (.cells #[x0, x1] 24)).alloc (.cells #[y0, y1] 24)).alloc (.cells #[.bool false, .string { data := #[] }] 24) ∧
  Cel w0 w.heap.size [x0, x1] 24 ∧ Cel w0 (w.heap.size + 1) [y0, y1] 24 ∧ Cel w0 (w.heap.size + 1 + 1) [.bool false, .string { data := #[] }] 24 ∧ Below w.heap.size w w0 := by
 refine ⟨_, rfl, ((Cel.new w [x0, x1] _).alloc _).alloc _, ?_, ?_, by go_grown⟩
 ·have := (Cel.new (w.alloc (.cells #[x0, x1] 24)) [y0, y1] 24).alloc (.cells #[.bool false, .string { data := #[] }] 24)
  simpa using this
 ·have := Cel.new ((w.alloc (.cells #[x0, x1] 24)).alloc (.cells #[y0, y1] 24)) [.bool false, .string { data := #[] }] 24
  simpa using this
theorem D32_pow (k : Nat) : D32 ^ k = 256 ^ (4 * k) := by rw [Nat.pow_mul]; rfl
theorem natOf_lt4 {s : ByteArray} (k : Nat) (h : s.size ≤ 4 * k) : natOf s < D32 ^ k := Nat.lt_of_lt_of_le (natOf_lt s) (by rw [D32_pow]; exact Nat.pow_le_pow_right (by omega) h)
theorem dlen {V K : Nat} (h : V < D32 ^ K) : (M.digs D32 V).length ≤ K := M.digs_len_of_lt D32_two h
theorem radd_dig {X Y K : Nat} (hK : K ≤ 50000) (hx : X < D32 ^ K) (hy : Y < D32 ^ K) (v0 v1 : Value) (w : World) (r0 : Rd w v0 (M.digs D32 X)) (r1 : Rd w v1 (M.digs D32 Y)) :
  Calls Tryz.prog 78 #[v0, v1] w fun e w' => ∃ v, e = .returned v ∧ Rd w' v (M.digs D32 (X + Y)) ∧ Below w.heap.size w w' := by
 have := radd_any v0 v1 _ _ w r0 r1 (M.Low.digs D32_two _) (M.Low.digs D32_two _) (Nat.le_trans (dlen hx) (by omega)) (Nat.le_trans (dlen hy) (by omega))
 rwa [M.val_digs D32_two, M.val_digs D32_two] at this
theorem digs_mono {b X Y : Nat} (hb : 2 ≤ b) (h : Y ≤ X) : (M.digs b Y).length ≤ (M.digs b X).length := by
 refine M.digs_len_of_lt hb (Nat.lt_of_le_of_lt h ?_)
 have := M.val_lt (by omega) (M.Low.digs hb X)
 rwa [M.val_digs hb] at this
theorem rsub_dig {X Y K : Nat} (hK : K ≤ 50000) (hx : X < D32 ^ K) (hle : Y ≤ X) (v0 v1 : Value) (w : World) (r0 : Rd w v0 (M.digs D32 X)) (r1 : Rd w v1 (M.digs D32 Y)) :
  Calls Tryz.prog 80 #[v0, v1] w fun e w' => ∃ v, e = .returned v ∧ Rd w' v (M.digs D32 (X - Y)) ∧ Below w.heap.size w w' := by
 have := rsub_any v0 v1 _ _ w r0 r1 (M.Low.digs D32_two _) (M.Low.digs D32_two _) (Nat.le_trans (dlen hx) (by omega)) (digs_mono D32_two hle) (by rw [M.val_digs D32_two, M.val_digs D32_two]; exact hle)
 rwa [M.val_digs D32_two, M.val_digs D32_two] at this
theorem rcmp_dig {X Y K : Nat} (hK : K ≤ 50000) (hx : X < D32 ^ K) (v0 v1 : Value) (w : World) (r0 : Rd w v0 (M.digs D32 X)) (r1 : Rd w v1 (M.digs D32 Y)) :
  Calls Tryz.prog 79 #[v0, v1] w (Re w (.int .i64 (cmpN X Y))) := by
 have := rcmp_any D32 D32_pos v0 v1 _ _ w r0 r1 (M.Low.digs D32_two _) (M.Low.digs D32_two _) (M.trim_digs D32_two _) (M.trim_digs D32_two _) (Nat.le_trans (dlen hx) (by omega))
 rwa [M.val_digs D32_two, M.val_digs D32_two] at this
theorem rmul_dig {X Y K : Nat} (hK : K ≤ 50000) (hx : X < D32 ^ K) (hy : Y < D32 ^ K) (v0 v1 : Value) (w : World) (r0 : Rd w v0 (M.digs D32 X)) (r1 : Rd w v1 (M.digs D32 Y)) :
  Calls Tryz.prog 81 #[v0, v1] w fun e w' => ∃ v, e = .returned v ∧ Rd w' v (M.digs D32 (X * Y)) ∧ Below w.heap.size w w' := by
 have := rmul_any v0 v1 _ _ w r0 r1 (M.Low.digs D32_two _) (M.Low.digs D32_two _) (Nat.le_trans (dlen hx) (by omega)) (Nat.le_trans (dlen hy) (by omega))
 rwa [M.val_digs D32_two, M.val_digs D32_two] at this
theorem rdiv_dig {X Y K : Nat} (hK : K ≤ 50000) (hx : X < D32 ^ K) (hy : Y < D32 ^ K) (h0 : 0 < Y) (v0 v1 : Value) (w : World) (r0 : Rd w v0 (M.digs D32 X)) (r1 : Rd w v1 (M.digs D32 Y)) :
  Calls Tryz.prog 84 #[v0, v1] w fun e w' => ∃ q r, e = .returned (.tuple #[q, r]) ∧ Rd w' q (M.digs D32 (X / Y)) ∧ Rd w' r (M.digs D32 (X % Y)) ∧ Below w.heap.size w w' := by
 have := rdiv_any v0 v1 _ _ w r0 r1 (M.Low.digs D32_two _) (M.Low.digs D32_two _) (M.trim_digs D32_two _) (digs_pos D32_two (by omega)) (Nat.le_trans (dlen hx) (by omega)) (Nat.le_trans (dlen hy) (by omega))
 rwa [M.val_digs D32_two, M.val_digs D32_two] at this
theorem make0_val (neg : Bool) {V K : Nat} (hK : K ≤ 100000) (hV : V < D32 ^ K) (v : Value) (w : World) (h : Rd w v (M.digs D32 V)) :
  Calls Tryz.prog 75 #[.bool neg, v] w (Re w (zI (sgn neg V))) := by
 have := make0_any neg v _ w h (M.Low.digs D32_two _) (Nat.le_trans (dlen hV) hK)
 rwa [M.val_digs D32_two] at this
def HfAt (xs zs : List Nat) (k r : Nat) : Prop := zs.length = xs.length - k ∧ M.Low D32 zs ∧ r ≤ 1 ∧ 2 * M.val D32 zs + r = M.val D32 (xs.drop k)
theorem HfAt.step {xs zs : List Nat} {k r : Nat} (lx : M.Low D32 xs) (hk : k + 1 ≤ xs.length) (h : HfAt xs zs (k + 1) r) : HfAt xs ((D32 * r + lm xs k) / 2 :: zs) k ((D32 * r + lm xs k) % 2) := by
 obtain ⟨h1, h2, h3, h4⟩ := h
 have b1 : lm xs k < D32 := lm_lt D32_pos lx k
 refine ⟨by simp; omega, ?_, by omega, ?_⟩
 ·intro x hx
  rcases List.mem_cons.1 hx with rfl | hx
  ·unfold D32 at *; omega
  ·exact h2 x hx
 ·rw [drop_lm xs k (by omega), M.val_cons, M.val_cons, ← h4]
  have e := Nat.div_add_mod (D32 * r + lm xs k) 2
  rw [Nat.mul_add D32]
  have e2 : D32 * (2 * M.val D32 zs) = 2 * (D32 * M.val D32 zs) := Nat.mul_left_comm _ _ _
  omega
theorem rhalf_any (va : Value) (xs : List Nat) (w : World) (ha : Rd w va xs) (la : M.Low D32 xs) (hx : xs.length ≤ 100000) :
  Calls Tryz.prog 145 #[va] w fun e w' => ∃ v, e = .returned (.tuple #[v, .bool (decide (M.val D32 xs % 2 = 1))]) ∧ Rd w' v (M.digs D32 (M.val D32 xs / 2)) ∧ Below w.heap.size w w' := by
 have ha0 := ha
 obtain ⟨a, ca, rfl, hca, -⟩ := ha
 obtain ⟨n, hn⟩ : ∃ n, n = xs.length := ⟨_, rfl⟩
 rw [← hn] at ha0 hca hx ⊢
 have HN := shut hn
 clear hn
 go_enter Tryz.func145, Tryz.ntmps145
 go_wp2_with (at_make; refine wpList_mk rfl _ _ rfl _ n rfl rfl (by omega) (by omega) ?_; intro w2 hblk hbel)
 go_loopw [5, 6] (fun r i wr => ∃ (k rr : Nat) (zs : List Nat), k ≤ n ∧ i = .int .i64 ((k : Int) - 1) ∧ r = .int .u64 rr ∧ HfAt xs zs k rr ∧ Blk wr w.heap.size (List.replicate k 0 ++ zs) ∧ Below w.heap.size w wr) (fun _ i _ => (intOf i + 1).toNat)
 case atStart => exact ⟨n, 0, [], Nat.le_refl _, rfl, rfl, ⟨by rw [HN.out]; simp, M.Low.nil _, by omega, by rw [HN.out]; simp [M.val]⟩, by simpa using hblk, hbel⟩
 case round =>
  obtain ⟨k, rr, zs, hk, rfl, rfl, hat, hblk', hbel'⟩ := hrel
  match k with
  | 0 =>
   obtain ⟨h1, h2, h3, h4⟩ := hat
   rw [List.drop_zero] at h4
   rw [List.replicate_zero, List.nil_append] at hblk'
   have hzl : zs.length = n := by rw [h1, HN.out]; omega
   have hrd : Rd wr (.slice (some ⟨w.heap.size, 0, none⟩) n n) zs := by
    have := hblk'.rd0 n (by omega)
    rwa [hzl] at this
   have e1 : M.val D32 zs = M.val D32 xs / 2 := by omega
   have e2 : ((rr : Int) == 1) = decide (M.val D32 xs % 2 = 1) := by
    rw [Bool.eq_iff_iff]
    simp
    omega
   have E1 := shut e1
   have E2 := shut e2
   have hlen : zs.length ≤ 1000000 := by omega
   clear h4 e1 e2 h1 h3 hzl
   go_wp2_with fail
   refine (trim_any D32 D32_two _ _ zs hrd h2 hlen).mono ?_
   rintro e w' ⟨v', rfl, hv', rfl⟩
   go_wp2
   go_ret2
   exact ⟨_, by rw [← E2.out]; rfl, by rw [← E1.out]; exact hv', hbel'⟩
  | k + 1 =>
   have HST := shut (hat.step la (by rw [← HN.out]; exact hk))
   have b1 : lm xs k < 4294967296 := lm_lt D32_pos la k
   have hr1 : rr ≤ 1 := hat.2.2.1
   have hzl : zs.length = n - (k + 1) := by rw [hat.1, HN.out]
   obtain ⟨b1', o1, rfl, q1⟩ := ha0.at hbel' (j := k) (by rw [← HN.out]; omega)
   have hc1 := hblk'.cell (j := k) (by simp; omega)
   have hf1 := hblk'.frozen k
   have hset : ∀ y, Blk (wr.setCell ⟨w.heap.size, k, none⟩ (.int .u64 (y : Nat))) w.heap.size (List.replicate k 0 ++ y :: zs) := fun y => by
    have h := hblk'.set k y
    have e : (List.replicate (k + 1) 0 ++ zs).set k y = List.replicate k 0 ++ y :: zs := by
     rw [List.replicate_succ', List.append_assoc, List.set_append_right _ _ (by simp)]
     simp
    rwa [e] at h
   have HS := shut (hset ((D32 * rr + lm xs k) / 2))
   have ik : (k : Int) < n := by omega
   clear hset hat hzl
   go_wp2
   have e1 : ((rr : Int) * 4294967296 + (lm xs k : Int)) % 2 = (((D32 * rr + lm xs k) % 2 : Nat) : Int) := by unfold D32; omega
   have e2 : ((rr : Int) * 4294967296 + (lm xs k : Int)) / 2 = (((D32 * rr + lm xs k) / 2 : Nat) : Int) := by unfold D32; omega
   rw [e1, e2]
   exact ⟨⟨k, _, _, by omega, rfl, rfl, HST.out, HS.out, hbel'.setCell (Nat.le_refl _) _⟩, by simp only [intOf]; omega⟩
theorem boxes4 (w : World) (x0 x1 y0 y1 : Value) : ∃ w0, w0 = (((w.alloc (.cells #[x0, x1] 24)).alloc (.cells #[y0, y1] 24)).alloc (.cells #[.bool false, .string { data := #[] }] 24)).alloc (.cells #[x0, x1, y0, y1] 24) ∧
  Cel w0 w.heap.size [x0, x1] 24 ∧ Cel w0 (w.heap.size + 1) [y0, y1] 24 ∧ Cel w0 (w.heap.size + 1 + 1) [.bool false, .string { data := #[] }] 24 ∧ Cel w0 (w.heap.size + 1 + 1 + 1) [x0, x1, y0, y1] 24 ∧ Below w.heap.size w w0 := by
 refine ⟨_, rfl, (((Cel.new w [x0, x1] 24).alloc _).alloc _).alloc _, ?_, ?_, ?_, by go_grown⟩
 ·have := ((Cel.new (w.alloc (.cells #[x0, x1] 24)) [y0, y1] 24).alloc (.cells #[.bool false, .string { data := #[] }] 24)).alloc (.cells #[x0, x1, y0, y1] 24)
  simpa using this
 ·have := (Cel.new ((w.alloc (.cells #[x0, x1] 24)).alloc (.cells #[y0, y1] 24)) [.bool false, .string { data := #[] }] 24).alloc (.cells #[x0, x1, y0, y1] 24)
  simpa using this
 ·have := Cel.new (((w.alloc (.cells #[x0, x1] 24)).alloc (.cells #[y0, y1] 24)).alloc (.cells #[.bool false, .string { data := #[] }] 24)) [x0, x1, y0, y1] 24
  simpa using this
theorem sgn_natOf (neg : Bool) (s : ByteArray) : sgn neg (natOf s) = zOf neg s := rfl
theorem digs_len_bytes {s : ByteArray} (k : Nat) (h : s.size ≤ 8 * k) : (M.digs B64 (natOf s)).length ≤ k :=
 M.digs_len_of_lt B64_two (Nat.lt_of_lt_of_le (natOf_lt s) (by rw [B64_pow]; exact Nat.pow_le_pow_right (by omega) h))
theorem sgn_mul (a b : Bool) (X Y : Nat) : sgn (a != b) (X * Y) = sgn a X * sgn b Y := by
 cases a <;> cases b <;> simp [sgn, Int.natCast_mul, Int.neg_mul, Int.mul_neg]
theorem digs_len_mul {x y j k : Nat} (hx : x < B64 ^ j) (hy : y < B64 ^ k) : (M.digs B64 (x * y)).length ≤ j + k := by
 refine M.digs_len_of_lt B64_two ?_
 rw [Nat.pow_add]
 exact Nat.mul_lt_mul'' hx hy
theorem natOf_lt8 {s : ByteArray} (k : Nat) (h : s.size ≤ 8 * k) : natOf s < B64 ^ k := Nat.lt_of_lt_of_le (natOf_lt s) (by rw [B64_pow]; exact Nat.pow_le_pow_right (by omega) h)
theorem len_mul8 {s0 s1 : ByteArray} (j k : Nat) (h0 : s0.size ≤ 8 * j) (h1 : s1.size ≤ 8 * k) : (M.digs B64 (natOf s0 * natOf s1)).length ≤ j + k := digs_len_mul (natOf_lt8 j h0) (natOf_lt8 k h1)
theorem zmul_ok (n0 n1 : Bool) (s0 s1 : ByteArray) (w : World) (o0 : OkZ n0 s0) (o1 : OkZ n1 s1) (z0 : s0.size ≤ 16000) (z1 : s1.size ≤ 16000) :
  Calls Tryz.prog 57 #[.agg #[.bool n0, .string s0], .agg #[.bool n1, .string s1]] w (Re w (.tuple #[zI (zOf n0 s0 * zOf n1 s1), .int .i64 0])) := by
 have hM : ∀ (v0 v1 : Value) (wx : World), Rd wx v0 (M.digs B64 (natOf s0)) → Rd wx v1 (M.digs B64 (natOf s1)) → Calls Tryz.prog 93 #[v0, v1] wx fun e w' => ∃ v, e = .returned (.tuple #[v, .int .i64 0]) ∧ Rd w' v (M.digs B64 (natOf s0 * natOf s1)) ∧ Below wx.heap.size wx w' := fun v0 v1 wx r0 r1 => by
  have := mul_any v0 v1 _ _ wx r0 r1 (M.Low.digs B64_two _) (M.Low.digs B64_two _) (Nat.le_trans (digs_len_bytes 2000 (by omega)) (by omega)) (Nat.le_trans (digs_len_bytes 2000 (by omega)) (by omega))
  rwa [M.val_digs B64_two, M.val_digs B64_two] at this
 have hT : ∀ (v : Value) (wx : World), Rd wx v (M.digs B64 (natOf s0 * natOf s1)) → Calls Tryz.prog 87 #[.agg #[.bool (n0 != n1), v]] wx (Re wx (zI (zOf n0 s0 * zOf n1 s1))) := fun v wx hr => by
  have := tell_any (n0 != n1) v _ wx hr (M.Low.digs B64_two _) (by have := len_mul8 2000 2000 (s0 := s0) (s1 := s1) (by omega) (by omega); omega)
  rwa [M.val_digs B64_two, sgn_mul, sgn_natOf, sgn_natOf] at this
 have HM := shut hM
 have HT := shut hT
 clear hM hT
 generalize hR : zI (zOf n0 s0 * zOf n1 s1) = R at *
 obtain ⟨za, zb, rfl⟩ : ∃ a b, R = .agg #[.bool a, .string b] := ⟨_, _, hR.symm⟩
 clear hR
 go_enter Tryz.func57, Tryz.ntmps57
 go_wp2_with fail
 obtain ⟨w0, hw0, k0, k1, k2, k3, hb0⟩ := boxes4 w (.bool n0) (.string s0) (.bool n1) (.string s1)
 rw [← hw0]
 clear hw0
 refine (read2_ok _ n0 n1 s0 s1 w0 k3 o0 o1 (by omega) (by omega)).mono ?_
 rintro e w1 ⟨g, v0, v1, rfl, kg, r0, r1, hg, hb⟩
 have c0 := kg.cell 0
 have c1 := kg.cell 1
 have c2 := kg.cell 2
 have c3 := kg.cell 3
 simp only [List.getElem?_cons_zero, List.getElem?_cons_succ] at c0 c1 c2 c3
 have m0 := k0.below hb
 have m1 := k1.below hb
 have m2 := k2.below hb
 have bb := Below.after hb0 hb
 have H31 := shut (HM.out v0 v1 w1.drew (show Rd w1 _ _ from r0.rd) (show Rd w1 _ _ from r1.rd))
 clear HM k0 k1 k2 k3 kg
 obtain ⟨a0, p0, rfl, -, -⟩ := id r0
 obtain ⟨a1, p1, rfl, -, -⟩ := id r1
 go_wp2
 go_region_held3 (fun w' => w'.cell? ⟨g, 1, none⟩ = some (.slice a0 (M.digs B64 (natOf s0)).length p0) ∧ w'.cell? ⟨g, 3, none⟩ = some (.slice a1 (M.digs B64 (natOf s1)).length p1)) (first | exact ⟨c1, c3⟩ | exact ⟨cell_below c1 b31, cell_below c3 b31⟩) (first | (go_at_call 93; refine (H31.out).mono ?_; rintro e w2 ⟨v, rfl, rv, b31'⟩; have b31 : Below w1.heap.size w1 w2 := ⟨b31'.os, b31'.tape, b31'.output, b31'.size, b31'.block⟩; obtain ⟨av, cv, rfl, -, -⟩ := id rv))
 have q0 := m0.below b31
 have q1 := m1.below b31
 have q2 := m2.below b31
 have bb2 := Below.after bb b31
 have d0 := cel2_0 q0
 have d1 := cel2_0 q1
 clear m0 m1 m2 c0 c1 c2 c3 r0 r1 H31
 go_wp2_with fail
 refine (HT.out _ _ rv).mono ?_
 rintro e w4 ⟨rfl, hb4⟩
 have p2 := q2.below hb4
 have bb4 := Below.after bb2 hb4
 obtain ⟨e0, e1⟩ := xk2 p2
 have f0 := p2.frozen 0
 have f1 := p2.frozen 1
 go_wp2
 exact post_z1 (p := 4) (u := 5) (by kernel_rfl) rfl rfl rfl ((p2.set 0 _).set 1 _) ⟨rfl, (bb4.setCell (by simp; omega) _).setCell (by simp; omega) _⟩
theorem boxes5 (w : World) (x0 x1 y0 y1 : Value) : ∃ w0, w0 = ((((w.alloc (.cells #[x0, x1] 24)).alloc (.cells #[y0, y1] 24)).alloc (.cells #[.bool false, .string { data := #[] }] 24)).alloc (.cells #[.bool false, .string { data := #[] }] 24)).alloc (.cells #[x0, x1, y0, y1] 24) ∧
  Cel w0 w.heap.size [x0, x1] 24 ∧ Cel w0 (w.heap.size + 1) [y0, y1] 24 ∧ Cel w0 (w.heap.size + 1 + 1) [.bool false, .string { data := #[] }] 24 ∧ Cel w0 (w.heap.size + 1 + 1 + 1) [.bool false, .string { data := #[] }] 24 ∧ Cel w0 (w.heap.size + 1 + 1 + 1 + 1) [x0, x1, y0, y1] 24 ∧ Below w.heap.size w w0 := by
 refine ⟨_, rfl, ((((Cel.new w [x0, x1] 24).alloc _).alloc _).alloc _).alloc _, ?_, ?_, ?_, ?_, by go_grown⟩
 ·have := (((Cel.new (w.alloc (.cells #[x0, x1] 24)) [y0, y1] 24).alloc (.cells #[.bool false, .string { data := #[] }] 24)).alloc (.cells #[.bool false, .string { data := #[] }] 24)).alloc (.cells #[x0, x1, y0, y1] 24)
  simpa using this
 ·have := ((Cel.new ((w.alloc (.cells #[x0, x1] 24)).alloc (.cells #[y0, y1] 24)) [.bool false, .string { data := #[] }] 24).alloc (.cells #[.bool false, .string { data := #[] }] 24)).alloc (.cells #[x0, x1, y0, y1] 24)
  simpa using this
 ·have := (Cel.new (((w.alloc (.cells #[x0, x1] 24)).alloc (.cells #[y0, y1] 24)).alloc (.cells #[.bool false, .string { data := #[] }] 24)) [.bool false, .string { data := #[] }] 24).alloc (.cells #[x0, x1, y0, y1] 24)
  simpa using this
 ·have := Cel.new ((((w.alloc (.cells #[x0, x1] 24)).alloc (.cells #[y0, y1] 24)).alloc (.cells #[.bool false, .string { data := #[] }] 24)).alloc (.cells #[.bool false, .string { data := #[] }] 24)) [x0, x1, y0, y1] 24
  simpa using this
theorem ediv_neg_nat (X Y : Nat) (hY : 0 < Y) : (-(X : Int)) / (Y : Int) = (if X % Y = 0 then -((X / Y : Nat) : Int) else -((X / Y + 1 : Nat) : Int)) ∧ (-(X : Int)) % (Y : Int) = (if X % Y = 0 then 0 else ((Y - X % Y : Nat) : Int)) := by
 have hd := Nat.div_add_mod X Y
 have hl := Nat.mod_lt X hY
 refine (Int.ediv_emod_unique (by omega)).2 ?_
 generalize X / Y = q at *
 generalize X % Y = r at *
 have e : (X : Int) = (Y : Int) * (q : Int) + (r : Int) := by rw [← hd]; simp
 by_cases h : r = 0
 ·subst h
  simp only [if_true]
  refine ⟨?_, by omega, by omega⟩
  rw [e, Int.mul_neg]; simp
 ·rw [if_neg h, if_neg h]
  refine ⟨?_, by omega, by omega⟩
  rw [e, Int.natCast_add, Int.mul_neg, Int.mul_add]
  have : ((Y - r : Nat) : Int) = (Y : Int) - (r : Int) := by omega
  rw [this]
  simp
  omega
theorem sgn_ediv (a b : Bool) (X Y : Nat) (hY : 0 < Y) : sgn a X / sgn b Y = sgn (a != b) (if a = true ∧ X % Y ≠ 0 then X / Y + 1 else X / Y) ∧ sgn a X % sgn b Y = sgn false (if a = true ∧ X % Y ≠ 0 then Y - X % Y else X % Y) := by
 have h := ediv_neg_nat X Y hY
 cases a <;> cases b
 ·simp [sgn]
 ·simp [sgn, Int.ediv_neg]
 ·rw [show sgn true X = -(X : Int) from rfl, show sgn false Y = (Y : Int) from rfl, h.1, h.2]
  by_cases h0 : X % Y = 0
  ·simp [sgn, h0]
  ·simp [sgn, h0]
 ·rw [show sgn true X = -(X : Int) from rfl, show sgn true Y = -(Y : Int) from rfl, Int.ediv_neg, Int.emod_neg, h.1, h.2]
  by_cases h0 : X % Y = 0
  ·simp [sgn, h0]
  ·simp [sgn, h0]
theorem zdiv_plain (n0 n1 : Bool) (s0 s1 : ByteArray) (w : World) (o0 : OkZ n0 s0) (o1 : OkZ n1 s1) (z0 : s0.size ≤ 16000) (z1 : s1.size ≤ 16000) (hY : 0 < natOf s1) (hp : n0 = false ∨ (M.digs B64 (natOf s0 % natOf s1)).length = 0) :
  Calls Tryz.prog 56 #[.agg #[.bool n0, .string s0], .agg #[.bool n1, .string s1]] w (Re w (.tuple #[zI (sgn (n0 != n1) (natOf s0 / natOf s1)), zI (sgn false (natOf s0 % natOf s1)), .int .i64 0])) := by
 have HM := shut (fun v0 v1 wx r0 r1 => divmod_pos (X := natOf s0) (Y := natOf s1) (K := 2000) hY (by omega) (natOf_lt8 2000 (by omega)) (natOf_lt8 2000 (by omega)) v0 v1 wx r0 r1)
 have HQ := shut (fun v wx hr => tell_dig (n0 != n1) (K := 2000) (V := natOf s0 / natOf s1) (by omega) (Nat.lt_of_le_of_lt (Nat.div_le_self _ _) (natOf_lt8 2000 (by omega))) v wx hr)
 have HR := shut (fun v wx hr => tell_dig false (K := 2000) (V := natOf s0 % natOf s1) (by omega) (Nat.lt_of_le_of_lt (Nat.mod_le _ _) (natOf_lt8 2000 (by omega))) v wx hr)
 have HP := shut hp
 clear hp hY
 generalize hR1 : zI (sgn (n0 != n1) (natOf s0 / natOf s1)) = R1 at *
 generalize hR2 : zI (sgn false (natOf s0 % natOf s1)) = R2 at *
 obtain ⟨za, zb, rfl⟩ : ∃ a b, R1 = .agg #[.bool a, .string b] := ⟨_, _, hR1.symm⟩
 obtain ⟨zc, zd, rfl⟩ : ∃ a b, R2 = .agg #[.bool a, .string b] := ⟨_, _, hR2.symm⟩
 clear hR1 hR2
 go_enter Tryz.func56, Tryz.ntmps56
 go_wp2_with fail
 obtain ⟨w0, hw0, k0, k1, k2, k4, k3, hb0⟩ := boxes5 w (.bool n0) (.string s0) (.bool n1) (.string s1)
 rw [← hw0]
 clear hw0
 refine (read2_ok _ n0 n1 s0 s1 w0 k3 o0 o1 (by omega) (by omega)).mono ?_
 rintro e w1 ⟨g, v0, v1, rfl, kg, r0, r1, hg, hb⟩
 have c0 := kg.cell 0
 have c1 := kg.cell 1
 have c2 := kg.cell 2
 have c3 := kg.cell 3
 simp only [List.getElem?_cons_zero, List.getElem?_cons_succ] at c0 c1 c2 c3
 have m0 := k0.below hb
 have m1 := k1.below hb
 have m2 := k2.below hb
 have m4 := k4.below hb
 have bb := Below.after hb0 hb
 have H31 := shut (HM.out v0 v1 w1.drew (show Rd w1 _ _ from r0.rd) (show Rd w1 _ _ from r1.rd))
 clear HM k0 k1 k2 k3 k4 kg
 obtain ⟨a0, p0, rfl, -, -⟩ := id r0
 obtain ⟨a1, p1, rfl, -, -⟩ := id r1
 go_wp2
 go_region_held3 (fun w' => w'.cell? ⟨g, 1, none⟩ = some (.slice a0 (M.digs B64 (natOf s0)).length p0) ∧ w'.cell? ⟨g, 3, none⟩ = some (.slice a1 (M.digs B64 (natOf s1)).length p1)) (first | exact ⟨c1, c3⟩ | exact ⟨cell_below c1 b31, cell_below c3 b31⟩) (first | (go_at_call 90; refine (H31.out).mono ?_; rintro e w2 ⟨vq, vr, rfl, rq, rr, b31'⟩; have b31 : Below w1.heap.size w1 w2 := ⟨b31'.os, b31'.tape, b31'.output, b31'.size, b31'.block⟩; obtain ⟨aq, cq, rfl, -, -⟩ := id rq; obtain ⟨ar, cr, rfl, -, -⟩ := id rr))
 have q0 := m0.below b31
 have q1 := m1.below b31
 have q2 := m2.below b31
 have q4 := m4.below b31
 have bb2 := Below.after bb b31
 have d0 := cel2_0 q0
 have d1 := cel2_0 q1
 clear m0 m1 m2 m4 c0 c1 c2 c3 r0 r1 H31
 have hQ := HQ.out _ _ rq
 rcases HP.out with rfl | hp
 ·rw [Bool.false_bne] at hQ
  clear HQ HP
  go_wp2_with fail
  refine hQ.mono ?_
  rintro e w4 ⟨rfl, hb4⟩
  go_wp2_with fail
  refine (HR.out _ _ (rr.below hb4)).mono ?_
  rintro e w5 ⟨rfl, hb5⟩
  have bb5 := Below.after hb4 hb5
  have p2 := q2.below bb5
  have p4 := q4.below bb5
  have bbb := Below.after bb2 bb5
  obtain ⟨e0, e1⟩ := xk2 p2
  have f0 := p2.frozen 0
  have f1 := p2.frozen 1
  obtain ⟨e2, e3⟩ := xk2 p4
  have f2 := p4.frozen 0
  have f3 := p4.frozen 1
  go_wp2
  exact post_zz1 (p := 4) (q := 5) (u := 6) (by kernel_rfl) rfl rfl rfl rfl ((((p2.set 0 _).set 1 _).other (by omega) _ _).other (by omega) _ _) ((((p4.other (by omega) _ _).other (by omega) _ _).set 0 _).set 1 _) ⟨rfl, (((bbb.setCell (by simp; omega) _).setCell (by simp; omega) _).setCell (by simp; omega) _).setCell (by simp; omega) _⟩
 ·rw [hp] at rr
  clear HP HQ
  cases n0 <;>
  ·first | rw [Bool.false_bne] at hQ | rw [Bool.true_bne] at hQ
   go_wp2_with fail
   refine hQ.mono ?_
   rintro e w4 ⟨rfl, hb4⟩
   go_wp2_with fail
   refine (HR.out _ _ (rr.below hb4)).mono ?_
   rintro e w5 ⟨rfl, hb5⟩
   have bb5 := Below.after hb4 hb5
   have p2 := q2.below bb5
   have p4 := q4.below bb5
   have bbb := Below.after bb2 bb5
   obtain ⟨e0, e1⟩ := xk2 p2
   have f0 := p2.frozen 0
   have f1 := p2.frozen 1
   obtain ⟨e2, e3⟩ := xk2 p4
   have f2 := p4.frozen 0
   have f3 := p4.frozen 1
   go_wp2
   exact post_zz1 (p := 4) (q := 5) (u := 6) (by kernel_rfl) rfl rfl rfl rfl ((((p2.set 0 _).set 1 _).other (by omega) _ _).other (by omega) _ _) ((((p4.other (by omega) _ _).other (by omega) _ _).set 0 _).set 1 _) ⟨rfl, (((bbb.setCell (by simp; omega) _).setCell (by simp; omega) _).setCell (by simp; omega) _).setCell (by simp; omega) _⟩
theorem add_one {V K : Nat} (hK : K ≤ 4000) (hV : V < B64 ^ K) (v0 v1 : Value) (wx : World) (r0 : Rd wx v0 (M.digs B64 V)) (r1 : Rd wx v1 [1]) :
  Calls Tryz.prog 91 #[v0, v1] wx fun e w' => ∃ v, e = .returned (.tuple #[v, .int .i64 0]) ∧ Rd w' v (M.digs B64 (V + 1)) ∧ Below wx.heap.size wx w' := by
 have := add_any v0 v1 _ _ wx r0 r1 (M.Low.digs B64_two _) (low_of_all (by simp; unfold B64; omega)) (Nat.le_trans (M.digs_len_of_lt B64_two hV) hK) (by simp)
 rwa [M.val_digs B64_two, show M.val B64 [1] = 1 from by rw [M.val_cons, M.val_nil]; omega] at this
theorem sub_dig {X Y K : Nat} (hK : K ≤ 4000) (hx : X < B64 ^ K) (hy : Y < B64 ^ K) (hle : Y ≤ X) (v0 v1 : Value) (wx : World) (r0 : Rd wx v0 (M.digs B64 X)) (r1 : Rd wx v1 (M.digs B64 Y)) :
  Calls Tryz.prog 92 #[v0, v1] wx fun e w' => ∃ v, e = .returned (.tuple #[v, .int .i64 0]) ∧ Rd w' v (M.digs B64 (X - Y)) ∧ Below wx.heap.size wx w' := by
 have := sub_any v0 v1 _ _ wx r0 r1 (M.Low.digs B64_two _) (M.Low.digs B64_two _) (Nat.le_trans (M.digs_len_of_lt B64_two hx) hK) (Nat.le_trans (M.digs_len_of_lt B64_two hy) hK)
 rw [M.val_digs B64_two, M.val_digs B64_two] at this
 refine this.mono ?_
 rintro e w' ⟨h, -, hb⟩
 obtain ⟨v, rfl, hr⟩ := h hle
 exact ⟨v, rfl, hr, hb⟩
theorem zdiv_more (n1 : Bool) (s0 s1 : ByteArray) (w : World) (o0 : OkZ true s0) (o1 : OkZ n1 s1) (z0 : s0.size ≤ 16000) (z1 : s1.size ≤ 16000) (hY : 0 < natOf s1) (hp : 0 < (M.digs B64 (natOf s0 % natOf s1)).length) :
  Calls Tryz.prog 56 #[.agg #[.bool true, .string s0], .agg #[.bool n1, .string s1]] w (Re w (.tuple #[zI (sgn (!n1) (natOf s0 / natOf s1 + 1)), zI (sgn false (natOf s1 - natOf s0 % natOf s1)), .int .i64 0])) := by
 have HM := shut (fun v0 v1 wx r0 r1 => divmod_pos (X := natOf s0) (Y := natOf s1) (K := 2000) hY (by omega) (natOf_lt8 2000 (by omega)) (natOf_lt8 2000 (by omega)) v0 v1 wx r0 r1)
 have HA := shut (fun v0 v1 wx r0 r1 => add_one (V := natOf s0 / natOf s1) (K := 2000) (by omega) (Nat.lt_of_le_of_lt (Nat.div_le_self _ _) (natOf_lt8 2000 (by omega))) v0 v1 wx r0 r1)
 have HS := shut (fun v0 v1 wx r0 r1 => sub_dig (X := natOf s1) (Y := natOf s0 % natOf s1) (K := 2000) (by omega) (natOf_lt8 2000 (by omega)) (Nat.lt_of_le_of_lt (Nat.mod_le _ _) (natOf_lt8 2000 (by omega))) (Nat.le_of_lt (Nat.mod_lt _ hY)) v0 v1 wx r0 r1)
 have HQ := shut (fun v wx hr => tell_dig (!n1) (K := 2000 + 1) (V := natOf s0 / natOf s1 + 1) (by omega) (succ_lt_pow B64_two (Nat.lt_of_le_of_lt (Nat.div_le_self _ _) (natOf_lt8 2000 (by omega)))) v wx hr)
 have HR := shut (fun v wx hr => tell_dig false (K := 2000) (V := natOf s1 - natOf s0 % natOf s1) (by omega) (Nat.lt_of_le_of_lt (Nat.sub_le _ _) (natOf_lt8 2000 (by omega))) v wx hr)
 have HP := shut hp
 clear hp hY
 generalize hR1 : zI (sgn (!n1) (natOf s0 / natOf s1 + 1)) = R1 at *
 generalize hR2 : zI (sgn false (natOf s1 - natOf s0 % natOf s1)) = R2 at *
 obtain ⟨za, zb, rfl⟩ : ∃ a b, R1 = .agg #[.bool a, .string b] := ⟨_, _, hR1.symm⟩
 obtain ⟨zc, zd, rfl⟩ : ∃ a b, R2 = .agg #[.bool a, .string b] := ⟨_, _, hR2.symm⟩
 clear hR1 hR2
 go_enter Tryz.func56, Tryz.ntmps56
 go_wp2_with fail
 obtain ⟨w0, hw0, k0, k1, k2, k4, k3, hb0⟩ := boxes5 w (.bool true) (.string s0) (.bool n1) (.string s1)
 rw [← hw0]
 clear hw0
 refine (read2_ok _ true n1 s0 s1 w0 k3 o0 o1 (by omega) (by omega)).mono ?_
 rintro e w1 ⟨g, v0, v1, rfl, kg, r0, r1, hg, hb⟩
 have c0 := kg.cell 0
 have c1 := kg.cell 1
 have c2 := kg.cell 2
 have c3 := kg.cell 3
 simp only [List.getElem?_cons_zero, List.getElem?_cons_succ] at c0 c1 c2 c3
 have m0 := k0.below hb
 have m1 := k1.below hb
 have m2 := k2.below hb
 have m4 := k4.below hb
 have bb := Below.after hb0 hb
 have H31 := shut (HM.out v0 v1 w1.drew (show Rd w1 _ _ from r0.rd) (show Rd w1 _ _ from r1.rd))
 clear HM k0 k1 k2 k3 k4
 obtain ⟨a0, p0, rfl, -, -⟩ := id r0
 obtain ⟨a1, p1, rfl, -, -⟩ := id r1
 go_wp2
 go_region_held3 (fun w' => w'.cell? ⟨g, 1, none⟩ = some (.slice a0 (M.digs B64 (natOf s0)).length p0) ∧ w'.cell? ⟨g, 3, none⟩ = some (.slice a1 (M.digs B64 (natOf s1)).length p1)) (first | exact ⟨c1, c3⟩ | exact ⟨cell_below c1 b31, cell_below c3 b31⟩) (first | (go_at_call 90; refine (H31.out).mono ?_; rintro e w2 ⟨vq, vr, rfl, rq, rr, b31'⟩; have b31 : Below w1.heap.size w1 w2 := ⟨b31'.os, b31'.tape, b31'.output, b31'.size, b31'.block⟩; obtain ⟨aq, cq, rfl, -, -⟩ := id rq; obtain ⟨ar, cr, rfl, -, -⟩ := id rr))
 have q0 := m0.below b31
 have q1 := m1.below b31
 have q2 := m2.below b31
 have q4 := m4.below b31
 have qg := kg.below b31
 have qr1 := r1.rd.below b31
 have bb2 := Below.after bb b31
 have d0 := cel2_0 q0
 clear m0 m1 m2 m4 c0 c1 c2 c3 r0 r1 H31 kg
 have hp := HP.out
 go_wp2_with fail
 obtain ⟨w3, hw3⟩ : ∃ w3, w3 = w2.alloc (.cells #[.int .u64 1] 118) := ⟨_, rfl⟩
 have hb3 : Below w2.heap.size w2 w3 := by rw [hw3]; exact (Below.refl _ _).alloc (Nat.le_refl _) _
 have ro : Rd w3 (.slice (some ⟨w2.heap.size, 0, none⟩) 1 1) [1] := by rw [hw3]; exact rd1 w2 rfl 1
 rw [← hw3]
 clear hw3
 refine (HA.out _ _ w3 (rq.below hb3) ro).mono ?_
 rintro e w4 ⟨vq', rfl, rq', hb4⟩
 obtain ⟨aq', cq', rfl, -, -⟩ := id rq'
 have bb4 := Below.after hb3 hb4
 have g3 := (qg.below bb4).cell 3
 simp only [List.getElem?_cons_zero, List.getElem?_cons_succ] at g3
 go_wp2_with fail
 refine (HS.out _ _ w4 (qr1.below bb4) (rr.below bb4)).mono ?_
 rintro e w5 ⟨vr', rfl, rr', hb5⟩
 obtain ⟨ar', cr', rfl, -, -⟩ := id rr'
 have bb5 := Below.after bb4 hb5
 have d0 := cel2_0 (q0.below bb5)
 have d1 := cel2_0 (q1.below bb5)
 have hQ := HQ.out _ _ (rq'.below hb5)
 go_wp2_with fail
 refine hQ.mono ?_
 rintro e w6 ⟨rfl, hb6⟩
 go_wp2_with fail
 refine (HR.out _ _ (rr'.below hb6)).mono ?_
 rintro e w7 ⟨rfl, hb7⟩
 have bb7 := Below.after (Below.after bb5 hb6) hb7
 have p2 := q2.below bb7
 have p4 := q4.below bb7
 have bbb := Below.after bb2 bb7
 obtain ⟨e0, e1⟩ := xk2 p2
 have f0 := p2.frozen 0
 have f1 := p2.frozen 1
 obtain ⟨e2, e3⟩ := xk2 p4
 have f2 := p4.frozen 0
 have f3 := p4.frozen 1
 go_wp2
 exact post_zz1 (p := 4) (q := 5) (u := 6) (by kernel_rfl) rfl rfl rfl rfl ((((p2.set 0 _).set 1 _).other (by omega) _ _).other (by omega) _ _) ((((p4.other (by omega) _ _).other (by omega) _ _).set 0 _).set 1 _) ⟨rfl, (((bbb.setCell (by simp; omega) _).setCell (by simp; omega) _).setCell (by simp; omega) _).setCell (by simp; omega) _⟩
theorem zdiv_ok (n0 n1 : Bool) (s0 s1 : ByteArray) (w : World) (o0 : OkZ n0 s0) (o1 : OkZ n1 s1) (z0 : s0.size ≤ 16000) (z1 : s1.size ≤ 16000) (hY : 0 < natOf s1) :
  Calls Tryz.prog 56 #[.agg #[.bool n0, .string s0], .agg #[.bool n1, .string s1]] w (Re w (.tuple #[zI (zOf n0 s0 / zOf n1 s1), zI (zOf n0 s0 % zOf n1 s1), .int .i64 0])) := by
 rw [← sgn_natOf, ← sgn_natOf, (sgn_ediv n0 n1 _ _ hY).1, (sgn_ediv n0 n1 _ _ hY).2]
 by_cases h : n0 = true ∧ natOf s0 % natOf s1 ≠ 0
 ·rw [if_pos h, if_pos h]
  obtain ⟨rfl, h⟩ := h
  rw [Bool.true_bne]
  exact zdiv_more n1 s0 s1 w o0 o1 z0 z1 hY (digs_pos B64_two h)
 ·rw [if_neg h, if_neg h]
  refine zdiv_plain n0 n1 s0 s1 w o0 o1 z0 z1 hY ?_
  cases n0 with
  | false => exact Or.inl rfl
  | true =>
   refine Or.inr (digs_zero ?_)
   exact Classical.not_not.1 fun h0 => h ⟨rfl, h0⟩
end Go.Proofs.YtbafjmjcepcckaaGreatDoor
