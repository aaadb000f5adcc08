/-
  Package whole: the leading limbs of a row.
  Package whole: few of Euclid's steps.
  Package whole: Div.
  Package whole: steps after steps; whether there are none.
  The decimal text of a number; gussetref02: Text.
  gussetref02: Quo where the rest would be below 0.
  Package whole: Div by 0.
  Package whole: Of.
  gussetref02: make0, Of.
  gussetref02: Check, Both, Negate; what gussetref01 tells of digits, by their values.
-/
import Derived.Test.YtdbnkcimcpnpdaaGreatDoorG24
namespace Go.Proofs.YtdbnkcimcpnpdaaGreatDoor
open Go.RowKit

namespace M
theorem lead {b t z P L x0 x1 x2 : Nat} (hb : b = t * z) (ht : 0 < t) (hz0 : 0 < z) (hP : 0 < P) (hL : L < P) : (L + P * x0 + P * b * x1 + P * b * b * x2) * t / (P * b) = x0 / z + x1 * t + b * (x2 * t) := by
 have hz : P * b = t * (P * z) := by rw [hb]; grind
 have e : (L + P * x0 + P * b * x1 + P * b * b * x2) * t = (L + P * x0) * t + P * b * (x1 * t + b * (x2 * t)) := by grind
 have hb0 : 0 < P * b := by rw [hz]; exact Nat.mul_pos ht (Nat.mul_pos hP hz0)
 rw [e, Nat.add_mul_div_left _ _ hb0]
 have e2 : (L + P * x0) * t / (P * b) = x0 / z := by
  rw [hz, Nat.mul_comm _ t, Nat.mul_div_mul_left _ _ ht, ← Nat.div_div_eq_div_mul, Nat.add_mul_div_left _ _ hP, Nat.div_eq_of_lt hL, Nat.zero_add]
 rw [e2]
 omega
end M

theorem or_swap (c x s : Nat) (hs : s ≤ 63) (hx : x < B64) (hc : c < 2 ^ s) : bits .or .u64 ((shLo x s : Nat) : Int) (c : Int) = ((shO c x s : Nat) : Int) := by
 obtain ⟨-, -, -, f4, hc'⟩ := sh_facts hs hx hc
 have hlow : shLo x s < 18446744073709551616 := Nat.mod_lt _ (by omega)
 rw [← f4, bits_or_u64_nat _ _ hc' hlow, bits_or_u64_nat _ _ hlow hc', Nat.or_comm]

theorem post_a2 {fn : Func} {p : Tmp} {R : Ending → World → Prop} {a : Act} {w : World} {g : Nat} {x y : Value} (h : fn.results = #[.cell p 180]) (hp : a.tmps.getD p undef = .pointer (some ⟨g, 0, none⟩)) (hd : a.defers = [])
  (hc : Cel w g [x, y] 180) (hR : R (.returned (.agg #[x, y])) w) : bodyPost Tryz.prog fn R .ret a w := by
 refine ⟨hd, .agg #[x, y], ?_, hR⟩
 exact results_cell_row (P := Tryz.prog) h _ w g 180 #[x, y] (0, 0) _ hp hc Tryz.underlying180 rfl (by kernel_rfl)

/-- Limb i, 0 ahead of the row and beyond it. -/
def lmZ (xs : List Nat) (i : Int) : Nat := if i < 0 then 0 else lm xs i.toNat
theorem at_any (i : Int) (w : World) (v : Value) (xs : List Nat) (p : Addr) (hp : w.cell? p = some v) (hv : Rd w v xs) :
  Calls Tryz.prog 187 #[.int .i64 i, .pointer (some p)] w fun e w' => e = .returned (.int .u64 (lmZ xs i : Nat)) ∧ w' = w := by
 obtain ⟨a, cap, rfl, hcap, hc⟩ := hv
 by_cases h0 : i < 0
 ·have HL : Hid (lmZ xs i = 0) := by show _ = _; unfold lmZ; rw [if_pos h0]
  clear hc
  go_enter Tryz.func187, Tryz.ntmps187
  go_wp2
  go_ret
  exact ⟨by rw [HL.out]; rfl, rfl⟩
 ·obtain ⟨k, rfl⟩ := Int.eq_ofNat_of_zero_le (show 0 ≤ i by omega)
  by_cases hk : k < xs.length
  ·obtain ⟨b, off, rfl, hcell⟩ := hc k hk
   have HL : Hid (lmZ xs (k : Int) = lm xs k) := by show _ = _; unfold lmZ; rw [if_neg h0]; rfl
   clear hc
   go_enter Tryz.func187, Tryz.ntmps187
   go_wp2
   go_ret
   exact ⟨by rw [HL.out]; rfl, rfl⟩
  ·have HL : Hid (lmZ xs (k : Int) = 0) := by show _ = _; unfold lmZ; rw [if_neg h0]; exact lm_ge (by simpa using hk)
   clear hc
   go_enter Tryz.func187, Tryz.ntmps187
   go_wp2
   go_ret
   exact ⟨by rw [HL.out]; rfl, rfl⟩

set_option maxRecDepth 100000 in
theorem leading_walk (a : Option Addr) (cap : Nat) (xs : List Nat) (n : Int) (s x0 x1 x2 : Nat) (w : World) (hv : Rd w (.slice a xs.length cap) xs) (hn0 : 0 ≤ n) (hn1 : n ≤ 1000000) (hs : s ≤ 63)
  (e0 : lmZ xs (n - 3) = x0) (e1 : lmZ xs (n - 2) = x1) (e2 : lmZ xs (n - 1) = x2) (l0 : x0 < B64) (l1 : x1 < B64) (l2 : x2 < B64) :
  Calls Tryz.prog 167 #[.slice a xs.length cap, .int .i64 n, .int .i64 (s : Nat)] w fun e w' => e = .returned (.agg #[.int .u64 (shO (shHi x0 s) x1 s : Nat), .int .u64 (shO (shHi x1 s) x2 s : Nat)]) ∧ Below w.heap.size w w' := by
 have hmf : ∀ (fn : Fn) (first cap : Array Value) (w : World), (Instr.makeFunc fn first cap).run Tryz.prog w = .ok (.func fn first cap) w := fun _ _ _ _ => rfl
 obtain ⟨w1, hw1⟩ : ∃ w1, w1 = (w.alloc (.cells #[.slice a xs.length cap] 71)).alloc (.cells #[.int .u64 0, .int .u64 0] 180) := ⟨_, rfl⟩
 have k : Cel w1 w.heap.size [.slice a xs.length cap] 71 := by rw [hw1]; exact (Cel.new w _ _).alloc _
 have k1 : Cel w1 (w.heap.size + 1) [.int .u64 0, .int .u64 0] 180 := by
  rw [hw1]
  have := Cel.new (w.alloc (.cells #[.slice a xs.length cap] 71)) [.int .u64 0, .int .u64 0] 180
  simpa using this
 have bb : Below w.heap.size w w1 := by rw [hw1]; go_grown
 have HA := shut (fun i => at_any i _ _ xs ⟨w.heap.size, 0, none⟩ (k.cell 0) (hv.below bb))
 have el : ∀ x : Nat, IntKind.u64.wrap ((x : Int) * 2 ^ s) = ((shLo x s : Nat) : Int) := fun x => by rw [← cast_mul_pow, wrapMod]; rfl
 have eh : ∀ x : Nat, ((x : Int) / 2 ^ (64 - s)) = ((shHi x s : Nat) : Int) := fun x => by rw [← cast_div_pow]; rfl
 have o1 := or_swap (shHi x0 s) x1 s hs l1 (sh_facts (c := 0) hs l0 (Nat.pow_pos (by omega))).2.1
 have o2 := or_swap (shHi x1 s) x2 s hs l2 (sh_facts (c := 0) hs l1 (Nat.pow_pos (by omega))).2.1
 have E0 := shut e0
 have E1 := shut e1
 have E2 := shut e2
 have hs1 : (s : Int) ≤ 63 := by omega
 clear k hv e0 e1 e2 l0 l1 l2
 go_enter Tryz.func167, Tryz.ntmps167
 go_wp2_with fail
 rw [← hw1]
 clear hw1
 refine (HA.out (n - 3)).mono ?_
 rintro e w2 ⟨rfl, rfl⟩
 rw [E0.out]
 go_wp2_with fail
 refine (HA.out (n - 2)).mono ?_
 rintro e w3 ⟨rfl, rfl⟩
 rw [E1.out]
 go_wp2_with fail
 refine (HA.out (n - 1)).mono ?_
 rintro e w4 ⟨rfl, rfl⟩
 rw [E2.out]
 have c0 := k1.cell 0
 have c1 := k1.cell 1
 have f0 := k1.frozen 0
 have f1 := k1.frozen 1
 simp only [List.getElem?_cons_zero, List.getElem?_cons_succ] at c0 c1
 clear HA E0 E1 E2
 go_wp2
 go_region
 go_wp2
 exact post_a2 (p := 6) (by kernel_rfl) rfl rfl ((k1.set 0 _).set 1 _).drew ⟨rfl, ((bb.setCell (by simp) _).setCell (by simp) _).drew⟩

theorem lmZ_nat (xs : List Nat) (k : Nat) : lmZ xs (k : Int) = lm xs k := by unfold lmZ; rw [if_neg (by omega)]; rfl

/-- What the leading limbs are. -/
theorem leading_any (a : Option Addr) (cap : Nat) (xs : List Nat) (n s : Nat) (w : World) (hv : Rd w (.slice a xs.length cap) xs) (lx : M.Low B64 xs) (hl : xs.length ≤ n) (hn : 2 ≤ n) (hn1 : n ≤ 1000000) (hs : s ≤ 63) (hx : lm xs (n - 1) * 2 ^ s < B64) :
  Calls Tryz.prog 167 #[.slice a xs.length cap, .int .i64 (n : Nat), .int .i64 (s : Nat)] w fun e w' => ∃ p q : Nat, e = .returned (.agg #[.int .u64 (p : Nat), .int .u64 (q : Nat)]) ∧ p < B64 ∧ q < B64 ∧
   p + B64 * q = M.val B64 xs * 2 ^ s / B64 ^ (n - 2) ∧ Below w.heap.size w w' := by
 obtain ⟨x1, e1⟩ : ∃ x, lmZ xs ((n : Int) - 2) = x := ⟨_, rfl⟩
 obtain ⟨x2, e2⟩ : ∃ x, lmZ xs ((n : Int) - 1) = x := ⟨_, rfl⟩
 obtain ⟨x0, e0⟩ : ∃ x, lmZ xs ((n : Int) - 3) = x := ⟨_, rfl⟩
 have E1 : x1 = lm xs (n - 2) := by rw [← e1, show (n : Int) - 2 = ((n - 2 : Nat) : Int) by omega, lmZ_nat]
 have E2 : x2 = lm xs (n - 1) := by rw [← e2, show (n : Int) - 1 = ((n - 1 : Nat) : Int) by omega, lmZ_nat]
 have l1 : x1 < B64 := by rw [E1]; exact lm_lt B64_pos lx _
 have l2 : x2 < B64 := by rw [E2]; exact lm_lt B64_pos lx _
 have l0 : x0 < B64 := by
  rw [← e0]
  unfold lmZ
  split
  ·exact B64_pos
  ·exact lm_lt B64_pos lx _
 have hS : 0 < 2 ^ s := Nat.pow_pos (by omega)
 obtain ⟨-, g2, -, -, -⟩ := sh_facts (c := 0) hs l0 hS
 obtain ⟨f1, f2, f3, -, -⟩ := sh_facts hs l1 g2
 obtain ⟨k1, k2, k3, -, -⟩ := sh_facts hs l2 f2
 have hb : B64 = 2 ^ s * 2 ^ (64 - s) := by rw [← Nat.pow_add, show s + (64 - s) = 64 by omega]; rfl
 have hZ : 0 < 2 ^ (64 - s) := Nat.pow_pos (by omega)
 refine (leading_walk a cap xs n s x0 x1 x2 w hv (by omega) (by omega) hs e0 e1 e2 l0 l1 l2).mono ?_
 rintro e w' ⟨rfl, bb⟩
 refine ⟨_, _, rfl, f1, k1, ?_, bb⟩
 have z2 : shHi x2 s = 0 := by
  unfold shHi
  rw [Nat.div_eq_zero_iff]
  right
  rw [← E2, hb, Nat.mul_comm] at hx
  exact Nat.lt_of_mul_lt_mul_left hx
 rw [z2, Nat.mul_zero, Nat.add_zero] at k3
 have key : M.val B64 xs * 2 ^ s / B64 ^ (n - 2) = shHi x0 s + x1 * 2 ^ s + B64 * (x2 * 2 ^ s) := by
  have v1 := M.val_take_succ B64 xs (n - 2)
  have v2 := M.val_take_succ B64 xs (n - 1)
  rw [show n - 2 + 1 = n - 1 by omega] at v1
  rw [show n - 1 + 1 = n by omega, M.val_take_all _ _ _ hl] at v2
  have vE1 : xs.getD (n - 2) 0 = x1 := E1.symm
  have vE2 : xs.getD (n - 1) 0 = x2 := E2.symm
  rw [vE1] at v1
  rw [vE2, v1] at v2
  by_cases h2 : n = 2
  ·subst h2
   have z0 : x0 = 0 := by rw [← e0]; unfold lmZ; rw [if_pos (by omega)]
   have hh : shHi x0 s = 0 := by rw [z0]; exact Nat.zero_div _
   rw [v2, hh]
   simp only [Nat.sub_self, Nat.pow_zero, Nat.div_one, List.take_zero, M.val_nil, Nat.zero_add, Nat.one_mul, show 2 - 1 = 1 from rfl, Nat.pow_one]
   rw [Nat.add_mul, Nat.mul_assoc]
  ·have E0 : x0 = lm xs (n - 3) := by rw [← e0, show (n : Int) - 3 = ((n - 3 : Nat) : Int) by omega, lmZ_nat]
   have v0 := M.val_take_succ B64 xs (n - 3)
   rw [show n - 3 + 1 = n - 2 by omega, show xs.getD (n - 3) 0 = x0 from E0.symm] at v0
   have lL : M.val B64 (xs.take (n - 3)) < B64 ^ (n - 3) := M.val_lt_pow B64_pos (lx.take _) (by simp; omega)
   rw [v0] at v2
   have p1 : B64 ^ (n - 2) = B64 ^ (n - 3) * B64 := by rw [show n - 2 = n - 3 + 1 by omega, Nat.pow_succ]
   have p2 : B64 ^ (n - 1) = B64 ^ (n - 3) * B64 * B64 := by rw [show n - 1 = n - 3 + 1 + 1 by omega, Nat.pow_succ, Nat.pow_succ]
   rw [v2, p1, p2]
   exact M.lead hb hS hZ (Nat.pow_pos B64_pos) lL
 rw [key]
 have : B64 * (shO (shHi x1 s) x2 s) = B64 * (shHi x1 s + x2 * 2 ^ s) := by rw [k3]
 rw [this, Nat.mul_add]
 omega
end Go.Proofs.YtdbnkcimcpnpdaaGreatDoor
namespace Go.Proofs.YtdbnkcimcpnpdaaGreatDoor
open Go.RowKit

def stV (a b c d : Nat) : Value := .agg #[.int .u64 (a : Nat), .int .u64 (b : Nat), .int .u64 (c : Nat), .int .u64 (d : Nat)]

theorem post_s4 {fn : Func} {p : Tmp} {R : Ending → World → Prop} {a : Act} {w : World} {g : Nat} {x y z u : Value} (h : fn.results = #[.cell p 160]) (hp : a.tmps.getD p undef = .pointer (some ⟨g, 0, none⟩)) (hd : a.defers = [])
  (hc : Cel w g [x, y, z, u] 160) (hR : R (.returned (.agg #[x, y, z, u])) w) : bodyPost Tryz.prog fn R .ret a w := by
 refine ⟨hd, .agg #[x, y, z, u], ?_, hR⟩
 exact results_cell_row (P := Tryz.prog) h _ w g 160 #[x, y, z, u] (0, 0) _ hp hc Tryz.underlying160 rfl (by kernel_rfl)

set_option maxRecDepth 100000 in
set_option maxHeartbeats 4000000 in
theorem few_any (x y : Nat) (hx : x < B64) (hyx : y ≤ x) (w : World) :
  Calls Tryz.prog 168 #[.int .u64 (x : Nat), .int .u64 (y : Nat)] w fun e w' => ∃ a b c d p r : Nat, e = .returned (stV a b c d) ∧ M.Few x y a b c d p r ∧ b < 1073741824 ∧ d < 1073741824 ∧ Below w.heap.size w w' := by
 unfold stV
 unfold B64 at hx
 go_enter Tryz.func168, Tryz.ntmps168
 go_wp2
 obtain ⟨w0, hw0⟩ : ∃ w0, w0 = (w.alloc (.cells #[.int .u64 0, .int .u64 0, .int .u64 0, .int .u64 0] 160)).alloc (.cells #[.int .u64 1, .int .u64 0, .int .u64 0, .int .u64 1] 160) := ⟨_, rfl⟩
 have k0 : Cel w0 w.heap.size [.int .u64 0, .int .u64 0, .int .u64 0, .int .u64 0] 160 := by rw [hw0]; exact (Cel.new w _ _).alloc _
 have k1 : Cel w0 (w.heap.size + 1) [.int .u64 ((1 : Nat) : Int), .int .u64 ((0 : Nat) : Int), .int .u64 ((0 : Nat) : Int), .int .u64 ((1 : Nat) : Int)] 160 := by
  rw [hw0]
  have := Cel.new (w.alloc (.cells #[.int .u64 0, .int .u64 0, .int .u64 0, .int .u64 0] 160)) [.int .u64 1, .int .u64 0, .int .u64 0, .int .u64 1] 160
  simpa using this
 have b0 : Below w.heap.size w w0 := by rw [hw0]; go_grown
 rw [← hw0]
 clear hw0
 go_loopw [0, 1] (fun vx vy wr => ∃ a b c d p r : Nat, vx = .int .u64 p ∧ vy = .int .u64 r ∧ M.Few x y a b c d p r ∧ a < 1073741824 ∧ b < 1073741824 ∧ c < 1073741824 ∧ d < 1073741824 ∧ p ≤ x ∧ r ≤ p ∧
   Cel wr w.heap.size [.int .u64 0, .int .u64 0, .int .u64 0, .int .u64 0] 160 ∧ Cel wr (w.heap.size + 1) [.int .u64 (a : Nat), .int .u64 (b : Nat), .int .u64 (c : Nat), .int .u64 (d : Nat)] 160 ∧ Below w.heap.size w wr)
  (fun _ vy _ => (intOf vy).toNat)
 case atStart => exact ⟨1, 0, 0, 1, x, y, rfl, rfl, M.Few.zero x y, by omega, by omega, by omega, by omega, by omega, hyx, k0, k1, b0⟩
 case round =>
  clear k0 k1 b0
  obtain ⟨a, b, c, d, p, r, rfl, rfl, few, ha, hb, hc, hd, hp, hr, k0, k1, b0⟩ := hrel
  have e0 := k1.cell 0
  have e1 := k1.cell 1
  have e2 := k1.cell 2
  have e3 := k1.cell 3
  have z0 := k0.cell 0
  have z1 := k0.cell 1
  have z2 := k0.cell 2
  have z3 := k0.cell 3
  have f0 := k0.frozen 0
  have f1 := k0.frozen 1
  have f2 := k0.frozen 2
  have f3 := k0.frozen 3
  simp only [List.getElem?_cons_zero, List.getElem?_cons_succ] at e0 e1 e2 e3 z0 z1 z2 z3
  have FE := shut few
  by_cases h0 : r = 0
  ·go_wp2
   exact post_s4 (p := 4) (by kernel_rfl) rfl rfl ((((k0.set 0 _).set 1 _).set 2 _).set 3 _) ⟨a, b, c, d, p, r, rfl, FE.out, hb, hd, (((b0.setCell (by simp) _).setCell (by simp) _).setCell (by simp) _).setCell (by simp) _⟩
  ·obtain ⟨q, hq⟩ : ∃ q, p / r = q := ⟨_, rfl⟩
   obtain ⟨t, ht⟩ : ∃ t, p % r = t := ⟨_, rfl⟩
   have iq : IntKind.u64.wrap (Int.tdiv (p : Int) (r : Int)) = (q : Nat) := by
    rw [Int.tdiv_eq_ediv_of_nonneg (by omega), ← Int.natCast_ediv, hq]
    exact wrapIn q (by have := Nat.div_le_self p r; omega)
   have it : Int.tmod (p : Int) (r : Int) = (t : Nat) := by
    rw [Int.tmod_eq_emod_of_nonneg (by omega), ← Int.natCast_emod, ht]
   have hdm : p = q * r + t := by rw [← hq, ← ht, Nat.mul_comm]; exact (Nat.div_add_mod p r).symm
   have htr : t < r := by rw [← ht]; exact Nat.mod_lt _ (by omega)
   have HD := shut hdm
   have hr1 : ¬ (r : Int) = 0 := by omega
   have hr2 : ((r : Int) != 0) = true := by simpa using hr1
   clear hq ht hdm few
   have A := shut ha
   have B := shut hb
   have C := shut hc
   have D := shut hd
   have P := shut hp
   have X := shut hx
   have R := shut hr
   have T := shut htr
   have HYX := shut hyx
   clear ha hb hc hd hp hx hr htr hyx h0
   obtain ⟨qc, hqc⟩ : ∃ z, q * c = z := ⟨_, rfl⟩
   obtain ⟨qd, hqd⟩ : ∃ z, q * d = z := ⟨_, rfl⟩
   have iqc : (q : Int) * (c : Int) = (qc : Nat) := by rw [← hqc, Int.natCast_mul]
   have iqd : (q : Int) * (d : Int) = (qd : Nat) := by rw [← hqd, Int.natCast_mul]
   have QC := shut hqc
   have QD := shut hqd
   clear hqc hqd
   have kk : Cel wr (w.heap.size + 1) [.int .u64 (a : Nat), .int .u64 (b : Nat), .int .u64 (c : Nat), .int .u64 (d : Nat)] 160 := k1
   clear k1
   generalize hA : (a : Int) = aI at *
   generalize hB : (b : Int) = bI at *
   generalize hC : (c : Int) = cI at *
   generalize hD : (d : Int) = dI at *
   generalize hP : (p : Int) = pI at *
   generalize hR : (r : Int) = rI at *
   generalize hQ : (q : Int) = qI at *
   generalize hT : (t : Int) = tI at *
   generalize hQC : (qc : Int) = qcI at *
   generalize hQD : (qd : Int) = qdI at *
   have HA := shut hA
   have HB := shut hB
   have HC := shut hC
   have HD' := shut hD
   have HR := shut hR
   have HQ := shut hQ
   have HT := shut hT
   have HQC := shut hQC
   have HQD := shut hQD
   clear hA hB hC hD hP hR hQ hT hQC hQD
   by_cases hq1 : (1073741824 : Int) ≤ qI
   ·go_wp2
    go_region
    go_wp2
    exact post_s4 (p := 4) (by kernel_rfl) rfl rfl ((((k0.drew.set 0 _).set 1 _).set 2 _).set 3 _) ⟨a, b, c, d, p, r, by rw [HA.out, HB.out, HC.out, HD'.out], FE.out, B.out, D.out, (((b0.drew.setCell (by simp) _).setCell (by simp) _).setCell (by simp) _).setCell (by simp) _⟩
   ·have M1 : qcI ≤ 1152921502459363329 := by
     have m : q * c ≤ 1073741823 * 1073741823 := Nat.mul_le_mul (by have := HQ.out; omega) (by have := C.out; omega)
     rw [QC.out] at m
     have := HQC.out
     omega
    have M2 : qdI ≤ 1152921502459363329 := by
     have m : q * d ≤ 1073741823 * 1073741823 := Nat.mul_le_mul (by have := HQ.out; omega) (by have := D.out; omega)
     rw [QD.out] at m
     have := HQD.out
     omega
    have M3 : 0 ≤ qcI := by have := HQC.out; omega
    have M4 : 0 ≤ qdI := by have := HQD.out; omega
    have A1 : aI < 1073741824 := by have := A.out; have := HA.out; omega
    have A2 : 0 ≤ aI := by have := HA.out; omega
    have B1 : bI < 1073741824 := by have := B.out; have := HB.out; omega
    have B2 : 0 ≤ bI := by have := HB.out; omega
    have D1 : dI < 1073741824 := by have := D.out; have := HD'.out; omega
    have D2 : 0 ≤ dI := by have := HD'.out; omega
    have T1 : tI < rI := by have := T.out; have := HT.out; have := HR.out; omega
    have T2 : 0 ≤ tI := by have := HT.out; omega
    have R1 : rI ≤ 18446744073709551615 := by have := R.out; have := P.out; have := X.out; have := HR.out; omega
    have g0 := kk.frozen 0
    have g1 := kk.frozen 1
    have g2 := kk.frozen 2
    have g3 := kk.frozen 3
    by_cases hd' : 1073741824 ≤ bI + qdI
    ·-- a factor too great
     go_wp2
     go_region
     go_wp2
     go_region
     go_wp2
     exact post_s4 (p := 4) (by kernel_rfl) rfl rfl ((((k0.set 0 _).set 1 _).set 2 _).set 3 _).drew.drew ⟨a, b, c, d, p, r, by rw [HA.out, HB.out, HC.out, HD'.out], FE.out, B.out, D.out, ((((b0.setCell (by simp) _).setCell (by simp) _).setCell (by simp) _).setCell (by simp) _).drew.drew⟩
    by_cases ht' : tI < 2 * (bI + qdI)
    ·-- the rest is not sure
     go_wp2
     go_region
     go_wp2
     go_region
     go_wp2
     exact post_s4 (p := 4) (by kernel_rfl) rfl rfl ((((k0.set 0 _).set 1 _).set 2 _).set 3 _).drew.drew ⟨a, b, c, d, p, r, by rw [HA.out, HB.out, HC.out, HD'.out], FE.out, B.out, D.out, ((((b0.setCell (by simp) _).setCell (by simp) _).setCell (by simp) _).setCell (by simp) _).drew.drew⟩
    by_cases hy' : rI - tI < 2 * (dI + (bI + qdI))
    ·-- the quotient is not sure
     go_wp2
     go_region
     go_wp2
     go_region
     go_wp2
     exact post_s4 (p := 4) (by kernel_rfl) rfl rfl ((((k0.set 0 _).set 1 _).set 2 _).set 3 _).drew.drew ⟨a, b, c, d, p, r, by rw [HA.out, HB.out, HC.out, HD'.out], FE.out, B.out, D.out, ((((b0.setCell (by simp) _).setCell (by simp) _).setCell (by simp) _).setCell (by simp) _).drew.drew⟩
    have FS : Hid (M.Few x y c d (a + q * c) (b + q * d) r t) := by
     have e1 := HB.out
     have e2 := HQD.out
     have e3 := HD'.out
     have e4 := HT.out
     have e5 := HR.out
     refine FE.out.step HYX.out HD.out T.out ?_ ?_
     ·rw [QD.out]; omega
     ·rw [QD.out]; omega
    have N1 : Hid (a + q * c < 1073741824) := by
     have e1 := HB.out
     have e2 := HQD.out
     show _ < _
     have le : a + q * c ≤ b + q * d ∨ (a + q * c = 1 ∧ b = 0) := by
      rcases FE.out with ⟨h1, h2, h3, h4, -⟩ | ⟨-, h2, h3, h4, -⟩
      ·right; rw [h1, h3]; exact ⟨by simp, h2⟩
      ·left
       have := Nat.mul_le_mul_left q h3
       omega
     rw [QD.out] at le
     omega
    have N2 : Hid (b + q * d < 1073741824) := by
     have e1 := HB.out
     have e2 := HQD.out
     show _ < _
     rw [QD.out]
     omega
    go_wp2
    go_region
    go_wp2
    go_region
    go_wp2
    have ec : [Value.int .u64 cI, Value.int .u64 dI, Value.int .u64 (aI + qcI), Value.int .u64 (bI + qdI)] = [Value.int .u64 (c : Nat), Value.int .u64 (d : Nat), Value.int .u64 ((a + q * c : Nat) : Int), Value.int .u64 ((b + q * d : Nat) : Int)] := by
     rw [QC.out, QD.out, Int.natCast_add, Int.natCast_add, HA.out, HB.out, HC.out, HD'.out, HQC.out, HQD.out]
    refine ⟨⟨c, d, a + q * c, b + q * d, r, t, by rw [HR.out], by rw [HT.out], FS.out, C.out, D.out, N1.out, N2.out, Nat.le_trans R.out P.out, Nat.le_of_lt T.out,
     ((((k0.other (by omega) _ _).other (by omega) _ _).other (by omega) _ _).other (by omega) _ _).drew.drew, ?_, ((((b0.setCell (by simp) _).setCell (by simp) _).setCell (by simp) _).setCell (by simp) _).drew.drew⟩, by simp only [intOf]; omega⟩
    rw [← ec]
    exact ((((kk.set 0 _).set 1 _).set 2 _).set 3 _).drew.drew
end Go.Proofs.YtdbnkcimcpnpdaaGreatDoor
namespace Go.Proofs.YtdbnkcimcpnpdaaGreatDoor
open Go.RowKit

theorem boxes5 (w : World) (x0 x1 y0 y1 : Value) : ∃ w0, w0 = ((((w.alloc (.cells #[x0, x1] 24)).alloc (.cells #[y0, y1] 24)).alloc (.cells #[.bool false, .string { data := #[] }] 24)).alloc (.cells #[.bool false, .string { data := #[] }] 24)).alloc (.cells #[x0, x1, y0, y1] 24) ∧
  Cel w0 w.heap.size [x0, x1] 24 ∧ Cel w0 (w.heap.size + 1) [y0, y1] 24 ∧ Cel w0 (w.heap.size + 1 + 1) [.bool false, .string { data := #[] }] 24 ∧ Cel w0 (w.heap.size + 1 + 1 + 1) [.bool false, .string { data := #[] }] 24 ∧ Cel w0 (w.heap.size + 1 + 1 + 1 + 1) [x0, x1, y0, y1] 24 ∧ Below w.heap.size w w0 := by
 refine ⟨_, rfl, ((((Cel.new w [x0, x1] 24).alloc _).alloc _).alloc _).alloc _, ?_, ?_, ?_, ?_, by go_grown⟩
 ·have := (((Cel.new (w.alloc (.cells #[x0, x1] 24)) [y0, y1] 24).alloc (.cells #[.bool false, .string { data := #[] }] 24)).alloc (.cells #[.bool false, .string { data := #[] }] 24)).alloc (.cells #[x0, x1, y0, y1] 24)
  simpa using this
 ·have := ((Cel.new ((w.alloc (.cells #[x0, x1] 24)).alloc (.cells #[y0, y1] 24)) [.bool false, .string { data := #[] }] 24).alloc (.cells #[.bool false, .string { data := #[] }] 24)).alloc (.cells #[x0, x1, y0, y1] 24)
  simpa using this
 ·have := (Cel.new (((w.alloc (.cells #[x0, x1] 24)).alloc (.cells #[y0, y1] 24)).alloc (.cells #[.bool false, .string { data := #[] }] 24)) [.bool false, .string { data := #[] }] 24).alloc (.cells #[x0, x1, y0, y1] 24)
  simpa using this
 ·have := Cel.new ((((w.alloc (.cells #[x0, x1] 24)).alloc (.cells #[y0, y1] 24)).alloc (.cells #[.bool false, .string { data := #[] }] 24)).alloc (.cells #[.bool false, .string { data := #[] }] 24)) [x0, x1, y0, y1] 24
  simpa using this

theorem ediv_neg_nat (X Y : Nat) (hY : 0 < Y) : (-(X : Int)) / (Y : Int) = (if X % Y = 0 then -((X / Y : Nat) : Int) else -((X / Y + 1 : Nat) : Int)) ∧ (-(X : Int)) % (Y : Int) = (if X % Y = 0 then 0 else ((Y - X % Y : Nat) : Int)) := by
 have hd := Nat.div_add_mod X Y
 have hl := Nat.mod_lt X hY
 refine (Int.ediv_emod_unique (by omega)).2 ?_
 generalize X / Y = q at *
 generalize X % Y = r at *
 have e : (X : Int) = (Y : Int) * (q : Int) + (r : Int) := by rw [← hd]; simp
 by_cases h : r = 0
 ·subst h
  simp only [if_true]
  refine ⟨?_, by omega, by omega⟩
  rw [e, Int.mul_neg]; simp
 ·rw [if_neg h, if_neg h]
  refine ⟨?_, by omega, by omega⟩
  rw [e, Int.natCast_add, Int.mul_neg, Int.mul_add]
  have : ((Y - r : Nat) : Int) = (Y : Int) - (r : Int) := by omega
  rw [this]
  simp
  omega
/-- What Div tells: the quotient. -/
theorem sgn_ediv (a b : Bool) (X Y : Nat) (hY : 0 < Y) : sgn a X / sgn b Y = sgn (a != b) (if a = true ∧ X % Y ≠ 0 then X / Y + 1 else X / Y) ∧ sgn a X % sgn b Y = sgn false (if a = true ∧ X % Y ≠ 0 then Y - X % Y else X % Y) := by
 have h := ediv_neg_nat X Y hY
 cases a <;> cases b
 ·simp [sgn]
 ·simp [sgn, Int.ediv_neg]
 ·rw [show sgn true X = -(X : Int) from rfl, show sgn false Y = (Y : Int) from rfl, h.1, h.2]
  by_cases h0 : X % Y = 0
  ·simp [sgn, h0]
  ·simp [sgn, h0]
 ·rw [show sgn true X = -(X : Int) from rfl, show sgn true Y = -(Y : Int) from rfl, Int.ediv_neg, Int.emod_neg, h.1, h.2]
  by_cases h0 : X % Y = 0
  ·simp [sgn, h0]
  ·simp [sgn, h0]

end Go.Proofs.YtdbnkcimcpnpdaaGreatDoor
namespace Go.Proofs.YtdbnkcimcpnpdaaGreatDoor
open Go.RowKit

theorem none_any (a b c d : Nat) (w : World) :
  Calls Tryz.prog 145 #[stV a b c d] w fun e w' => e = .returned (.bool (decide (b = 0))) ∧ Below w.heap.size w w' := by
 unfold stV
 have HB : Hid ((((b : Nat) : Int) == 0) = decide (b = 0)) := by show _ = _; rw [Bool.eq_iff_iff]; simp
 go_enter Tryz.func145, Tryz.ntmps145
 go_wp2
 go_ret
 exact ⟨by show Ending.returned (.bool ((b : Int) == 0)) = _; rw [HB.out], by go_grown⟩

theorem prod30 {a b : Nat} (ha : a < 1073741824) (hb : b < 1073741824) : a * b ≤ 1152921502459363329 := Nat.le_trans (Nat.mul_le_mul (show a ≤ 1073741823 by omega) (show b ≤ 1073741823 by omega)) (by decide)

set_option maxRecDepth 100000 in
set_option maxHeartbeats 4000000 in
theorem after_any (a b c d a' b' c' d' : Nat) (w : World) (ha : a < 1073741824) (hb : b < 1073741824) (hc : c < 1073741824) (hd : d < 1073741824) (ha' : a' < 1073741824) (hb' : b' < 1073741824) (hc' : c' < 1073741824) (hd' : d' < 1073741824) :
  Calls Tryz.prog 169 #[stV a b c d, stV a' b' c' d'] w fun e w' => e = .returned (stV (a * a' + b * c') (a * b' + b * d') (c * a' + d * c') (c * b' + d * d')) ∧ Below w.heap.size w w' := by
 unfold stV
 have p1 := prod30 ha ha'
 have p2 := prod30 hb hc'
 have p3 := prod30 ha hb'
 have p4 := prod30 hb hd'
 have p5 := prod30 hc ha'
 have p6 := prod30 hd hc'
 have p7 := prod30 hc hb'
 have p8 := prod30 hd hd'
 simp only [Int.natCast_add, Int.natCast_mul]
 have q : ∀ x y : Nat, x * y ≤ 1152921502459363329 → (x : Int) * (y : Int) ≤ 1152921502459363329 ∧ 0 ≤ (x : Int) * (y : Int) := fun x y h => by rw [← Int.natCast_mul]; omega
 replace p1 := q _ _ p1
 replace p2 := q _ _ p2
 replace p3 := q _ _ p3
 replace p4 := q _ _ p4
 replace p5 := q _ _ p5
 replace p6 := q _ _ p6
 replace p7 := q _ _ p7
 replace p8 := q _ _ p8
 clear q ha hb hc hd ha' hb' hc' hd'
 generalize (a : Int) = A at *
 generalize (b : Int) = B at *
 generalize (c : Int) = C at *
 generalize (d : Int) = D at *
 generalize (a' : Int) = A' at *
 generalize (b' : Int) = B' at *
 generalize (c' : Int) = C' at *
 generalize (d' : Int) = D' at *
 generalize h1 : A * A' = m1 at *
 generalize h2 : B * C' = m2 at *
 generalize h3 : A * B' = m3 at *
 generalize h4 : B * D' = m4 at *
 generalize h5 : C * A' = m5 at *
 generalize h6 : D * C' = m6 at *
 generalize h7 : C * B' = m7 at *
 generalize h8 : D * D' = m8 at *
 obtain ⟨p1, r1⟩ := p1
 obtain ⟨p2, r2⟩ := p2
 obtain ⟨p3, r3⟩ := p3
 obtain ⟨p4, r4⟩ := p4
 obtain ⟨p5, r5⟩ := p5
 obtain ⟨p6, r6⟩ := p6
 obtain ⟨p7, r7⟩ := p7
 obtain ⟨p8, r8⟩ := p8
 go_enter Tryz.func169, Tryz.ntmps169
 go_wp2
 refine post_s4 (p := 4) (g := w.heap.size + 1 + 1) (by kernel_rfl) rfl rfl (x := .int .u64 (m1 + m2)) (y := .int .u64 (m3 + m4)) (z := .int .u64 (m5 + m6)) (u := .int .u64 (m7 + m8)) ?_ ⟨rfl, by go_grown⟩
 have := Cel.new ((w.alloc (.cells #[.int .u64 A, .int .u64 B, .int .u64 C, .int .u64 D] 160)).alloc (.cells #[.int .u64 A', .int .u64 B', .int .u64 C', .int .u64 D'] 160)) [.int .u64 (m1 + m2), .int .u64 (m3 + m4), .int .u64 (m5 + m6), .int .u64 (m7 + m8)] 160
 simpa using this
end Go.Proofs.YtdbnkcimcpnpdaaGreatDoor
namespace Go.Proofs.YtdbnkcimcpnpdaaGreatDoor
open Go.RowKit Go.Shelf

/-- The decimal digits, highest first; none of 0. -/
def dt (n : Nat) : List Nat := ((M.digs 10 n).map (48 + ·)).reverse
theorem dt_pos {n : Nat} (h : 0 < n) : dt n = dt (n / 10) ++ [48 + n % 10] := by
 unfold dt
 rw [M.digs_pos (by omega) h, List.map_cons, List.reverse_cons]

theorem dt_len {n k : Nat} (h : n < 256 ^ k) : (dt n).length ≤ 3 * k := by
 unfold dt
 rw [List.length_reverse, List.length_map]
 refine M.digs_len_of_lt (by omega) (Nat.lt_of_lt_of_le h ?_)
 rw [Nat.pow_mul]
 exact Nat.pow_le_pow_left (by decide) k
theorem dt_size (s : ByteArray) (k : Nat) (h : s.size ≤ k) : (dt (natOf s)).length ≤ 3 * k := dt_len (Nat.lt_of_lt_of_le (natOf_lt s) (Nat.pow_le_pow_right (by omega) h))
theorem strB_size (l : List Nat) : (strB l).size = l.length := by simp [strB, ByteArray.size]
theorem strB_cons (x : Nat) (l : List Nat) : strB (x :: l) = strB [x] ++ strB l := by
 apply ByteArray.ext
 simp [strB, ByteArray.data_append]
theorem strB_ne {l : List Nat} (h : l ≠ []) : (strB l).toList.isEmpty = false := by
 cases l with
 | nil => exact absurd rfl h
 | cons x l => rw [ByteArray.toList_eq]; rfl
end Go.Proofs.YtdbnkcimcpnpdaaGreatDoor
namespace Go.Proofs.YtdbnkcimcpnpdaaGreatDoor
open Go.RowKit

end Go.Proofs.YtdbnkcimcpnpdaaGreatDoor
namespace Go.Proofs.YtdbnkcimcpnpdaaGreatDoor
open Go.RowKit

end Go.Proofs.YtdbnkcimcpnpdaaGreatDoor
namespace Go.Proofs.YtdbnkcimcpnpdaaGreatDoor
open Go.RowKit

theorem boxRow (w : World) (m : Nat) : ∃ w0, w0 = (w.alloc (.cells #[.bool false, .string { data := #[] }] 24)).alloc (.cells #[.int .u64 (m : Nat)] 73) ∧
  Cel w0 w.heap.size [.bool false, .string { data := #[] }] 24 ∧ Rd w0 (.slice (some ⟨w.heap.size + 1, 0, none⟩) 1 1) [m] ∧ Below w.heap.size w w0 := by
 refine ⟨_, rfl, (Cel.new w _ 24).alloc _, rd1 _ (by simp) m, by go_grown⟩
set_option maxHeartbeats 1000000 in
theorem zof_any (n : Int) (h1 : -9223372036854775808 ≤ n) (h2 : n < 9223372036854775808) (w : World) :
  Calls Tryz.prog 76 #[.int .i64 n] w fun e w' => e = .returned (zI n) ∧ Below w.heap.size w w' := by
 obtain ⟨m, hm⟩ : ∃ m : Nat, m = n.natAbs := ⟨_, rfl⟩
 have hT : ∀ (neg : Bool) (v : Value) (wx : World), neg = decide (n < 0) → Rd wx v [m] → Calls Tryz.prog 86 #[.agg #[.bool neg, v]] wx fun e w' => e = .returned (zI n) ∧ Below wx.heap.size wx w' := fun neg v wx hn hr => by
  have := tell_any neg v [m] wx hr (low_of_all (by simp; unfold B64; omega)) (by simp)
  have e : sgn neg (M.val B64 [m]) = n := by
   rw [hn, M.val_cons, M.val_nil]
   unfold sgn
   by_cases h : n < 0
   ·simp [h]; omega
   ·simp [h]; omega
  rwa [e] at this
 have HT := shut hT
 clear hT
 generalize hR : zI n = R at *
 obtain ⟨za, zb, rfl⟩ : ∃ a b, R = .agg #[.bool a, .string b] := ⟨_, _, hR.symm⟩
 clear hR
 by_cases hn : n < 0
 ·have g1 : IntKind.u64.wrap n = n + 18446744073709551616 := by simp only [IntKind.wrap_u64]; omega
  have g2 : IntKind.u64.wrap (-(n + 18446744073709551616)) = (m : Int) := by simp only [IntKind.wrap_u64]; omega
  go_enter Tryz.func76, Tryz.ntmps76
  go_wp2_with fail
  rw [← hm]
  obtain ⟨w0, hw0, k0, r0, hb0⟩ := boxRow w m
  rw [← hw0]
  clear hw0
  refine (HT.out true _ w0 (by simp [hn]) r0).mono ?_
  rintro e w1 ⟨rfl, hb⟩
  have m2 := k0.below hb
  have bb := Below.after hb0 hb
  have e0 := cel2_0 m2
  have e1 := cel2_1 m2
  have f0 := m2.frozen 0
  have f1 := m2.frozen 1
  go_wp2
  exact post_z (p := 2) (by kernel_rfl) rfl rfl ((m2.set 0 _).set 1 _) ⟨rfl, (bb.setCell (by simp) _).setCell (by simp) _⟩
 ·have g0 : n = (m : Int) := by omega
  clear hm
  subst g0
  have g1 : IntKind.u64.wrap (m : Int) = (m : Int) := by simp only [IntKind.wrap_u64]; omega
  go_enter Tryz.func76, Tryz.ntmps76
  go_wp2_with fail
  obtain ⟨w0, hw0, k0, r0, hb0⟩ := boxRow w m
  rw [← hw0]
  clear hw0
  refine (HT.out false _ w0 (by simp) r0).mono ?_
  rintro e w1 ⟨rfl, hb⟩
  have m2 := k0.below hb
  have bb := Below.after hb0 hb
  have e0 := cel2_0 m2
  have e1 := cel2_1 m2
  have f0 := m2.frozen 0
  have f1 := m2.frozen 1
  go_wp2
  exact post_z (p := 2) (by kernel_rfl) rfl rfl ((m2.set 0 _).set 1 _) ⟨rfl, (bb.setCell (by simp) _).setCell (by simp) _⟩
end Go.Proofs.YtdbnkcimcpnpdaaGreatDoor
namespace Go.Proofs.YtdbnkcimcpnpdaaGreatDoor
open Go.RowKit

set_option maxRecDepth 100000 in
set_option maxHeartbeats 1000000 in
theorem make0_any (neg : Bool) (va : Value) (xs : List Nat) (w : World) (ha : Rd w va xs) (la : M.Low D32 xs) (hx : xs.length ≤ 100000) :
  Calls Tryz.prog 66 #[.bool neg, va] w fun e w' => e = .returned (zI (sgn neg (M.val D32 xs))) ∧ Below w.heap.size w w' := by
 rw [zI_sgn]
 have H := shut (fun w0 h0 => rnat_any va xs w0 h0 la hx)
 have HE := shut (strOf_empty (M.val D32 xs))
 generalize strOf (M.val D32 xs) = s at *
 have ha0 := ha
 obtain ⟨a, ca, rfl, -, -⟩ := ha
 go_enter Tryz.func66, Tryz.ntmps66
 go_wp2_with fail
 obtain ⟨w0, hw0⟩ : ∃ w0, w0 = w.alloc (.cells #[.bool false, .string { data := #[] }] 24) := ⟨_, rfl⟩
 have k2 : Cel w0 w.heap.size [.bool false, .string { data := #[] }] 24 := by rw [hw0]; exact Cel.new w _ _
 have hb0 : Below w.heap.size w w0 := by rw [hw0]; exact (Below.refl _ _).alloc (Nat.le_refl _) _
 rw [← hw0]
 clear hw0
 refine (H.out w0 (ha0.below hb0)).mono ?_
 rintro e w1 ⟨rfl, hb⟩
 have k2' := k2.below hb
 have bb := Below.after hb0 hb
 have c1 := cel2_0 k2'
 have c2 := cel2_1 k2'
 have f1 := k2'.frozen 0
 have f2 := k2'.frozen 1
 clear H HE
 cases neg
 ·go_wp2
  exact post_z (p := 4) (by kernel_rfl) rfl rfl ((k2'.set 0 _).set 1 _) ⟨rfl, (bb.setCell (by simp) _).setCell (by simp) _⟩
 ·go_wp2
  exact post_z (p := 4) (by kernel_rfl) rfl rfl ((k2'.set 0 _).set 1 _) ⟨rfl, (bb.setCell (by simp) _).setCell (by simp) _⟩

theorem split_one {m : Nat} (hm : m < B64) (v : Value) (w : World) (h : Rd w v [m]) :
  Calls Tryz.prog 67 #[v] w fun e w' => ∃ v, e = .returned v ∧ Rd w' v (M.digs D32 m) ∧ Below w.heap.size w w' := by
 have := split_any v [m] w h (low_of_all (by simpa using hm)) (by simp)
 rwa [show M.val B64 [m] = m from by simp [M.val_cons, M.val_nil]] at this
theorem make0_dig (neg : Bool) (m : Nat) (hm : m < B64) (v : Value) (w : World) (h : Rd w v (M.digs D32 m)) :
  Calls Tryz.prog 66 #[.bool neg, v] w fun e w' => e = .returned (zI (sgn neg m)) ∧ Below w.heap.size w w' := by
 have hl : (M.digs D32 m).length ≤ 2 := M.digs_len_of_lt D32_two (by rw [show D32 ^ 2 = B64 from by rw [Nat.pow_two, D32_sq]]; exact hm)
 have := make0_any neg v _ w h (M.Low.digs D32_two _) (by omega)
 rwa [M.val_digs D32_two] at this

set_option maxRecDepth 100000 in
set_option maxHeartbeats 1000000 in
theorem rof_any (n : Int) (h1 : -9223372036854775808 ≤ n) (h2 : n < 9223372036854775808) (w : World) :
  Calls Tryz.prog 31 #[.int .i64 n] w fun e w' => e = .returned (zI n) ∧ Below w.heap.size w w' := by
 obtain ⟨m, hm⟩ : ∃ m : Nat, m = n.natAbs := ⟨_, rfl⟩
 have hmB : m < B64 := by unfold B64; omega
 have HS := shut (fun v w h => split_one hmB v w h)
 by_cases hn : n < 0
 ·have HM := shut (fun v w h => make0_dig true m hmB v w h)
  rw [show sgn true m = n from by simp [sgn]; omega] at HM
  generalize hR : zI n = R at *
  obtain ⟨za, zb, rfl⟩ : ∃ a b, R = .agg #[.bool a, .string b] := ⟨_, _, hR.symm⟩
  clear hR hmB
  have g1 : IntKind.i64.wrap (n + 1) = n + 1 := by simp only [IntKind.wrap_i64]; omega
  have g2 : IntKind.i64.wrap (-(n + 1)) = -(n + 1) := by simp only [IntKind.wrap_i64]; omega
  have g3 : IntKind.u64.wrap (-(n + 1)) = -(n + 1) := by simp only [IntKind.wrap_u64]; omega
  have g4 : IntKind.u64.wrap (-(n + 1) + 1) = (m : Int) := by simp only [IntKind.wrap_u64]; omega
  clear hm
  go_enter Tryz.func31, Tryz.ntmps31
  go_wp2_with fail
  obtain ⟨w0, hw0, k0, r0, hb0⟩ := boxRow w m
  rw [← hw0]
  clear hw0
  refine (HS.out _ w0 r0).mono ?_
  rintro e w1 ⟨v, rfl, rv, hb1⟩
  obtain ⟨av, cv, rfl, -, -⟩ := id rv
  go_wp2_with fail
  refine (HM.out _ w1 rv).mono ?_
  rintro e w2 ⟨rfl, hb2⟩
  have bb2 := Below.after hb1 hb2
  have m2 := k0.below bb2
  have bb := Below.after hb0 bb2
  have e0 := cel2_0 m2
  have e1 := cel2_1 m2
  have f0 := m2.frozen 0
  have f1 := m2.frozen 1
  go_wp2
  exact post_z (p := 2) (by kernel_rfl) rfl rfl ((m2.set 0 _).set 1 _) ⟨rfl, (bb.setCell (by simp) _).setCell (by simp) _⟩
 ·have g0 : n = (m : Int) := by omega
  have HM := shut (fun v w h => make0_dig false m hmB v w h)
  rw [show sgn false m = n from by simp [sgn]; omega] at HM
  generalize hR : zI n = R at *
  obtain ⟨za, zb, rfl⟩ : ∃ a b, R = .agg #[.bool a, .string b] := ⟨_, _, hR.symm⟩
  clear hR hmB hm
  subst g0
  have g1 : IntKind.u64.wrap (m : Int) = (m : Int) := by simp only [IntKind.wrap_u64]; omega
  go_enter Tryz.func31, Tryz.ntmps31
  go_wp2_with fail
  obtain ⟨w0, hw0, k0, r0, hb0⟩ := boxRow w m
  rw [← hw0]
  clear hw0
  refine (HS.out _ w0 r0).mono ?_
  rintro e w1 ⟨v, rfl, rv, hb1⟩
  obtain ⟨av, cv, rfl, -, -⟩ := id rv
  go_wp2_with fail
  refine (HM.out _ w1 rv).mono ?_
  rintro e w2 ⟨rfl, hb2⟩
  have bb2 := Below.after hb1 hb2
  have m2 := k0.below bb2
  have bb := Below.after hb0 bb2
  have e0 := cel2_0 m2
  have e1 := cel2_1 m2
  have f0 := m2.frozen 0
  have f1 := m2.frozen 1
  go_wp2
  exact post_z (p := 2) (by kernel_rfl) rfl rfl ((m2.set 0 _).set 1 _) ⟨rfl, (bb.setCell (by simp) _).setCell (by simp) _⟩
end Go.Proofs.YtdbnkcimcpnpdaaGreatDoor
namespace Go.Proofs.YtdbnkcimcpnpdaaGreatDoor
open Go.RowKit

set_option maxRecDepth 100000 in
set_option maxHeartbeats 1000000 in
theorem rcheck_any (n : Bool) (s : ByteArray) (w : World) :
  Calls Tryz.prog 55 #[.agg #[.bool n, .string s]] w fun e w' => e = .returned (.int .i64 (chk n s : Nat)) ∧ Below w.heap.size w w' := by
 by_cases h1 : 32000 < s.size
 ·have HC : Hid (chk n s = 5) := by show _ = _; unfold chk; rw [if_pos h1]
  go_enter Tryz.func55, Tryz.ntmps55
  go_wp2
  go_ret
  exact ⟨by rw [HC.out]; rfl, by go_grown⟩
 ·by_cases hs : 0 < s.size
  ·have g4 := toList_ne hs
   have g5 : s.toList.isEmpty = false := by simpa using g4
   by_cases h0 : lm (byts s) 0 = 0
   ·have HC : Hid (chk n s = 1) := by show _ = _; unfold chk; rw [if_neg h1, if_pos (Or.inr ⟨hs, h0⟩)]
    have HI := shut (fun w => isNat_no s w hs h0)
    clear h0
    go_enter Tryz.func55, Tryz.ntmps55
    go_wp2_with fail
    refine (HI.out _).mono ?_
    rintro e w1 ⟨rfl, hw⟩
    subst hw
    go_wp2
    go_ret
    exact ⟨by rw [HC.out]; rfl, by go_grown⟩
   ·have HC : Hid (chk n s = 0) := by
     show _ = _
     unfold chk
     rw [if_neg h1, if_neg (by rintro (⟨a, _⟩ | ⟨_, b⟩); · omega
                               ·exact h0 b)]
    have HI := shut (fun w => isNat_yes s w (fun _ => h0))
    clear h0
    cases n <;>
    ·go_enter Tryz.func55, Tryz.ntmps55
     go_wp2_with fail
     refine (HI.out _).mono ?_
     rintro e w1 ⟨rfl, hw⟩
     subst hw
     go_wp2
     go_ret
     exact ⟨by rw [HC.out]; rfl, by go_grown⟩
  ·have g3 : s = ByteArray.empty := ByteArray.size_eq_zero_iff.1 (by omega)
   subst g3
   have HI := shut (fun w => isNat_yes ByteArray.empty w (fun h => absurd h hs))
   cases n with
   | true =>
    have HC : Hid (chk true ByteArray.empty = 1) := by show _ = _; rfl
    go_enter Tryz.func55, Tryz.ntmps55
    go_wp2_with fail
    refine (HI.out _).mono ?_
    rintro e w1 ⟨rfl, hw⟩
    subst hw
    go_wp2
    go_ret
    exact ⟨by rw [HC.out]; rfl, by go_grown⟩
   | false =>
    have HC : Hid (chk false ByteArray.empty = 0) := by show _ = _; rfl
    go_enter Tryz.func55, Tryz.ntmps55
    go_wp2_with fail
    refine (HI.out _).mono ?_
    rintro e w1 ⟨rfl, hw⟩
    subst hw
    go_wp2
    go_ret
    exact ⟨by rw [HC.out]; rfl, by go_grown⟩

theorem rb2 (w : World) (x0 x1 y0 y1 : Value) : ∃ w0, w0 = (w.alloc (.cells #[x0, x1] 24)).alloc (.cells #[y0, y1] 24) ∧
  Cel w0 w.heap.size [x0, x1] 24 ∧ Cel w0 (w.heap.size + 1) [y0, y1] 24 ∧ Below w.heap.size w w0 := by
 refine ⟨_, rfl, (Cel.new w [x0, x1] _).alloc _, ?_, by go_grown⟩
 have := Cel.new (w.alloc (.cells #[x0, x1] 24)) [y0, y1] 24
 simpa using this
/-- Two numbers in boxes, and a cell for the answer. -/
theorem rb3 (w : World) (x0 x1 y0 y1 : Value) : ∃ w0, w0 = ((w.alloc (.cells #[x0, x1] 24)).alloc (.cells #[y0, y1] 24)).alloc (.cells #[.bool false, .string { data := #[] }] 24) ∧
  Cel w0 w.heap.size [x0, x1] 24 ∧ Cel w0 (w.heap.size + 1) [y0, y1] 24 ∧ Cel w0 (w.heap.size + 1 + 1) [.bool false, .string { data := #[] }] 24 ∧ Below w.heap.size w w0 := by
 refine ⟨_, rfl, ((Cel.new w [x0, x1] _).alloc _).alloc _, ?_, ?_, by go_grown⟩
 ·have := (Cel.new (w.alloc (.cells #[x0, x1] 24)) [y0, y1] 24).alloc (.cells #[.bool false, .string { data := #[] }] 24)
  simpa using this
 ·have := Cel.new ((w.alloc (.cells #[x0, x1] 24)).alloc (.cells #[y0, y1] 24)) [.bool false, .string { data := #[] }] 24
  simpa using this

theorem D32_pow (k : Nat) : D32 ^ k = 256 ^ (4 * k) := by rw [Nat.pow_mul]; rfl
theorem natOf_lt4 {s : ByteArray} (k : Nat) (h : s.size ≤ 4 * k) : natOf s < D32 ^ k := Nat.lt_of_lt_of_le (natOf_lt s) (by rw [D32_pow]; exact Nat.pow_le_pow_right (by omega) h)
theorem dlen {V K : Nat} (h : V < D32 ^ K) : (M.digs D32 V).length ≤ K := M.digs_len_of_lt D32_two h
theorem radd_dig {X Y K : Nat} (hK : K ≤ 50000) (hx : X < D32 ^ K) (hy : Y < D32 ^ K) (v0 v1 : Value) (w : World) (r0 : Rd w v0 (M.digs D32 X)) (r1 : Rd w v1 (M.digs D32 Y)) :
  Calls Tryz.prog 65 #[v0, v1] w fun e w' => ∃ v, e = .returned v ∧ Rd w' v (M.digs D32 (X + Y)) ∧ Below w.heap.size w w' := by
 have := radd_any v0 v1 _ _ w r0 r1 (M.Low.digs D32_two _) (M.Low.digs D32_two _) (Nat.le_trans (dlen hx) (by omega)) (Nat.le_trans (dlen hy) (by omega))
 rwa [M.val_digs D32_two, M.val_digs D32_two] at this
theorem digs_mono {b X Y : Nat} (hb : 2 ≤ b) (h : Y ≤ X) : (M.digs b Y).length ≤ (M.digs b X).length := by
 refine M.digs_len_of_lt hb (Nat.lt_of_le_of_lt h ?_)
 have := M.val_lt (by omega) (M.Low.digs hb X)
 rwa [M.val_digs hb] at this
theorem rsub_dig {X Y K : Nat} (hK : K ≤ 50000) (hx : X < D32 ^ K) (hle : Y ≤ X) (v0 v1 : Value) (w : World) (r0 : Rd w v0 (M.digs D32 X)) (r1 : Rd w v1 (M.digs D32 Y)) :
  Calls Tryz.prog 81 #[v0, v1] w fun e w' => ∃ v, e = .returned v ∧ Rd w' v (M.digs D32 (X - Y)) ∧ Below w.heap.size w w' := by
 have := rsub_any v0 v1 _ _ w r0 r1 (M.Low.digs D32_two _) (M.Low.digs D32_two _) (Nat.le_trans (dlen hx) (by omega)) (digs_mono D32_two hle) (by rw [M.val_digs D32_two, M.val_digs D32_two]; exact hle)
 rwa [M.val_digs D32_two, M.val_digs D32_two] at this
theorem rcmp_dig {X Y K : Nat} (hK : K ≤ 50000) (hx : X < D32 ^ K) (v0 v1 : Value) (w : World) (r0 : Rd w v0 (M.digs D32 X)) (r1 : Rd w v1 (M.digs D32 Y)) :
  Calls Tryz.prog 80 #[v0, v1] w fun e w' => e = .returned (.int .i64 (cmpN X Y)) ∧ Below w.heap.size w w' := by
 have := rcmp_any D32 D32_pos v0 v1 _ _ w r0 r1 (M.Low.digs D32_two _) (M.Low.digs D32_two _) (M.trim_digs D32_two _) (M.trim_digs D32_two _) (Nat.le_trans (dlen hx) (by omega))
 rwa [M.val_digs D32_two, M.val_digs D32_two] at this
theorem rmul_dig {X Y K : Nat} (hK : K ≤ 50000) (hx : X < D32 ^ K) (hy : Y < D32 ^ K) (v0 v1 : Value) (w : World) (r0 : Rd w v0 (M.digs D32 X)) (r1 : Rd w v1 (M.digs D32 Y)) :
  Calls Tryz.prog 64 #[v0, v1] w fun e w' => ∃ v, e = .returned v ∧ Rd w' v (M.digs D32 (X * Y)) ∧ Below w.heap.size w w' := by
 have := rmul_any v0 v1 _ _ w r0 r1 (M.Low.digs D32_two _) (M.Low.digs D32_two _) (Nat.le_trans (dlen hx) (by omega)) (Nat.le_trans (dlen hy) (by omega))
 rwa [M.val_digs D32_two, M.val_digs D32_two] at this
theorem rdiv_dig {X Y K : Nat} (hK : K ≤ 50000) (hx : X < D32 ^ K) (hy : Y < D32 ^ K) (h0 : 0 < Y) (v0 v1 : Value) (w : World) (r0 : Rd w v0 (M.digs D32 X)) (r1 : Rd w v1 (M.digs D32 Y)) :
  Calls Tryz.prog 70 #[v0, v1] w fun e w' => ∃ q r, e = .returned (.tuple #[q, r]) ∧ Rd w' q (M.digs D32 (X / Y)) ∧ Rd w' r (M.digs D32 (X % Y)) ∧ Below w.heap.size w w' := by
 have := rdiv_any v0 v1 _ _ w r0 r1 (M.Low.digs D32_two _) (M.Low.digs D32_two _) (M.trim_digs D32_two _) (digs_pos D32_two (by omega)) (Nat.le_trans (dlen hx) (by omega)) (Nat.le_trans (dlen hy) (by omega))
 rwa [M.val_digs D32_two, M.val_digs D32_two] at this
theorem make0_val (neg : Bool) {V K : Nat} (hK : K ≤ 100000) (hV : V < D32 ^ K) (v : Value) (w : World) (h : Rd w v (M.digs D32 V)) :
  Calls Tryz.prog 66 #[.bool neg, v] w fun e w' => e = .returned (zI (sgn neg V)) ∧ Below w.heap.size w w' := by
 have := make0_any neg v _ w h (M.Low.digs D32_two _) (Nat.le_trans (dlen hV) hK)
 rwa [M.val_digs D32_two] at this
end Go.Proofs.YtdbnkcimcpnpdaaGreatDoor
