/-
  limb.divideLong: what its loop holds.
  math/bits.Div64 whole; limb.divideShort.
  limb.guessLimb.
  limb.guessLimb whole.
  limb.shiftedUp.
-/
import Derived.Test.YtnplifkgeeicjaaGreatDoorU10
import Derived.Test.YtnplifkgeeicjaaGreatDoorU15
set_option maxRecDepth 100000
set_option maxHeartbeats 2000000
namespace Go.Proofs.YtnplifkgeeicjaaGreatDoor
open Go.RowKit
theorem divisor_of {ys zs : List Nat} {n1 s : Nat} (lb : M.Low B64 ys) (hn : ys.length = n1 + 1) (hn1 : 1 ≤ n1) (lz : M.Low B64 zs) (nz : zs.length = n1 + 1 + 1) (vz : M.val B64 zs = M.val B64 ys * 2 ^ s) (hs : s ≤ 63)
  (h1 : 9223372036854775808 ≤ lm ys n1 * 2 ^ s) (h2 : lm ys n1 * 2 ^ s < 18446744073709551616) :
  ∃ d0 be d1, zs = (d0 ++ [be, d1]) ++ [0] ∧ d0.length + 1 = n1 ∧ M.Low B64 d0 ∧ be < B64 ∧ d1 < B64 ∧ B64 ≤ 2 * d1 ∧ M.val B64 (d0 ++ [be, d1]) = M.val B64 ys * 2 ^ s := by
 have eB : B64 = 2 ^ s * 2 ^ (64 - s) := by rw [← Nat.pow_add, show s + (64 - s) = 64 by omega]; rfl
 have hS : 0 < 2 ^ s := Nat.pow_pos (by omega)
 have hy : M.val B64 ys = M.val B64 (ys.take n1) + B64 ^ n1 * lm ys n1 := by
  have := M.val_take_succ B64 ys n1
  rw [M.val_take_all _ _ _ (by omega)] at this
  exact this
 have hR : M.val B64 (ys.take n1) < B64 ^ n1 := M.val_lt_pow B64_pos (lb.take n1) (by simp; omega)
 obtain ⟨z1, e0, rfl⟩ := L.last1 zs (by intro h; subst h; simp at nz)
 have nz1 : z1.length = n1 + 1 := by simp at nz; omega
 have hlt : M.val B64 ys * 2 ^ s < B64 ^ n1 * B64 := by rw [hy]; exact L.shift_lt eB hR h2 hS
 rw [M.val_snoc, nz1, Nat.pow_succ] at vz
 have he : e0 = 0 := L.top_zero (by rw [vz]; exact hlt)
 subst he
 rw [Nat.mul_zero, Nat.add_zero] at vz
 obtain ⟨d0, be, d1, rfl⟩ := L.last2 z1 (by omega)
 have nd : d0.length + 1 = n1 := by simp at nz1; omega
 have ld : M.Low B64 d0 := fun x hx => lz x (by simp [hx])
 have lbe : be < B64 := lz be (by simp)
 have ld1 : d1 < B64 := lz d1 (by simp)
 refine ⟨d0, be, d1, rfl, nd, ld, lbe, ld1, ?_, vz⟩
 have hd : 9223372036854775808 ≤ d1 := by
  refine L.shift_hi (P := B64 ^ n1) (Rl := M.val B64 (d0 ++ [be])) (R := M.val B64 (ys.take n1)) (T := lm ys n1) (S := 2 ^ s) (M.val_lt_pow B64_pos (ld.snoc lbe) (by simp; omega)) h1 ?_
  rw [← hy, ← vz, show d0 ++ [be, d1] = (d0 ++ [be]) ++ [d1] by simp, M.val_snoc _ (d0 ++ [be]) d1, List.length_append, List.length_singleton, nd]
 unfold B64; omega
theorem rest_split {rs hi : List Nat} {j n2 z : Nat} (hj : j < rs.length) (hh : hi.length = n2 + 2) (lr : M.Low B64 rs) (lh : M.Low B64 hi) :
  ∃ s0 low nx top, s0.length = n2 ∧ M.Low B64 s0 ∧ low < B64 ∧ nx < B64 ∧ top < B64 ∧ rs.take (j + 1) ++ hi ++ List.replicate z 0 = rs.take j ++ (s0 ++ [low, nx]) ++ (top :: List.replicate z 0) ∧
   M.val B64 (s0 ++ [low, nx, top]) = lm rs j + B64 * M.val B64 hi ∧ M.val B64 (s0 ++ [low, nx, top]) = M.val B64 (s0 ++ [low, nx]) + B64 ^ (n2 + 2) * top := by
 obtain ⟨h0, top, he⟩ := L.last1 (lm rs j :: hi) (by simp)
 have l1 : h0.length = n2 + 2 := by have := congrArg List.length he; simp at this; omega
 obtain ⟨s0, low, nx, rfl⟩ := L.last2 h0 (by omega)
 have ll : M.Low B64 (s0 ++ [low, nx] ++ [top]) := by rw [← he]; exact M.Low.cons (lm_lt B64_pos lr j) lh
 refine ⟨s0, low, nx, top, by simp at l1; omega, fun x hx => ll x (by simp [hx]), ll low (by simp), ll nx (by simp), ll top (by simp), ?_, ?_, ?_⟩
 ·have e1 : rs.take (j + 1) = rs.take j ++ [lm rs j] := by
   rw [List.take_succ_eq_append_getElem hj]; simp [lm, hj]
  rw [e1, List.append_assoc (rs.take j), List.singleton_append, he]
  simp
 ·rw [← M.val_cons, he]; simp
 ·rw [show s0 ++ [low, nx, top] = (s0 ++ [low, nx]) ++ [top] by simp, M.val_snoc, l1]
theorem lm_in (p q : List Nat) (x j : Nat) (h : p.length = j) : lm (p ++ x :: q) j = x := by
 subst h
 simp [lm]
def divQ (hi lo y : Nat) : Nat := (hi * B64 + lo) / y
def divR (hi lo y : Nat) : Nat := (hi * B64 + lo) % y
theorem div64_zero (lo y : Int) (h0 : 0 < y) (hy : y ≤ 18446744073709551615) (hl0 : 0 ≤ lo) (hlo : lo ≤ 18446744073709551615) (w : World) :
  Calls Tryz.prog 264 #[.int .u64 0, .int .u64 lo, .int .u64 y] w (Re w (.tuple #[.int .u64 (lo / y), .int .u64 (lo % y)])) := by
 have n1 : ¬ y = 0 := by omega
 obtain ⟨a, ha⟩ : ∃ a : Int, a = lo / y := ⟨_, rfl⟩
 have a0 : 0 ≤ a := by rw [ha]; exact Int.ediv_nonneg hl0 (by omega)
 have a1 : a ≤ lo := by rw [ha]; exact Int.ediv_le_self y hl0
 have e1 : IntKind.u64.wrap (lo.tdiv y) = a := by rw [Int.tdiv_eq_ediv_of_nonneg hl0, ← ha, IntKind.wrap_u64]; omega
 have e2 : lo.tmod y = lo % y := Int.tmod_eq_emod_of_nonneg hl0
 have m0 := Int.emod_nonneg lo n1
 have m1 := Int.emod_lt_of_pos lo h0
 have HA := (show Hid (a = lo / y) from ha)
 clear ha
 go_enter Tryz.func264, Tryz.ntmps264
 go_wp2
 go_quiet (fail)
 go_wp2
 go_ret2
 exact ⟨by rw [← HA.out]; rfl, below_drewN (Below.refl _ _) _⟩
theorem div64_any (hi lo y : Nat) (hhy : hi < y) (hy : y < B64) (hlo : lo < B64) (w : World) :
  Calls Tryz.prog 264 #[.int .u64 (hi : Nat), .int .u64 (lo : Nat), .int .u64 (y : Nat)] w (Re w (.tuple #[.int .u64 (divQ hi lo y : Nat), .int .u64 (divR hi lo y : Nat)])) := by
 have hy' : y < 18446744073709551616 := hy
 have hlo' : lo < 18446744073709551616 := hlo
 have c : (hi : Int) * 18446744073709551616 + (lo : Int) = ((hi * B64 + lo : Nat) : Int) := by rw [Int.natCast_add, Int.natCast_mul]; rfl
 by_cases h0 : hi = 0
 ·subst h0
  refine (div64_zero (lo : Int) (y : Int) (by omega) (by omega) (by omega) (by omega) w).mono ?_
  rintro e w' ⟨rfl, hb⟩
  refine ⟨?_, hb⟩
  unfold divQ divR
  rw [Nat.zero_mul, Nat.zero_add, Int.natCast_ediv, Int.natCast_emod]
 ·refine (div64_big (hi : Int) (lo : Int) (y : Int) (by omega) (by omega) (by omega) (by omega) (by omega) w).mono ?_
  rintro e w' ⟨rfl, rfl⟩
  refine ⟨?_, Below.refl _ _⟩
  unfold divQ divR
  rw [c, Int.natCast_ediv, Int.natCast_emod]
theorem div_facts {hi lo y : Nat} (hhy : hi < y) (hlo : lo < B64) : divQ hi lo y < B64 ∧ divR hi lo y < y ∧ divQ hi lo y * y + divR hi lo y = hi * B64 + lo := by
 refine ⟨?_, Nat.mod_lt _ (by omega), ?_⟩
 ·unfold divQ
  rw [Nat.div_lt_iff_lt_mul (by omega)]
  have : (hi + 1) * B64 ≤ y * B64 := Nat.mul_le_mul_right _ hhy
  rw [Nat.add_mul, Nat.one_mul, Nat.mul_comm y] at this
  omega
 ·unfold divQ divR
  rw [Nat.mul_comm]; exact Nat.div_add_mod _ _
def DAt (xs qs : List Nat) (b k r : Nat) : Prop := qs.length = xs.length - k ∧ M.Low B64 qs ∧ r < b ∧ M.val B64 (xs.drop k) = M.val B64 qs * b + r
theorem DAt.step {xs qs : List Nat} {b k r : Nat} (la : M.Low B64 xs) (hk : k < xs.length) (h : DAt xs qs b (k + 1) r) : DAt xs (divQ r (lm xs k) b :: qs) b k (divR r (lm xs k) b) := by
 obtain ⟨h1, h2, h3, h4⟩ := h
 obtain ⟨f1, f2, f3⟩ := div_facts h3 (lm_lt B64_pos la k)
 refine ⟨by simp; omega, M.Low.cons f1 h2, f2, ?_⟩
 rw [drop_lm xs k hk, M.val_cons, M.val_cons, h4, Nat.add_mul, Nat.mul_add, Nat.mul_assoc]
 rw [Nat.mul_comm r] at f3
 omega
theorem set_rep (k : Nat) (q : Nat) (qs : List Nat) : (List.replicate (k + 1) 0 ++ qs).set k q = List.replicate k 0 ++ (q :: qs) := by
 rw [List.replicate_succ', List.append_assoc, List.set_append_right _ _ (by simp)]
 simp
theorem divideShort_any (va : Value) (xs : List Nat) (b : Nat) (w : World) (ha : Rd w va xs) (la : M.Low B64 xs) (hb0 : 0 < b) (hb : b < B64) (hm : xs.length ≤ 100000) :
  Calls Tryz.prog 240 #[va, .int .u64 (b : Nat)] w fun e w' => ∃ q r qs, e = .returned (.tuple #[q, r]) ∧ Rd w' q qs ∧ M.Low B64 qs ∧ qs.length = xs.length ∧ Rd w' r [M.val B64 xs % b] ∧ M.val B64 qs = M.val B64 xs / b ∧ Below w.heap.size w w' ∧ Ty w' q ∧ Ty w' r := by
 have ha0 := ha
 obtain ⟨a, ca, rfl, hca, -⟩ := ha
 go_enter Tryz.func240, Tryz.ntmps240
 go_wp2_with (at_make; refine wpList_mk rfl _ _ rfl _ xs.length rfl rfl rfl (by omega) ?_; intro w2 hblk hbel)
 go_loopw [7, 8] (fun r i wr => ∃ (k rr : Nat) (qs : List Nat), k ≤ xs.length ∧ i = .int .i64 ((k : Int) - 1) ∧ r = .int .u64 (rr : Nat) ∧ DAt xs qs b k rr ∧ Blk wr w.heap.size (List.replicate k 0 ++ qs) ∧ Below w.heap.size w wr) (fun _ i _ => (intOf i + 1).toNat)
 case atStart => exact ⟨xs.length, 0, [], Nat.le_refl _, rfl, rfl, ⟨by simp, M.Low.nil _, hb0, by simp [M.val]⟩, by simpa using hblk, hbel⟩
 case round =>
  obtain ⟨k, rr, qs, hk, rfl, rfl, hat, hblk', hbel'⟩ := hrel
  match k with
  | 0 =>
   obtain ⟨h1, h2, h3, h4⟩ := hat
   simp only [List.drop_zero] at h4
   have hq : M.val B64 qs = M.val B64 xs / b := by
    rw [h4, Nat.mul_comm, Nat.mul_add_div hb0, Nat.div_eq_of_lt h3, Nat.add_zero]
   have hr : rr = M.val B64 xs % b := by
    rw [h4, Nat.mul_comm, Nat.mul_add_mod, Nat.mod_eq_of_lt h3]
   have HQ := shut hq
   have HR := shut hr
   have H1 := shut h1
   have hb1 : Blk wr w.heap.size qs := by simpa using hblk'
   have hsz := hbel'.size
   clear hq hr h4 hblk' h1
   go_wp2
   go_ret2
   have hl : qs.length = xs.length := by have := H1.out; omega
   refine ⟨_, _, qs, rfl, ?_, h2, hl, ?_, HQ.out, hbel'.alloc hsz _, (hb1.alloc _).ty _ _ _, (blk_new wr [rr]).ty _ _ _⟩
   ·have := (hb1.alloc (.cells #[.int .u64 (rr : Nat)] 170)).rd0 xs.length (by omega)
    rwa [hl] at this
   ·rw [← HR.out]
    exact (blk_new wr [rr]).rd0 1 (by simp)
  | k + 1 =>
   have e1 : (((k + 1 : Nat) : Int) - 1) = (k : Int) := by omega
   rw [e1]
   obtain ⟨ab, ao, rfl, qa⟩ := ha0.at hbel' (j := k) (by omega)
   have hrb := hat.2.2.1
   have hx := lm_lt B64_pos la k
   have HST := shut (hat.step la (by omega))
   go_wp2_with fail
   refine (div64_any rr (lm xs k) b hrb hb hx _).mono ?_
   rintro e w3 ⟨rfl, hb3⟩
   have hblk3 := hblk'.below hb3
   have hc1 := hblk3.cell (j := k) (by simp; omega)
   have hf1 := hblk3.frozen k
   have hset := hblk3.set k (divQ rr (lm xs k) b)
   rw [set_rep] at hset
   have HSET := shut hset
   have hbel3 := Below.after hbel' hb3
   have hkl : (k : Int) < (xs.length : Int) := by omega
   clear hset hblk' hblk hbel qa
   go_wp2
   exact ⟨⟨k, _, _, by omega, by go_num, rfl, HST.out, HSET.out, hbel3.setCell (Nat.le_refl _) _⟩, by simp [intOf]⟩
def GInv (U d1 be low q r : Nat) : Prop := q * d1 + r = U ∧ r < B64 ∧ q < B64 ∧ U * B64 + low < q * (d1 * B64 + be) + (d1 * B64 + be)
def GOk (U d1 be low q : Nat) : Prop := q < B64 ∧ q * (d1 * B64 + be) ≤ U * B64 + low ∧ U * B64 + low < q * (d1 * B64 + be) + (d1 * B64 + be)
theorem g_eq {U d1 be q r : Nat} (h : q * d1 + r = U) : q * (d1 * B64 + be) + r * B64 = U * B64 + q * be := by
 rw [← h, Nat.mul_add, Nat.add_mul, ← Nat.mul_assoc]; omega
theorem g_start {top nx d1 be low : Nat} (h : top < d1) (hn : nx < B64) (hd : d1 < B64) (hl : low < B64) : GInv (top * B64 + nx) d1 be low (divQ top nx d1) (divR top nx d1) := by
 obtain ⟨f1, f2, f3⟩ := div_facts h hn
 refine ⟨f3, Nat.lt_trans f2 hd, f1, ?_⟩
 have e := g_eq (be := be) f3
 have p : divR top nx d1 * B64 + B64 ≤ d1 * B64 := by
  have := Nat.mul_le_mul_right B64 (Nat.succ_le_of_lt f2)
  rwa [Nat.succ_mul] at this
 omega
theorem g_no {U d1 be low q r : Nat} (h : GInv U d1 be low q r) (ht : q * be ≤ r * B64 + low) : GOk U d1 be low q := by
 obtain ⟨h1, h2, h3, h4⟩ := h
 have e := g_eq (be := be) h1
 exact ⟨h3, by omega, h4⟩
theorem g_down {U d1 be low q r : Nat} (h : GInv U d1 be low q r) (hq : 0 < q) (ht : r * B64 + low < q * be) :
  (q - 1) * d1 + (r + d1) = U ∧ q - 1 < B64 ∧ U * B64 + low < (q - 1) * (d1 * B64 + be) + (d1 * B64 + be) := by
 obtain ⟨h1, h2, h3, h4⟩ := h
 have e := g_eq (be := be) h1
 obtain ⟨p, rfl⟩ : ∃ p, q = p + 1 := ⟨q - 1, by omega⟩
 rw [Nat.add_sub_cancel]
 have e2 : (p + 1) * d1 = p * d1 + d1 := Nat.succ_mul _ _
 have e3 : (p + 1) * (d1 * B64 + be) = p * (d1 * B64 + be) + (d1 * B64 + be) := Nat.succ_mul _ _
 refine ⟨by omega, by omega, by omega⟩
theorem g_brk {U d1 be low q r : Nat} (hb : be < B64) (h : GInv U d1 be low q r) (hq : 0 < q) (ht : r * B64 + low < q * be) (hr : B64 ≤ r + d1) : GOk U d1 be low (q - 1) := by
 obtain ⟨g1, g2, g3⟩ := g_down h hq ht
 have e := g_eq (be := be) g1
 have p1 : (q - 1) * be ≤ B64 * B64 := Nat.mul_le_mul (by omega) (by omega)
 have p2 : B64 * B64 ≤ (r + d1) * B64 := Nat.mul_le_mul_right _ hr
 exact ⟨g2, by omega, g3⟩
theorem mul_cmp {x y r low : Nat} (hl : low < B64) : (r < mulHi x y ∨ (mulHi x y = r ∧ low < mulLo x y)) ↔ r * B64 + low < x * y := by
 have e : 18446744073709551616 * mulHi x y + mulLo x y = x * y := Nat.div_add_mod _ _
 have hlo : mulLo x y < 18446744073709551616 := Nat.mod_lt _ (by omega)
 unfold B64 at *
 generalize mulHi x y = H at *
 generalize mulLo x y = L at *
 rw [← e]
 constructor
 ·rintro (h | ⟨rfl, h⟩) <;> omega
 ·intro h
  by_cases h1 : r < H
  ·exact Or.inl h1
  ·exact Or.inr ⟨by omega, by omega⟩
theorem guess_lt (top nx low d1 be : Nat) (w : World) (ht : top < d1) (hn : nx < B64) (hl : low < B64) (hd : d1 < B64) (hb : be < B64) :
  Calls Tryz.prog 266 #[.int .u64 (top : Nat), .int .u64 (nx : Nat), .int .u64 (low : Nat), .int .u64 (d1 : Nat), .int .u64 (be : Nat)] w fun e w' => ∃ q : Nat, e = .returned (.int .u64 (q : Nat)) ∧ GOk (top * B64 + nx) d1 be low q ∧ Below w.heap.size w w' := by
 have ST := shut (g_start (be := be) ht hn hd hl)
 obtain ⟨U, hU⟩ : ∃ U, U = top * B64 + nx := ⟨_, rfl⟩
 rw [← hU] at ST ⊢
 obtain ⟨f1, f2, f3⟩ := div_facts ht hn
 have n1 : ¬ d1 ≤ top := by omega
 clear hU f3
 go_enter Tryz.func266, Tryz.ntmps266
 go_wp2_with fail
 refine (div64_any top nx d1 ht hd hn _).mono ?_
 rintro e w1 ⟨rfl, b1⟩
 go_wp2_with fail
 refine (mul64_any (divQ top nx d1) be f1 hb _).mono ?_
 rintro e w2 ⟨rfl, hw⟩
 have hw := hw.symm
 subst hw
 go_wp2
 go_loopw [11, 12, 13, 14] (fun a b c d wr => ∃ q r : Nat, a = .int .u64 (q : Nat) ∧ b = .int .u64 (r : Nat) ∧ c = .int .u64 (mulHi q be : Nat) ∧ d = .int .u64 (mulLo q be : Nat) ∧ GInv U d1 be low q r ∧ wr = w1) (fun a _ _ _ _ => (intOf a).toNat)
 case atStart => exact ⟨_, _, rfl, rfl, rfl, rfl, ST.out, rfl⟩
 case round =>
  obtain ⟨q, r, rfl, rfl, rfl, rfl, inv, hwr⟩ := hrel
  have hwr := hwr.symm
  subst hwr
  have INV := shut inv
  have hq := inv.2.2.1
  have hr := inv.2.1
  have hcmp := mul_cmp (x := q) (y := be) (r := r) hl
  have HC := shut hcmp
  clear inv hcmp
  by_cases hA : r < mulHi q be
  ·have HT := shut (HC.out.1 (Or.inl hA))
   have q0 : 0 < q := by
    rcases Nat.eq_zero_or_pos q with h | h
    ·subst h; have := HT.out; rw [Nat.zero_mul] at this; omega
    ·exact h
   obtain ⟨p, rfl⟩ : ∃ p, q = p + 1 := ⟨q - 1, by omega⟩
   have hp : p < B64 := by omega
   have eWp : IntKind.u64.wrap (p : Int) = (p : Int) := wrapIn p hp
   by_cases hC : r + d1 < B64
   ·obtain ⟨g1, g2, g3⟩ := g_down INV.out q0 HT.out
    rw [Nat.add_sub_cancel] at g1 g2 g3
    have NX := shut (show GInv U d1 be low p (r + d1) from ⟨g1, hC, g2, g3⟩)
    have hC' : r + d1 < 18446744073709551616 := hC
    clear g1 g2 g3
    go_wp2_with fail
    refine (mul64_any p be hp hb _).mono ?_
    rintro e w2 ⟨rfl, hw⟩
    have hw := hw.symm
    subst hw
    go_wp2
    go_roundw
    case rel => exact ⟨p, r + d1, by go_num, by go_num, rfl, rfl, NX.out, (by trivial)⟩
    case measure => simp [intOf]
   ·have OK := shut (g_brk hb INV.out q0 HT.out (by omega))
    have eW : IntKind.u64.wrap (((r : Nat) : Int) + (d1 : Int)) = ((r + d1 - 18446744073709551616 : Nat) : Int) := by
     rw [IntKind.wrap_u64]; unfold B64 at *; omega
    obtain ⟨z, hz⟩ : ∃ z, z = r + d1 - 18446744073709551616 := ⟨_, rfl⟩
    have hzd : z < d1 := by unfold B64 at *; omega
    rw [← hz] at eW
    clear hz
    go_wp2
    go_ret
    refine ⟨p, ?_, by have h := OK.out; rwa [Nat.add_sub_cancel] at h, b1⟩
    first | rfl | exact congrArg (fun t => Ending.returned (Value.int .u64 t)) (by omega)
  ·by_cases hB : mulHi q be = r ∧ low < mulLo q be
   ·have HT := shut (HC.out.1 (Or.inr hB))
    obtain ⟨hE, hL⟩ := hB
    subst hE
    have q0 : 0 < q := by
     rcases Nat.eq_zero_or_pos q with h | h
     ·subst h; have := HT.out; rw [Nat.zero_mul] at this; omega
     ·exact h
    obtain ⟨p, rfl⟩ : ∃ p, q = p + 1 := ⟨q - 1, by omega⟩
    have hp : p < B64 := by omega
    have eWp : IntKind.u64.wrap (p : Int) = (p : Int) := wrapIn p hp
    by_cases hC : mulHi (p + 1) be + d1 < B64
    ·obtain ⟨g1, g2, g3⟩ := g_down INV.out q0 HT.out
     rw [Nat.add_sub_cancel] at g1 g2 g3
     have NX := shut (show GInv U d1 be low p (mulHi (p + 1) be + d1) from ⟨g1, hC, g2, g3⟩)
     have hC' : mulHi (p + 1) be + d1 < 18446744073709551616 := hC
     clear g1 g2 g3
     go_wp2_with fail
     refine (mul64_any p be hp hb _).mono ?_
     rintro e w2 ⟨rfl, hw⟩
     have hw := hw.symm
     subst hw
     go_wp2
     go_roundw
     case rel => exact ⟨p, mulHi (p + 1) be + d1, by go_num, by go_num, rfl, rfl, NX.out, (by trivial)⟩
     case measure => simp [intOf]
    ·have OK := shut (g_brk hb INV.out q0 HT.out (by omega))
     have eW : IntKind.u64.wrap (((mulHi (p + 1) be : Nat) : Int) + (d1 : Int)) = ((mulHi (p + 1) be + d1 - 18446744073709551616 : Nat) : Int) := by
      rw [IntKind.wrap_u64]; unfold B64 at *; omega
     obtain ⟨z, hz⟩ : ∃ z, z = mulHi (p + 1) be + d1 - 18446744073709551616 := ⟨_, rfl⟩
     have hzd : z < d1 := by unfold B64 at *; omega
     rw [← hz] at eW
     clear hz
     go_wp2
     go_ret
     refine ⟨p, ?_, by have h := OK.out; rwa [Nat.add_sub_cancel] at h, b1⟩
     first | rfl | exact congrArg (fun t => Ending.returned (Value.int .u64 t)) (by omega)
   ·have OK := shut (g_no INV.out (Nat.not_lt.1 (fun h => hB ((HC.out.2 h).resolve_left hA))))
    by_cases hE : mulHi q be = r
    ·have hL : ¬ low < mulLo q be := fun h => hB ⟨hE, h⟩
     subst hE
     clear hB
     go_wp2
     go_ret
     exact ⟨q, rfl, OK.out, b1⟩
    ·clear hB
     go_wp2
     go_ret
     exact ⟨q, rfl, OK.out, b1⟩
theorem guess_ge (top nx low d1 be : Nat) (w : World) (ht : d1 ≤ top) :
  Calls Tryz.prog 266 #[.int .u64 (top : Nat), .int .u64 (nx : Nat), .int .u64 (low : Nat), .int .u64 (d1 : Nat), .int .u64 (be : Nat)] w fun e w' => e = .returned (.int .u64 18446744073709551615) ∧ w' = w := by
 go_enter Tryz.func266, Tryz.ntmps266
 go_wp2
 go_ret
 exact ⟨rfl, rfl⟩
theorem val3 (s0 : List Nat) (x y z : Nat) : M.val B64 (s0 ++ [x, y, z]) = ((z * B64 + y) * B64 + x) * B64 ^ s0.length + M.val B64 s0 := by
 rw [M.val_append]
 simp only [M.val_cons, M.val_nil, Nat.mul_zero, Nat.add_zero]
 rw [Nat.mul_comm (B64 ^ s0.length), Nat.add_comm]
 congr 2
 rw [Nat.add_mul, Nat.mul_add, Nat.mul_comm B64 y, Nat.mul_comm B64 z, Nat.mul_comm B64 (z * B64)]
 omega
theorem val2 (s0 : List Nat) (x y : Nat) : M.val B64 (s0 ++ [x, y]) = (y * B64 + x) * B64 ^ s0.length + M.val B64 s0 := by
 rw [M.val_append]
 simp only [M.val_cons, M.val_nil, Nat.mul_zero, Nat.add_zero]
 rw [Nat.mul_comm (B64 ^ s0.length), Nat.add_comm]
 congr 2
 rw [Nat.mul_comm B64 y]
 omega
theorem guess_any (s0 d0 : List Nat) (low nx top be d1 : Nat) (w : World) (ls : M.Low B64 s0) (ld : M.Low B64 d0) (he : s0.length = d0.length) (hl : low < B64) (hn : nx < B64) (hb : be < B64) (hd : d1 < B64) (h2 : B64 ≤ 2 * d1)
  (hV : M.val B64 (s0 ++ [low, nx, top]) < B64 * M.val B64 (d0 ++ [be, d1])) :
  Calls Tryz.prog 266 #[.int .u64 (top : Nat), .int .u64 (nx : Nat), .int .u64 (low : Nat), .int .u64 (d1 : Nat), .int .u64 (be : Nat)] w fun e w' => ∃ q : Nat, e = .returned (.int .u64 (q : Nat)) ∧ q < B64 ∧ L.Near (M.val B64 (s0 ++ [low, nx, top])) (M.val B64 (d0 ++ [be, d1])) q ∧ Below w.heap.size w w' := by
 rw [val3, val2, he] at hV ⊢
 have hDl : M.val B64 d0 < B64 ^ d0.length := M.val_lt B64_pos ld
 have hVl : M.val B64 s0 < B64 ^ d0.length := by have := M.val_lt B64_pos ls; rwa [he] at this
 by_cases ht : top < d1
 ·refine (guess_lt top nx low d1 be w ht hn hl hd hb).mono ?_
  rintro e w' ⟨q, rfl, ⟨g1, g2, g3⟩, hbel⟩
  exact ⟨q, rfl, g1, L.near_three (by omega) hDl hVl g1 g2 g3, hbel⟩
 ·refine (guess_ge top nx low d1 be w (by omega)).mono ?_
  rintro e w' ⟨rfl, rfl⟩
  refine ⟨B64 - 1, rfl, by unfold B64; omega, L.near_top hb hDl h2 (Nat.not_lt.1 ht) ?_ hV, Below.refl _ _⟩
  have e1 : top * (B64 * (B64 * B64 ^ d0.length)) = top * B64 * B64 * B64 ^ d0.length := by simp only [Nat.mul_assoc]
  have e2 : top * B64 * B64 * B64 ^ d0.length ≤ ((top * B64 + nx) * B64 + low) * B64 ^ d0.length := Nat.mul_le_mul_right _ (by rw [Nat.add_mul]; omega)
  omega
def shLo (x s : Nat) : Nat := x * 2 ^ s % 18446744073709551616
def shHi (x s : Nat) : Nat := x / 2 ^ (64 - s)
def shO (c x s : Nat) : Nat := c + shLo x s
theorem sh_facts {c x s : Nat} (hs : s ≤ 63) (hx : x < B64) (hc : c < 2 ^ s) : shO c x s < B64 ∧ shHi x s < 2 ^ s ∧ shO c x s + B64 * shHi x s = c + x * 2 ^ s ∧ bits .or .u64 (c : Int) ((shLo x s : Nat) : Int) = ((shO c x s : Nat) : Int) ∧ c < 18446744073709551616 := by
 have e : 2 ^ s * 2 ^ (64 - s) = 18446744073709551616 := by rw [← Nat.pow_add, show s + (64 - s) = 64 by omega]
 have hS : 0 < 2 ^ s := Nat.pow_pos (by omega)
 have hZ : 0 < 2 ^ (64 - s) := Nat.pow_pos (by omega)
 have h2 : x * 2 ^ s / 18446744073709551616 = x / 2 ^ (64 - s) := by
  rw [← e, Nat.mul_comm (2 ^ s), Nat.mul_div_mul_right _ _ hS]
 have h3 := Nat.div_add_mod (x * 2 ^ s) 18446744073709551616
 rw [h2] at h3
 have h4 : x / 2 ^ (64 - s) < 2 ^ s := by rw [Nat.div_lt_iff_lt_mul hZ, e]; exact hx
 have h5 : x * 2 ^ s % 18446744073709551616 = x % 2 ^ (64 - s) * 2 ^ s := by
  rw [← e, Nat.mul_comm (2 ^ s), Nat.mul_mod_mul_right]
 have h6 : x % 2 ^ (64 - s) * 2 ^ s + 2 ^ s ≤ 18446744073709551616 := by
  have : (x % 2 ^ (64 - s) + 1) * 2 ^ s ≤ 2 ^ (64 - s) * 2 ^ s := Nat.mul_le_mul_right _ (Nat.mod_lt _ hZ)
  rw [Nat.mul_comm (2 ^ (64 - s)), e, Nat.add_mul, Nat.one_mul] at this
  exact this
 have hc' : c < 18446744073709551616 := by
  have : 2 ^ s ≤ 18446744073709551616 := by rw [← e]; exact Nat.le_mul_of_pos_right _ hZ
  omega
 have hlow : shLo x s < 18446744073709551616 := Nat.mod_lt _ (by omega)
 refine ⟨?_, h4, ?_, ?_, hc'⟩
 ·unfold shO shLo B64; rw [h5]; omega
 ·unfold shO shLo shHi B64; omega
 ·rw [bits_or_u64_nat _ _ hc' hlow]
  unfold shO shLo
  rw [h5, ← Nat.shiftLeft_eq, Nat.or_comm, ← Nat.shiftLeft_add_eq_or_of_lt hc, Nat.add_comm]
def UAt (xs d : List Nat) (s k c : Nat) : Prop := d.length = k ∧ M.Low B64 d ∧ c < 2 ^ s ∧ M.val B64 d + B64 ^ k * c = M.val B64 (xs.take k) * 2 ^ s
theorem UAt.step {xs d : List Nat} {s k c : Nat} (la : M.Low B64 xs) (hs : s ≤ 63) (h : UAt xs d s k c) : UAt xs (d ++ [shO c (lm xs k) s]) s (k + 1) (shHi (lm xs k) s) := by
 obtain ⟨h1, h2, h3, h4⟩ := h
 obtain ⟨f1, f2, f3, _, _⟩ := sh_facts hs (lm_lt B64_pos la k) h3
 refine ⟨by simp [h1], h2.snoc f1, f2, ?_⟩
 rw [M.val_snoc, h1, M.val_take_succ, Nat.pow_succ]
 have e2 : B64 ^ k * (shO c (lm xs k) s + B64 * shHi (lm xs k) s) = B64 ^ k * (c + lm xs k * 2 ^ s) := by rw [f3]
 simp only [Nat.mul_add, ← Nat.mul_assoc] at e2
 show _ = (_ + B64 ^ k * lm xs k) * 2 ^ s
 rw [Nat.add_mul]
 omega
theorem shiftedUp_any (va : Value) (xs : List Nat) (s : Nat) (w : World) (ha : Rd w va xs) (la : M.Low B64 xs) (hs : s ≤ 63) (hm : xs.length ≤ 100000) :
  Calls Tryz.prog 265 #[va, .int .i64 (s : Nat)] w fun e w' => ∃ (g : Nat) (zs : List Nat), e = .returned (.slice (some ⟨g, 0, none⟩) zs.length zs.length) ∧ Blk w' g zs ∧ zs.length = xs.length + 1 ∧ M.Low B64 zs ∧ M.val B64 zs = M.val B64 xs * 2 ^ s ∧ w.heap.size ≤ g ∧ Below w.heap.size w w' := by
 have ha0 := ha
 obtain ⟨a, ca, rfl, hca, -⟩ := ha
 have hs1 : (s : Int) ≤ 63 := by omega
 go_enter Tryz.func265, Tryz.ntmps265
 go_wp2_with (at_make; refine wpList_mk rfl _ _ rfl _ (xs.length + 1) rfl rfl (by omega) (by omega) ?_; intro w2 hblk hbel)
 go_loopw [14] (fun i wr => ∃ (k c : Nat) (d : List Nat), k ≤ xs.length ∧ i = .int .i64 k ∧ UAt xs d s k c ∧ Blk wr w.heap.size (d ++ (c :: List.replicate (xs.length - k) 0)) ∧ Below w.heap.size w wr) (fun i _ => xs.length - (intOf i).toNat)
 case atStart => exact ⟨0, 0, [], by omega, rfl, ⟨rfl, M.Low.nil _, Nat.pow_pos (by omega), by simp [M.val]⟩, by simpa [List.replicate_succ] using hblk, hbel⟩
 case round =>
  obtain ⟨k, c, d, hk, rfl, hat, hblk', hbel'⟩ := hrel
  have hdl : d.length = k := hat.1
  by_cases hlt : k < xs.length
  ·obtain ⟨ab, ao, rfl, qa⟩ := ha0.at hbel' hlt
   obtain ⟨f1, f2, f3, f4, f5⟩ := sh_facts hs (lm_lt B64_pos la k) hat.2.2.1
   have HR : Hid (xs.length - k = (xs.length - (k + 1)) + 1) := by show _ = _; omega
   rw [HR.out, List.replicate_succ] at hblk'
   have hc1 := hblk'.cell (j := k) (by simp; omega)
   have hc2 := hblk'.cell (j := k + 1) (by simp; omega)
   have hf1 := hblk'.frozen k
   have hf2 := hblk'.frozen (k + 1)
   have e1 : lm (d ++ c :: 0 :: List.replicate (xs.length - (k + 1)) 0) k = c := by
    have := lm_mid [] d (0 :: List.replicate (xs.length - (k + 1)) 0) [] c
    simpa [hdl] using this
   rw [e1] at hc1
   have hset := (hblk'.set k (shO c (lm xs k) s)).set (k + 1) (shHi (lm xs k) s)
   have e2 : ((d ++ c :: 0 :: List.replicate (xs.length - (k + 1)) 0).set k (shO c (lm xs k) s)).set (k + 1) (shHi (lm xs k) s) = (d ++ [shO c (lm xs k) s]) ++ (shHi (lm xs k) s :: List.replicate (xs.length - (k + 1)) 0) := by
    rw [← hdl, List.set_append_right _ _ (Nat.le_refl _), List.set_append_right _ _ (by omega)]
    simp
   rw [e2] at hset
   have HSET := shut hset
   have HST := shut (hat.step la hs)
   have el : IntKind.u64.wrap ((lm xs k : Int) * 2 ^ s) = ((shLo (lm xs k) s : Nat) : Int) := by rw [← cast_mul_pow, wrapMod]; rfl
   have eh : ((lm xs k : Int) / 2 ^ (64 - s)) = ((shHi (lm xs k) s : Nat) : Int) := by rw [← cast_div_pow]; rfl
   have hk1 : (k : Int) < (xs.length : Int) + 1 := by omega
   have hk2 : (k : Int) + 1 < (xs.length : Int) + 1 := by omega
   clear hset e1 e2 f1 f2 f3 f5 hblk hbel
   go_wp2
   go_region
   go_wp2
   exact ⟨⟨k + 1, _, _, by omega, by go_num, HST.out, HSET.out.drew, ((hbel'.setCell (Nat.le_refl _) _).setCell (Nat.le_refl _) _).drew⟩, by simp [intOf]; omega⟩
  ·have HKE : Hid (k = xs.length) := by show _ = _; omega
   obtain ⟨h1, h2, h3, h4⟩ := hat
   rw [HKE.out, M.val_take_all _ _ _ (Nat.le_refl _)] at h4
   have hcb : c < B64 := by
    have : 2 ^ s ≤ 2 ^ 63 := Nat.pow_le_pow_right (by omega) hs
    unfold B64; omega
   have hz : (d ++ [c]).length = xs.length + 1 := by rw [List.length_append, h1, HKE.out]; rfl
   have hv : M.val B64 (d ++ [c]) = M.val B64 xs * 2 ^ s := by rw [M.val_snoc, h1, HKE.out]; exact h4
   have hb4 : Blk wr w.heap.size (d ++ [c]) := by
    rw [HKE.out] at hblk'
    simpa using hblk'
   have HZ := shut hz
   have HV := shut hv
   clear h4 hz hv hblk' h1 hdl hblk hbel
   go_wp2
   go_ret
   exact ⟨w.heap.size, d ++ [c], by rw [HZ.out]; rfl, hb4, HZ.out, h2.snoc hcb, HV.out, Nat.le_refl _, hbel'⟩
/-! ### shiftDown -/
def sdO (x y s : Nat) : Nat := x / 2 ^ s + y % 2 ^ s * 2 ^ (64 - s)
theorem sd_facts {x y s : Nat} (hs : s ≤ 63) (hx : x < B64) :
  sdO x y s < B64 ∧ sdO x y s * 2 ^ s + x % 2 ^ s = x + B64 * (y % 2 ^ s) ∧ bits .or .u64 ((x / 2 ^ s : Nat) : Int) ((y * 2 ^ (64 - s) % 18446744073709551616 : Nat) : Int) = ((sdO x y s : Nat) : Int) := by
 have e : 2 ^ (64 - s) * 2 ^ s = 18446744073709551616 := by rw [← Nat.pow_add, show 64 - s + s = 64 by omega]
 have hS : 0 < 2 ^ s := Nat.pow_pos (by omega)
 have hZ : 0 < 2 ^ (64 - s) := Nat.pow_pos (by omega)
 have h4 : x / 2 ^ s < 2 ^ (64 - s) := by rw [Nat.div_lt_iff_lt_mul hS, e]; exact hx
 have h5 : y * 2 ^ (64 - s) % 18446744073709551616 = y % 2 ^ s * 2 ^ (64 - s) := by
  rw [← e, Nat.mul_comm (2 ^ (64 - s)), Nat.mul_mod_mul_right]
 have h6 : y % 2 ^ s * 2 ^ (64 - s) + 2 ^ (64 - s) ≤ 18446744073709551616 := by
  have : (y % 2 ^ s + 1) * 2 ^ (64 - s) ≤ 2 ^ s * 2 ^ (64 - s) := Nat.mul_le_mul_right _ (Nat.mod_lt _ hS)
  rw [Nat.mul_comm (2 ^ s), e, Nat.add_mul, Nat.one_mul] at this
  exact this
 have hd : x / 2 ^ s < 18446744073709551616 := Nat.lt_of_le_of_lt (Nat.div_le_self _ _) hx
 refine ⟨by unfold sdO B64; omega, ?_, ?_⟩
 ·unfold sdO
  rw [Nat.add_mul, Nat.mul_assoc, e]
  have := Nat.div_add_mod x (2 ^ s)
  rw [Nat.mul_comm] at this
  unfold B64
  omega
 ·rw [bits_or_u64_nat _ _ hd (Nat.mod_lt _ (by omega))]
  unfold sdO
  rw [h5, ← Nat.shiftLeft_eq, Nat.or_comm, ← Nat.shiftLeft_add_eq_or_of_lt h4, Nat.add_comm]
def WAt (xs d : List Nat) (s k : Nat) : Prop := d.length = k ∧ M.Low B64 d ∧ M.val B64 d * 2 ^ s + lm xs 0 % 2 ^ s = M.val B64 (xs.take k) + B64 ^ k * (lm xs k % 2 ^ s)
theorem WAt.step {xs d : List Nat} {s k : Nat} (la : M.Low B64 xs) (hs : s ≤ 63) (h : WAt xs d s k) : WAt xs (d ++ [sdO (lm xs k) (lm xs (k + 1)) s]) s (k + 1) := by
 obtain ⟨h1, h2, h4⟩ := h
 obtain ⟨f1, f3, _⟩ := sd_facts (y := lm xs (k + 1)) hs (lm_lt B64_pos la k)
 refine ⟨by simp [h1], h2.snoc f1, ?_⟩
 rw [M.val_snoc, h1, M.val_take_succ, Nat.pow_succ, Nat.add_mul, Nat.mul_assoc]
 have e2 : B64 ^ k * (sdO (lm xs k) (lm xs (k + 1)) s * 2 ^ s + lm xs k % 2 ^ s) = B64 ^ k * (lm xs k + B64 * (lm xs (k + 1) % 2 ^ s)) := by rw [f3]
 simp only [Nat.mul_add, ← Nat.mul_assoc] at e2
 show _ = _ + B64 ^ k * lm xs k + _
 simp only [← Nat.mul_assoc]
 omega
theorem shiftDown_any (g : Nat) (xs : List Nat) (s : Nat) (w : World) (hb : Blk w g xs) (la : M.Low B64 xs) (hs : s ≤ 63) (hm : xs.length ≤ 100000) :
  Calls Tryz.prog 268 #[.slice (some ⟨g, 0, none⟩) xs.length xs.length, .int .i64 (s : Nat)] w fun e w' => ∃ (zs : List Nat), e = .returned (.tuple #[]) ∧ Blk w' g zs ∧ zs.length = xs.length ∧ M.Low B64 zs ∧ M.val B64 zs = M.val B64 xs / 2 ^ s ∧ Only g w w' := by
 have hs1 : (s : Int) ≤ 63 := by omega
 have hS : 0 < 2 ^ s := Nat.pow_pos (by omega)
 go_enter Tryz.func268, Tryz.ntmps268
 go_wp2
 go_loopw [7] (fun i wr => ∃ (k : Nat) (d : List Nat), k ≤ xs.length ∧ i = .int .i64 k ∧ WAt xs d s k ∧ Blk wr g (d ++ xs.drop k) ∧ Only g w wr) (fun i _ => xs.length - (intOf i).toNat)
 case atStart =>
  refine ⟨0, [], by omega, rfl, ⟨rfl, M.Low.nil _, by simp [M.val]⟩, by simpa using hb, Only.refl _ _⟩
 case round =>
  obtain ⟨k, d, hk, rfl, hat, hblk', hon⟩ := hrel
  have hdl : d.length = k := hat.1
  by_cases hlt : k < xs.length
  ·obtain ⟨f1, f3, f4⟩ := sd_facts (y := lm xs (k + 1)) hs (lm_lt B64_pos la k)
   have HST := shut (hat.step la hs)
   rw [drop_lm xs k hlt] at hblk'
   have hc1 := hblk'.cell (j := k) (by simp; omega)
   have hf1 := hblk'.frozen k
   have e1 : lm (d ++ lm xs k :: xs.drop (k + 1)) k = lm xs k := by
    have := lm_mid [] d (xs.drop (k + 1)) [] (lm xs k)
    simpa [hdl] using this
   rw [e1] at hc1
   have eh : ((lm xs k : Int) / 2 ^ s) = ((lm xs k / 2 ^ s : Nat) : Int) := by rw [← cast_div_pow]
   obtain ⟨A, hA⟩ : ∃ A, A = lm xs k / 2 ^ s := ⟨_, rfl⟩
   rw [← hA] at eh f4
   have e2 : ∀ u v, (d ++ u :: xs.drop (k + 1)).set k v = d ++ v :: xs.drop (k + 1) := fun u v => by
    rw [← hdl, List.set_append_right _ _ (Nat.le_refl _)]; simp
   have hA1 : A < 18446744073709551616 := by rw [hA]; exact Nat.lt_of_le_of_lt (Nat.div_le_self _ _) (lm_lt B64_pos la k)
   by_cases hlt2 : k + 1 < xs.length
   ·have hc2 := hblk'.cell (j := k + 1) (by simp; omega)
    have e3 : lm (d ++ lm xs k :: xs.drop (k + 1)) (k + 1) = lm xs (k + 1) := by
     unfold lm
     rw [List.getD_eq_getElem?_getD, List.getElem?_append_right (by omega), hdl, show k + 1 - k = 0 + 1 by omega, List.getElem?_cons_succ, List.getElem?_drop, List.getD_eq_getElem?_getD]
    rw [e3] at hc2
    have hset := (hblk'.set k A).set k (sdO (lm xs k) (lm xs (k + 1)) s)
    rw [e2, e2] at hset
    have HSET : Hid (Blk ((wr.setCell ⟨g, k, none⟩ (.int .u64 (A : Nat))).setCell ⟨g, k, none⟩ (.int .u64 (sdO (lm xs k) (lm xs (k + 1)) s : Nat))) g ((d ++ [sdO (lm xs k) (lm xs (k + 1)) s]) ++ xs.drop (k + 1))) := by
     rw [List.append_assoc]; exact hset
    have el : IntKind.u64.wrap ((lm xs (k + 1) : Int) * 2 ^ (64 - s)) = ((lm xs (k + 1) * 2 ^ (64 - s) % 18446744073709551616 : Nat) : Int) := by rw [← cast_mul_pow, wrapMod]
    obtain ⟨Cc, hCc⟩ : ∃ Cc, Cc = lm xs (k + 1) * 2 ^ (64 - s) % 18446744073709551616 := ⟨_, rfl⟩
    rw [← hCc] at el f4
    have hi1 : (k : Int) < (xs.length : Int) := by omega
    have hi2 : (k : Int) + 1 < (xs.length : Int) := by omega
    clear hset e1 e2 e3 f1 f3 hA hCc hb hblk'
    go_wp2
    go_region
    go_wp2
    exact ⟨⟨k + 1, _, by omega, by go_num, HST.out, HSET.out.drew, ((hon.setCell _ _).setCell _ _).drew⟩, by simp [intOf]; omega⟩
   ·have hst := HST.out
    rw [lm_ge (xs := xs) (j := k + 1) (by omega)] at hst
    have e4 : sdO (lm xs k) 0 s = A := by unfold sdO; rw [Nat.zero_mod, Nat.zero_mul, Nat.add_zero, hA]
    rw [e4] at hst
    have hset := hblk'.set k A
    rw [e2] at hset
    have HSET : Hid (Blk (wr.setCell ⟨g, k, none⟩ (.int .u64 (A : Nat))) g ((d ++ [A]) ++ xs.drop (k + 1))) := by
     rw [List.append_assoc]; exact hset
    have HST2 := shut hst
    have hi1 : (k : Int) < (xs.length : Int) := by omega
    clear hset e1 e2 e4 f1 f3 f4 hA hb hblk' hst HST
    go_wp2
    exact ⟨⟨k + 1, _, by omega, by go_num, HST2.out, HSET.out, hon.setCell _ _⟩, by simp [intOf]; omega⟩
  ·have HKE : Hid (k = xs.length) := by show _ = _; omega
   obtain ⟨h1, h2, h4⟩ := hat
   rw [HKE.out, M.val_take_all _ _ _ (Nat.le_refl _), lm_ge (Nat.le_refl _), Nat.zero_mod, Nat.mul_zero, Nat.add_zero] at h4
   have hv : M.val B64 d = M.val B64 xs / 2 ^ s := by
    rw [← h4, Nat.mul_comm, Nat.mul_add_div hS, Nat.div_eq_of_lt (Nat.mod_lt _ hS), Nat.add_zero]
   have hb4 : Blk wr g d := by
    rw [HKE.out] at hblk'
    simpa using hblk'
   have HV := shut hv
   have H1 : Hid (d.length = xs.length) := by show _ = _; rw [h1, HKE.out]
   clear h4 hv hblk' h1 hdl hb
   go_wp2
   go_end0
   exact ⟨d, rfl, hb4, H1.out, h2, HV.out, hon⟩
end Go.Proofs.YtnplifkgeeicjaaGreatDoor
