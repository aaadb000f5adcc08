/-
  math/bits.Div64 whole; limb.divideShort.
-/
import Derived.Test.YtiahhpkpimaidabDiv64
import Derived.Test.YtiahhpkpimaidabRcmp
import Derived.Test.YtiahhpkpimaidabProd0
namespace Go.Proofs.Ytiahhpkpimaidab
open Go.RowKit

def divQ (hi lo y : Nat) : Nat := (hi * B64 + lo) / y
def divR (hi lo y : Nat) : Nat := (hi * B64 + lo) % y

set_option maxRecDepth 100000 in
set_option maxHeartbeats 1000000 in
theorem div64_zero (lo y : Int) (h0 : 0 < y) (hy : y ≤ 18446744073709551615) (hl0 : 0 ≤ lo) (hlo : lo ≤ 18446744073709551615) (w : World) :
    Calls Try.prog 40 #[.int .u64 0, .int .u64 lo, .int .u64 y] w fun e w' => e = .returned (.tuple #[.int .u64 (lo / y), .int .u64 (lo % y)]) ∧ Below w.heap.size w w' := by
  have n1 : ¬ y = 0 := by omega
  obtain ⟨a, ha⟩ : ∃ a : Int, a = lo / y := ⟨_, rfl⟩
  have a0 : 0 ≤ a := by rw [ha]; exact Int.ediv_nonneg hl0 (by omega)
  have a1 : a ≤ lo := by rw [ha]; exact Int.ediv_le_self y hl0
  have e1 : IntKind.u64.wrap (lo.tdiv y) = a := by rw [Int.tdiv_eq_ediv_of_nonneg hl0, ← ha, IntKind.wrap_u64]; omega
  have e2 : lo.tmod y = lo % y := Int.tmod_eq_emod_of_nonneg hl0
  have m0 := Int.emod_nonneg lo n1
  have m1 := Int.emod_lt_of_pos lo h0
  have HA := (show Hid (a = lo / y) from ha)
  clear ha
  go_enter Try.func40, Try.ntmps40
  go_wp2
  go_quiet (fail)
  go_wp2
  go_ret2
  exact ⟨by rw [← HA.out]; rfl, below_drewN (Below.refl _ _) _⟩

theorem div64_any (hi lo y : Nat) (hhy : hi < y) (hy : y < B64) (hlo : lo < B64) (w : World) :
    Calls Try.prog 40 #[.int .u64 (hi : Nat), .int .u64 (lo : Nat), .int .u64 (y : Nat)] w fun e w' => e = .returned (.tuple #[.int .u64 (divQ hi lo y : Nat), .int .u64 (divR hi lo y : Nat)]) ∧ Below w.heap.size w w' := by
  have hy' : y < 18446744073709551616 := hy
  have hlo' : lo < 18446744073709551616 := hlo
  have c : (hi : Int) * 18446744073709551616 + (lo : Int) = ((hi * B64 + lo : Nat) : Int) := by rw [Int.natCast_add, Int.natCast_mul]; rfl
  by_cases h0 : hi = 0
  · subst h0
    refine (div64_zero (lo : Int) (y : Int) (by omega) (by omega) (by omega) (by omega) w).mono ?_
    rintro e w' ⟨rfl, hb⟩
    refine ⟨?_, hb⟩
    unfold divQ divR
    rw [Nat.zero_mul, Nat.zero_add, Int.natCast_ediv, Int.natCast_emod]
  · refine (div64_big (hi : Int) (lo : Int) (y : Int) (by omega) (by omega) (by omega) (by omega) (by omega) w).mono ?_
    rintro e w' ⟨rfl, rfl⟩
    refine ⟨?_, Below.refl _ _⟩
    unfold divQ divR
    rw [c, Int.natCast_ediv, Int.natCast_emod]

theorem div_facts {hi lo y : Nat} (hhy : hi < y) (hlo : lo < B64) : divQ hi lo y < B64 ∧ divR hi lo y < y ∧ divQ hi lo y * y + divR hi lo y = hi * B64 + lo := by
  refine ⟨?_, Nat.mod_lt _ (by omega), ?_⟩
  · unfold divQ
    rw [Nat.div_lt_iff_lt_mul (by omega)]
    have : (hi + 1) * B64 ≤ y * B64 := Nat.mul_le_mul_right _ hhy
    rw [Nat.add_mul, Nat.one_mul, Nat.mul_comm y] at this
    omega
  · unfold divQ divR
    rw [Nat.mul_comm]; exact Nat.div_add_mod _ _

/-- Behind the limbs from k on. -/
def DAt (xs qs : List Nat) (b k r : Nat) : Prop := qs.length = xs.length - k ∧ M.Low B64 qs ∧ r < b ∧ M.val B64 (xs.drop k) = M.val B64 qs * b + r
theorem DAt.step {xs qs : List Nat} {b k r : Nat} (la : M.Low B64 xs) (hk : k < xs.length) (h : DAt xs qs b (k + 1) r) : DAt xs (divQ r (lm xs k) b :: qs) b k (divR r (lm xs k) b) := by
  obtain ⟨h1, h2, h3, h4⟩ := h
  obtain ⟨f1, f2, f3⟩ := div_facts h3 (lm_lt B64_pos la k)
  refine ⟨by simp; omega, M.Low.cons f1 h2, f2, ?_⟩
  rw [drop_lm xs k hk, M.val_cons, M.val_cons, h4, Nat.add_mul, Nat.mul_add, Nat.mul_assoc]
  rw [Nat.mul_comm r] at f3
  omega

theorem set_rep (k : Nat) (q : Nat) (qs : List Nat) : (List.replicate (k + 1) 0 ++ qs).set k q = List.replicate k 0 ++ (q :: qs) := by
  rw [List.replicate_succ', List.append_assoc, List.set_append_right _ _ (by simp)]
  simp

set_option maxHeartbeats 1000000 in
theorem divideShort_any (va : Value) (xs : List Nat) (b : Nat) (w : World) (ha : Rd w va xs) (la : M.Low B64 xs) (hb0 : 0 < b) (hb : b < B64) (hm : xs.length ≤ 100000) :
    Calls Try.prog 32 #[va, .int .u64 (b : Nat)] w fun e w' => ∃ q r qs, e = .returned (.tuple #[q, r]) ∧ Rd w' q qs ∧ M.Low B64 qs ∧ qs.length = xs.length ∧ Rd w' r [M.val B64 xs % b] ∧ M.val B64 qs = M.val B64 xs / b ∧ Below w.heap.size w w' := by
  have ha0 := ha
  obtain ⟨a, ca, rfl, hca, -⟩ := ha
  go_enter Try.func32, Try.ntmps32
  go_wp2_with (at_make; refine wpList_mk rfl _ _ rfl _ xs.length rfl rfl rfl (by omega) ?_; intro w2 hblk hbel)
  go_loopw [7, 8] (fun r i wr => ∃ (k rr : Nat) (qs : List Nat), k ≤ xs.length ∧ i = .int .i64 ((k : Int) - 1) ∧ r = .int .u64 (rr : Nat) ∧ DAt xs qs b k rr ∧ Blk wr w.heap.size (List.replicate k 0 ++ qs) ∧ Below w.heap.size w wr) (fun _ i _ => (intOf i + 1).toNat)
  case atStart => exact ⟨xs.length, 0, [], Nat.le_refl _, rfl, rfl, ⟨by simp, M.Low.nil _, hb0, by simp [M.val]⟩, by simpa using hblk, hbel⟩
  case round =>
    obtain ⟨k, rr, qs, hk, rfl, rfl, hat, hblk', hbel'⟩ := hrel
    match k with
    | 0 =>
      obtain ⟨h1, h2, h3, h4⟩ := hat
      simp only [List.drop_zero] at h4
      have hq : M.val B64 qs = M.val B64 xs / b := by
        rw [h4, Nat.mul_comm, Nat.mul_add_div hb0, Nat.div_eq_of_lt h3, Nat.add_zero]
      have hr : rr = M.val B64 xs % b := by
        rw [h4, Nat.mul_comm, Nat.mul_add_mod, Nat.mod_eq_of_lt h3]
      have HQ := shut hq
      have HR := shut hr
      have H1 := shut h1
      have hb1 : Blk wr w.heap.size qs := by simpa using hblk'
      have hsz := hbel'.size
      clear hq hr h4 hblk' h1
      go_wp2
      go_ret2
      have hl : qs.length = xs.length := by have := H1.out; omega
      refine ⟨_, _, qs, rfl, ?_, h2, hl, ?_, HQ.out, hbel'.alloc hsz _⟩
      · have := (hb1.alloc (.cells #[.int .u64 (rr : Nat)] 22)).rd0 xs.length (by omega)
        rwa [hl] at this
      · rw [← HR.out]
        exact (blk_new wr [rr]).rd0 1 (by simp)
    | k + 1 =>
      have e1 : (((k + 1 : Nat) : Int) - 1) = (k : Int) := by omega
      rw [e1]
      obtain ⟨ab, ao, rfl, qa⟩ := ha0.at hbel' (j := k) (by omega)
      have hrb := hat.2.2.1
      have hx := lm_lt B64_pos la k
      have HST := shut (hat.step la (by omega))
      go_wp2_with fail
      refine (div64_any rr (lm xs k) b hrb hb hx _).mono ?_
      rintro e w3 ⟨rfl, hb3⟩
      have hblk3 := hblk'.below hb3
      have hc1 := hblk3.cell (j := k) (by simp; omega)
      have hf1 := hblk3.frozen k
      have hset := hblk3.set k (divQ rr (lm xs k) b)
      rw [set_rep] at hset
      have HSET := shut hset
      have hbel3 := Below.after hbel' hb3
      have hkl : (k : Int) < (xs.length : Int) := by omega
      clear hset hblk' hblk hbel qa
      go_wp2
      exact ⟨⟨k, _, _, by omega, by go_num, rfl, HST.out, HSET.out, hbel3.setCell (Nat.le_refl _) _⟩, by simp [intOf]⟩
end Go.Proofs.Ytiahhpkpimaidab
