/-
  limb.guessLimb.
-/
import Derived.Test.YtiahhpkpimaidabShort
namespace Go.Proofs.Ytiahhpkpimaidab
open Go.RowKit

/-- What holds of a guess q with its rest r. -/
def GInv (U d1 be low q r : Nat) : Prop := q * d1 + r = U ∧ r < B64 ∧ q < B64 ∧ U * B64 + low < q * (d1 * B64 + be) + (d1 * B64 + be)
/-- The guess is the quotient of three limbs by two. -/
def GOk (U d1 be low q : Nat) : Prop := q < B64 ∧ q * (d1 * B64 + be) ≤ U * B64 + low ∧ U * B64 + low < q * (d1 * B64 + be) + (d1 * B64 + be)

theorem g_eq {U d1 be q r : Nat} (h : q * d1 + r = U) : q * (d1 * B64 + be) + r * B64 = U * B64 + q * be := by
  rw [← h, Nat.mul_add, Nat.add_mul, ← Nat.mul_assoc]; omega
theorem g_start {top nx d1 be low : Nat} (h : top < d1) (hn : nx < B64) (hd : d1 < B64) (hl : low < B64) : GInv (top * B64 + nx) d1 be low (divQ top nx d1) (divR top nx d1) := by
  obtain ⟨f1, f2, f3⟩ := div_facts h hn
  refine ⟨f3, Nat.lt_trans f2 hd, f1, ?_⟩
  have e := g_eq (be := be) f3
  have p : divR top nx d1 * B64 + B64 ≤ d1 * B64 := by
    have := Nat.mul_le_mul_right B64 (Nat.succ_le_of_lt f2)
    rwa [Nat.succ_mul] at this
  omega
theorem g_no {U d1 be low q r : Nat} (h : GInv U d1 be low q r) (ht : q * be ≤ r * B64 + low) : GOk U d1 be low q := by
  obtain ⟨h1, h2, h3, h4⟩ := h
  have e := g_eq (be := be) h1
  exact ⟨h3, by omega, h4⟩
theorem g_down {U d1 be low q r : Nat} (h : GInv U d1 be low q r) (hq : 0 < q) (ht : r * B64 + low < q * be) :
    (q - 1) * d1 + (r + d1) = U ∧ q - 1 < B64 ∧ U * B64 + low < (q - 1) * (d1 * B64 + be) + (d1 * B64 + be) := by
  obtain ⟨h1, h2, h3, h4⟩ := h
  have e := g_eq (be := be) h1
  obtain ⟨p, rfl⟩ : ∃ p, q = p + 1 := ⟨q - 1, by omega⟩
  rw [Nat.add_sub_cancel]
  have e2 : (p + 1) * d1 = p * d1 + d1 := Nat.succ_mul _ _
  have e3 : (p + 1) * (d1 * B64 + be) = p * (d1 * B64 + be) + (d1 * B64 + be) := Nat.succ_mul _ _
  refine ⟨by omega, by omega, by omega⟩
theorem g_brk {U d1 be low q r : Nat} (hb : be < B64) (h : GInv U d1 be low q r) (hq : 0 < q) (ht : r * B64 + low < q * be) (hr : B64 ≤ r + d1) : GOk U d1 be low (q - 1) := by
  obtain ⟨g1, g2, g3⟩ := g_down h hq ht
  have e := g_eq (be := be) g1
  have p1 : (q - 1) * be ≤ B64 * B64 := Nat.mul_le_mul (by omega) (by omega)
  have p2 : B64 * B64 ≤ (r + d1) * B64 := Nat.mul_le_mul_right _ hr
  exact ⟨g2, by omega, g3⟩

theorem mul_cmp {x y r low : Nat} (hl : low < B64) : (r < mulHi x y ∨ (mulHi x y = r ∧ low < mulLo x y)) ↔ r * B64 + low < x * y := by
  have e : 18446744073709551616 * mulHi x y + mulLo x y = x * y := Nat.div_add_mod _ _
  have hlo : mulLo x y < 18446744073709551616 := Nat.mod_lt _ (by omega)
  unfold B64 at *
  generalize mulHi x y = H at *
  generalize mulLo x y = L at *
  rw [← e]
  constructor
  · rintro (h | ⟨rfl, h⟩) <;> omega
  · intro h
    by_cases h1 : r < H
    · exact Or.inl h1
    · exact Or.inr ⟨by omega, by omega⟩

set_option maxRecDepth 100000 in
set_option maxHeartbeats 800000 in
theorem guess_lt (top nx low d1 be : Nat) (w : World) (ht : top < d1) (hn : nx < B64) (hl : low < B64) (hd : d1 < B64) (hb : be < B64) :
    Calls Try.prog 42 #[.int .u64 (top : Nat), .int .u64 (nx : Nat), .int .u64 (low : Nat), .int .u64 (d1 : Nat), .int .u64 (be : Nat)] w fun e w' => ∃ q : Nat, e = .returned (.int .u64 (q : Nat)) ∧ GOk (top * B64 + nx) d1 be low q ∧ Below w.heap.size w w' := by
  have ST := shut (g_start (be := be) ht hn hd hl)
  obtain ⟨U, hU⟩ : ∃ U, U = top * B64 + nx := ⟨_, rfl⟩
  rw [← hU] at ST ⊢
  obtain ⟨f1, f2, f3⟩ := div_facts ht hn
  have n1 : ¬ d1 ≤ top := by omega
  clear hU f3
  go_enter Try.func42, Try.ntmps42
  go_wp2_with fail
  refine (div64_any top nx d1 ht hd hn _).mono ?_
  rintro e w1 ⟨rfl, b1⟩
  go_wp2_with fail
  refine (mul64_any (divQ top nx d1) be f1 hb _).mono ?_
  rintro e w2 ⟨rfl, hw⟩
  have hw := hw.symm
  subst hw
  go_wp2
  go_loopw [11, 12, 13, 14] (fun a b c d wr => ∃ q r : Nat, a = .int .u64 (q : Nat) ∧ b = .int .u64 (r : Nat) ∧ c = .int .u64 (mulHi q be : Nat) ∧ d = .int .u64 (mulLo q be : Nat) ∧ GInv U d1 be low q r ∧ wr = w1) (fun a _ _ _ _ => (intOf a).toNat)
  case atStart => exact ⟨_, _, rfl, rfl, rfl, rfl, ST.out, rfl⟩
  case round =>
    obtain ⟨q, r, rfl, rfl, rfl, rfl, inv, hwr⟩ := hrel
    have hwr := hwr.symm
    subst hwr
    have INV := shut inv
    have hq := inv.2.2.1
    have hr := inv.2.1
    have hcmp := mul_cmp (x := q) (y := be) (r := r) hl
    have HC := shut hcmp
    clear inv hcmp
    by_cases hA : r < mulHi q be
    · have HT := shut (HC.out.1 (Or.inl hA))
      have q0 : 0 < q := by
        rcases Nat.eq_zero_or_pos q with h | h
        · subst h; have := HT.out; rw [Nat.zero_mul] at this; omega
        · exact h
      obtain ⟨p, rfl⟩ : ∃ p, q = p + 1 := ⟨q - 1, by omega⟩
      have hp : p < B64 := by omega
      have eWp : IntKind.u64.wrap (p : Int) = (p : Int) := wrapIn p hp
      by_cases hC : r + d1 < B64
      · obtain ⟨g1, g2, g3⟩ := g_down INV.out q0 HT.out
        rw [Nat.add_sub_cancel] at g1 g2 g3
        have NX := shut (show GInv U d1 be low p (r + d1) from ⟨g1, hC, g2, g3⟩)
        have hC' : r + d1 < 18446744073709551616 := hC
        clear g1 g2 g3
        go_wp2_with fail
        refine (mul64_any p be hp hb _).mono ?_
        rintro e w2 ⟨rfl, hw⟩
        have hw := hw.symm
        subst hw
        go_wp2
        go_roundw
        case rel => exact ⟨p, r + d1, by go_num, by go_num, rfl, rfl, NX.out, (by trivial)⟩
        case measure => simp [intOf]
      · have OK := shut (g_brk hb INV.out q0 HT.out (by omega))
        have eW : IntKind.u64.wrap (((r : Nat) : Int) + (d1 : Int)) = ((r + d1 - 18446744073709551616 : Nat) : Int) := by
          rw [IntKind.wrap_u64]; unfold B64 at *; omega
        obtain ⟨z, hz⟩ : ∃ z, z = r + d1 - 18446744073709551616 := ⟨_, rfl⟩
        have hzd : z < d1 := by unfold B64 at *; omega
        rw [← hz] at eW
        clear hz
        go_wp2
        go_ret
        refine ⟨p, ?_, by have h := OK.out; rwa [Nat.add_sub_cancel] at h, b1⟩
        first | rfl | exact congrArg (fun t => Ending.returned (Value.int .u64 t)) (by omega)
    · by_cases hB : mulHi q be = r ∧ low < mulLo q be
      · have HT := shut (HC.out.1 (Or.inr hB))
        obtain ⟨hE, hL⟩ := hB
        subst hE
        have q0 : 0 < q := by
          rcases Nat.eq_zero_or_pos q with h | h
          · subst h; have := HT.out; rw [Nat.zero_mul] at this; omega
          · exact h
        obtain ⟨p, rfl⟩ : ∃ p, q = p + 1 := ⟨q - 1, by omega⟩
        have hp : p < B64 := by omega
        have eWp : IntKind.u64.wrap (p : Int) = (p : Int) := wrapIn p hp
        by_cases hC : mulHi (p + 1) be + d1 < B64
        · obtain ⟨g1, g2, g3⟩ := g_down INV.out q0 HT.out
          rw [Nat.add_sub_cancel] at g1 g2 g3
          have NX := shut (show GInv U d1 be low p (mulHi (p + 1) be + d1) from ⟨g1, hC, g2, g3⟩)
          have hC' : mulHi (p + 1) be + d1 < 18446744073709551616 := hC
          clear g1 g2 g3
          go_wp2_with fail
          refine (mul64_any p be hp hb _).mono ?_
          rintro e w2 ⟨rfl, hw⟩
          have hw := hw.symm
          subst hw
          go_wp2
          go_roundw
          case rel => exact ⟨p, mulHi (p + 1) be + d1, by go_num, by go_num, rfl, rfl, NX.out, (by trivial)⟩
          case measure => simp [intOf]
        · have OK := shut (g_brk hb INV.out q0 HT.out (by omega))
          have eW : IntKind.u64.wrap (((mulHi (p + 1) be : Nat) : Int) + (d1 : Int)) = ((mulHi (p + 1) be + d1 - 18446744073709551616 : Nat) : Int) := by
            rw [IntKind.wrap_u64]; unfold B64 at *; omega
          obtain ⟨z, hz⟩ : ∃ z, z = mulHi (p + 1) be + d1 - 18446744073709551616 := ⟨_, rfl⟩
          have hzd : z < d1 := by unfold B64 at *; omega
          rw [← hz] at eW
          clear hz
          go_wp2
          go_ret
          refine ⟨p, ?_, by have h := OK.out; rwa [Nat.add_sub_cancel] at h, b1⟩
          first | rfl | exact congrArg (fun t => Ending.returned (Value.int .u64 t)) (by omega)
      · have OK := shut (g_no INV.out (Nat.not_lt.1 (fun h => hB ((HC.out.2 h).resolve_left hA))))
        by_cases hE : mulHi q be = r
        · have hL : ¬ low < mulLo q be := fun h => hB ⟨hE, h⟩
          subst hE
          clear hB
          go_wp2
          go_ret
          exact ⟨q, rfl, OK.out, b1⟩
        · clear hB
          go_wp2
          go_ret
          exact ⟨q, rfl, OK.out, b1⟩
end Go.Proofs.Ytiahhpkpimaidab
