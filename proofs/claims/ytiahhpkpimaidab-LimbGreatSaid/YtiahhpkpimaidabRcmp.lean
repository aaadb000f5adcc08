/-
  Package gussetref01: Cmp, Same.
-/
import Derived.Test.YtiahhpkpimaidabRefs
import Derived.Test.YtiahhpkpimaidabOrds
import Derived.Test.YtiahhpkpimaidabMath2
import Derived.WalkSmall
namespace Go.Proofs.Ytiahhpkpimaidab
open Go.RowKit

theorem Rd.at {w w' : World} {a : Option Addr} {n cap : Nat} {xs : List Nat} (h : Rd w (.slice a n cap) xs) (hb : Below w.heap.size w w') {j : Nat} (hj : j < xs.length) :
    ∃ b off, a = some ⟨b, off, none⟩ ∧ w'.cell? ⟨b, off + j, none⟩ = some (.int .u64 (lm xs j : Nat)) := by
  obtain ⟨a', c', e, _, h'⟩ := h.below hb
  simp only [Value.slice.injEq] at e
  obtain ⟨rfl, rfl, rfl⟩ := e
  exact h' j hj

set_option maxHeartbeats 1000000 in
/-- Two rows that are the same. -/
theorem same_true (va vb : Value) (xs : List Nat) (w : World) (ha : Rd w va xs) (hb : Rd w vb xs) (hx : xs.length ≤ 100000) :
    Calls Try.prog 12 #[va, vb] w fun e w' => e = .returned (.bool true) ∧ Below w.heap.size w w' := by
  have ha0 := ha
  have hb0 := hb
  obtain ⟨a, ca, rfl, hca, -⟩ := ha
  obtain ⟨b, cb, rfl, hcb, -⟩ := hb
  go_enter Try.func12, Try.ntmps12
  go_wp2
  go_loopw [5] (fun i wr => ∃ k : Nat, k ≤ xs.length ∧ i = .int .i64 k ∧ Below w.heap.size w wr) (fun i _ => xs.length - (intOf i).toNat)
  case atStart => exact ⟨0, by omega, rfl, Below.refl _ _⟩
  case round =>
    obtain ⟨k, hk, rfl, hbel⟩ := hrel
    by_cases hlt : k < xs.length
    · obtain ⟨b1, o1, rfl, q1⟩ := ha0.at hbel hlt
      obtain ⟨b2, o2, rfl, q2⟩ := hb0.at hbel hlt
      go_wp2
      go_quiet (fail)
      go_wp2
      exact ⟨⟨k + 1, by omega, by go_num, below_drewN hbel _⟩, by simp [intOf]; omega⟩
    · go_wp2
      go_ret
      exact ⟨rfl, hbel⟩
end Go.Proofs.Ytiahhpkpimaidab
