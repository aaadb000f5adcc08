/-
  Package gussetref01: Cmp, Same.
-/
import Derived.Test.YtiahhpkpimaidaaRefs
import Derived.Test.YtiahhpkpimaidaaOrds
import Derived.Test.YtiahhpkpimaidaaMath2
import Derived.WalkSmall
namespace Go.Proofs.Ytiahhpkpimaidaa
open Go.RowKit

theorem Rd.at {w w' : World} {a : Option Addr} {n cap : Nat} {xs : List Nat} (h : Rd w (.slice a n cap) xs) (hb : Below w.heap.size w w') {j : Nat} (hj : j < xs.length) :
    ∃ b off, a = some ⟨b, off, none⟩ ∧ w'.cell? ⟨b, off + j, none⟩ = some (.int .u64 (lm xs j : Nat)) := by
  obtain ⟨a', c', e, _, h'⟩ := h.below hb
  simp only [Value.slice.injEq] at e
  obtain ⟨rfl, rfl, rfl⟩ := e
  exact h' j hj

set_option maxHeartbeats 1000000 in
theorem rcmp_any (bs : Nat) (hbs : 0 < bs) (va vb : Value) (xs ys : List Nat) (w : World) (ha : Rd w va xs) (hb : Rd w vb ys) (la : M.Low bs xs) (lb : M.Low bs ys) (ta : M.Trim xs) (tb : M.Trim ys) (hx : xs.length ≤ 100000) :
    Calls Try.prog 23 #[va, vb] w fun e w' => e = .returned (.int .i64 (cmpN (M.val bs xs) (M.val bs ys))) ∧ Below w.heap.size w w' := by
  have ha0 := ha
  have hb0 := hb
  obtain ⟨a, ca, rfl, hca, -⟩ := ha
  obtain ⟨b, cb, rfl, hcb, -⟩ := hb
  rcases Nat.lt_trichotomy xs.length ys.length with h | h | h
  · have HV : Hid (cmpN (M.val bs xs) (M.val bs ys) = -1) := cmpN_lt (M.lt_of_length hbs la tb h)
    go_enter Try.func23, Try.ntmps23
    go_wp2
    go_ret
    exact ⟨by rw [HV.out]; rfl, Below.refl _ _⟩
  · have HL : Hid (xs.length = ys.length) := h
    rw [← h] at hb0 hcb ⊢
    clear h
    go_enter Try.func23, Try.ntmps23
    go_wp2
    go_loopw [5] (fun i wr => ∃ k : Nat, k ≤ xs.length ∧ i = .int .i64 ((k : Int) - 1) ∧ (∀ j, k ≤ j → lm xs j = lm ys j) ∧ Below w.heap.size w wr) (fun i _ => (intOf i + 1).toNat)
    case atStart => exact ⟨xs.length, Nat.le_refl _, rfl, fun j hj => by rw [lm_ge hj, lm_ge (by have := HL.out; omega)], Below.refl _ _⟩
    case round =>
      obtain ⟨k, hk, rfl, heq, hbel⟩ := hrel
      have HE : Hid (∀ j, k ≤ j → lm xs j = lm ys j) := heq
      clear heq
      match k with
      | 0 =>
        have HV : Hid (cmpN (M.val bs xs) (M.val bs ys) = 0) := cmpN_eq (M.val_ext _ (fun j => HE.out j (by omega)))
        go_wp2
        go_ret
        exact ⟨by rw [HV.out]; rfl, hbel⟩
      | k + 1 =>
        have e1 : (((k + 1 : Nat) : Int) - 1) = (k : Int) := by omega
        rw [e1]
        obtain ⟨b1, o1, rfl, q1⟩ := ha0.at hbel (j := k) (by omega)
        obtain ⟨b2, o2, rfl, q2⟩ := hb0.at hbel (j := k) (by have := HL.out; omega)
        have hk' : (k : Int) < xs.length := by omega
        rcases Nat.lt_trichotomy (lm xs k) (lm ys k) with h | h | h
        · have HV : Hid (cmpN (M.val bs xs) (M.val bs ys) = -1) := cmpN_lt (M.lt_of_top hbs k la (fun j hj => HE.out j (by omega)) h)
          go_wp2
          go_quiet (fail)
          go_wp2
          go_ret
          exact ⟨by rw [HV.out]; rfl, below_drewN hbel _⟩
        · have HQ : Hid (lm xs k = lm ys k) := h
          have h1 : ¬ lm xs k < lm ys k := by omega
          have h2 : ¬ lm ys k < lm xs k := by omega
          clear h
          go_wp2
          go_quiet (fail)
          go_wp2
          go_quiet (fail)
          go_wp2
          refine ⟨⟨k, by omega, by go_num, fun j hj => ?_, below_drewN hbel _⟩, by simp [intOf]⟩
          by_cases e : j = k
          · subst e; exact HQ.out
          · exact HE.out j (by omega)
        · have HV : Hid (cmpN (M.val bs xs) (M.val bs ys) = 1) := cmpN_gt (M.lt_of_top hbs k lb (fun j hj => (HE.out j (by omega)).symm) h)
          have h1 : ¬ lm xs k < lm ys k := by omega
          go_wp2
          go_quiet (fail)
          go_wp2
          go_quiet (fail)
          go_wp2
          go_ret
          exact ⟨by rw [HV.out]; rfl, below_drewN (below_drewN hbel _) _⟩
  · have HV : Hid (cmpN (M.val bs xs) (M.val bs ys) = 1) := cmpN_gt (M.lt_of_length hbs lb ta h)
    have h1 : ¬ xs.length < ys.length := by omega
    go_enter Try.func23, Try.ntmps23
    go_wp2
    go_ret
    exact ⟨by rw [HV.out]; rfl, Below.refl _ _⟩

set_option maxHeartbeats 1000000 in
/-- Two rows that are the same. -/
theorem same_true (va vb : Value) (xs : List Nat) (w : World) (ha : Rd w va xs) (hb : Rd w vb xs) (hx : xs.length ≤ 100000) :
    Calls Try.prog 13 #[va, vb] w fun e w' => e = .returned (.bool true) ∧ Below w.heap.size w w' := by
  have ha0 := ha
  have hb0 := hb
  obtain ⟨a, ca, rfl, hca, -⟩ := ha
  obtain ⟨b, cb, rfl, hcb, -⟩ := hb
  go_enter Try.func13, Try.ntmps13
  go_wp2
  go_loopw [5] (fun i wr => ∃ k : Nat, k ≤ xs.length ∧ i = .int .i64 k ∧ Below w.heap.size w wr) (fun i _ => xs.length - (intOf i).toNat)
  case atStart => exact ⟨0, by omega, rfl, Below.refl _ _⟩
  case round =>
    obtain ⟨k, hk, rfl, hbel⟩ := hrel
    by_cases hlt : k < xs.length
    · obtain ⟨b1, o1, rfl, q1⟩ := ha0.at hbel hlt
      obtain ⟨b2, o2, rfl, q2⟩ := hb0.at hbel hlt
      go_wp2
      go_quiet (fail)
      go_wp2
      exact ⟨⟨k + 1, by omega, by go_num, below_drewN hbel _⟩, by simp [intOf]; omega⟩
    · go_wp2
      go_ret
      exact ⟨rfl, hbel⟩
end Go.Proofs.Ytiahhpkpimaidaa
