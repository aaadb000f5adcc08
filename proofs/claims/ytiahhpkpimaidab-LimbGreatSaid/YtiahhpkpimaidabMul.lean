/-
  limb.product whole; limb.Mul.
-/
import Derived.Test.YtiahhpkpimaidabProd3
namespace Go.Proofs.Ytiahhpkpimaidab
open Go.RowKit

theorem Made.swap {w : World} {X Y n X' Y' n' : Nat} {e : Ending} {w' : World} (h : Made w X Y n e w') (h1 : X * Y = X' * Y') (h2 : n = n') : Made w X' Y' n' e w' := by
  obtain ⟨g, zs, a, b, c, d, e, f⟩ := h
  exact ⟨g, zs, a, b, by omega, d, by rw [e, h1], f⟩

theorem prodSpec : ∀ N, N ≤ 100000 → ProdSpec N
  | 0, _ => fun va vb xs ys w ha hb la lb hN => (product_short va vb xs ys w ha hb la lb (by omega) (by omega) (by omega)).1
  | N + 1, hNN => fun va vb xs ys w ha hb la lb hN => by
    have ih := prodSpec N (by omega)
    rcases Nat.lt_trichotomy ys.length xs.length with h | h | h
    · by_cases h40 : ys.length < 40
      · exact (product_short va vb xs ys w ha hb la lb (by omega) h40 (by omega)).1
      · exact (product_long N ih va vb xs ys w ha hb la lb h (by omega) (by omega) (by omega)).1
    · by_cases h40 : ys.length < 40
      · exact (product_short va vb xs ys w ha hb la lb (by omega) h40 (by omega)).1
      · exact product_eq N ih va vb xs ys w ha hb la lb h (by omega) (by omega) (by omega)
    · by_cases h40 : xs.length < 40
      · exact ((product_short vb va ys xs w hb ha lb la (by omega) h40 (by omega)).2 h).mono (fun _ _ r => r.swap (Nat.mul_comm _ _) (Nat.add_comm _ _))
      · exact (product_long N ih vb va ys xs w hb ha lb la h (by omega) (by omega) (by omega)).2.mono (fun _ _ r => r.swap (Nat.mul_comm _ _) (Nat.add_comm _ _))

set_option maxHeartbeats 1000000 in
theorem mul_any (va vb : Value) (xs ys : List Nat) (w : World) (ha : Rd w va xs) (hb : Rd w vb ys) (la : M.Low B64 xs) (lb : M.Low B64 ys) (hx : xs.length ≤ 4000) (hy : ys.length ≤ 4000) :
    Calls Try.prog 8 #[va, vb] w fun e w' => ∃ v, e = .returned (.tuple #[v, .int .i64 0]) ∧ Rd w' v (M.digs B64 (M.val B64 xs * M.val B64 ys)) ∧ Below w.heap.size w w' := by
  have ha0 := ha
  have hb0 := hb
  obtain ⟨a, ca, rfl, hca, -⟩ := ha
  obtain ⟨b, cb, rfl, hcb, -⟩ := hb
  have l1 := M.digs_length_le B64_two la
  have l2 := M.digs_length_le B64_two lb
  go_enter Try.func8, Try.ntmps8
  go_wp2_with fail
  refine (tooLong2 a b xs.length ys.length ca cb _ 0 2 _ (by simp [go_sem]) (by simp [go_sem]) hx hy).mono ?_
  rintro e w1 ⟨rfl, rfl⟩
  have hb1 : Below w.heap.size w (w.alloc (.cells #[.slice a xs.length ca, .slice b ys.length cb] 24)) := by go_grown
  have ra := ha0.below hb1
  have rb := hb0.below hb1
  go_wp2_with fail
  refine (trimmed_any _ _ xs ra la (by omega)).mono ?_
  rintro e w1 ⟨v1, rfl, r1, rfl⟩
  go_wp2_with fail
  refine (trimmed_any _ _ ys rb lb (by omega)).mono ?_
  rintro e w1 ⟨v2, rfl, r2, rfl⟩
  have h43 := prodSpec 8000 (by omega) v1 v2 _ _ _ r1 r2 (M.Low.digs B64_two _) (M.Low.digs B64_two _) (by omega)
  rw [M.val_digs B64_two, M.val_digs B64_two] at h43
  have H43 := shut h43
  generalize w.alloc (.cells #[.slice a xs.length ca, .slice b ys.length cb] 24) = W at *
  clear h43
  go_wp2_with fail
  refine H43.out.mono ?_
  rintro e w2 ⟨g, zs, rfl, k2, n2, lz, v2', s2, f2⟩
  have rz := k2.rd0 _ (Nat.le_refl _)
  have V2 := shut v2'
  have N2 := shut n2
  clear v2' n2
  go_wp2_with fail
  refine (trimmed_any _ _ zs rz lz (by rw [N2.out]; omega)).mono ?_
  rintro e w3 ⟨v3, rfl, r3, rfl⟩
  go_wp2
  go_ret2
  exact ⟨_, rfl, by rw [← V2.out]; exact r3, Below.after hb1 f2⟩
end Go.Proofs.Ytiahhpkpimaidab
