/-
  gussetlaw01: copied, small.
-/
import Derived.Test.YtiahhpkpimaidabJoin
namespace Go.Proofs.Ytiahhpkpimaidab
open Go.RowKit

/-- 'append(nil, xs...)'. -/
theorem wpList_appN {w : World} {ops : Array Oper} {rest : List Oper} {o : Oper} {a : Act} {Q : Exit → Act → World → Prop}
    (hg : o.guard = none) (s x : Operand) (hop : o.op = Op.call { callee := Callee.builtin Builtin.append, args := #[s, x], argTypes := #[24, 24] })
    (hs : a.eval s = .slice none 0 0) (b off n cap : Nat) (hx : a.eval x = .slice (some ⟨b, off, none⟩) n cap) (xs : List Nat) (hn : n = xs.length)
    (hc : ∀ j, j < xs.length → w.cell? ⟨b, off + j, none⟩ = some (.int .u64 (lm xs j : Nat))) (hl : xs.length ≤ 10000000)
    (hK : ∀ v' w', Own w' w.heap.size v' xs → Below w.heap.size w w' → wpList Try.prog ops Q rest (a.put o.dst v') w') :
    wpList Try.prog ops Q (o :: rest) a w := by
  obtain ⟨i0, hi, hz0, hz1, hz2⟩ := info_parts (show (Try.prog.info? 22).map (fun i => (i.zero, i.size, i.bytes)) = some (some (.int .u64 0), 1, 8) by kernel_rfl)
  subst hn
  refine wpList_append_own _ hg s x 24 hop w.heap.size 22 i0 (.int .u64 0) 1 8 Try.underlying24 hi hz0 hz1 hz2 rfl (by decide) (.slice none 0 0) 0 [] hs (World.ownsRow_nil _ _ _ _) ⟨b, off, none⟩ xs.length cap (xs.map fun x => Value.int .u64 (x : Nat)) hx (by simp) ?_ ?_ ?_ ?_ (Nat.le_refl _) ?_
  · intro j u hj
    have hj' : j < xs.length := by
      have := List.getElem?_eq_some_iff.1 hj
      simpa using this.1
    have h := hc j hj'
    simp [hj'] at hj
    subst hj
    by_cases h0 : j = 0
    · subst h0; simpa [Addr.add, lm, hj'] using h
    · simpa [Addr.add, h0, lm, hj'] using h
  · intro u hu; simp at hu; obtain ⟨y, _, rfl⟩ := hu; rfl
  · unfold maxLen; omega
  · omega
  · intro v' w1 hown' hgrow _
    refine hK v' w1 ?_ ?_
    · unfold Own; simpa using hown'
    · exact (Below.refl _ _).grown hgrow (Nat.le_refl _) (fun k hk => by simp [Value.ownBlock] at hk)

end Go.Proofs.Ytiahhpkpimaidab
