/-
  gussetlaw01: copied, small.
-/
import Derived.Test.YtiahhpkpimaidaaJoin
namespace Go.Proofs.Ytiahhpkpimaidaa
open Go.RowKit

/-- 'append(nil, xs...)'. -/
theorem wpList_appN {w : World} {ops : Array Oper} {rest : List Oper} {o : Oper} {a : Act} {Q : Exit → Act → World → Prop}
    (hg : o.guard = none) (s x : Operand) (hop : o.op = Op.call { callee := Callee.builtin Builtin.append, args := #[s, x], argTypes := #[23, 23] })
    (hs : a.eval s = .slice none 0 0) (b off n cap : Nat) (hx : a.eval x = .slice (some ⟨b, off, none⟩) n cap) (xs : List Nat) (hn : n = xs.length)
    (hc : ∀ j, j < xs.length → w.cell? ⟨b, off + j, none⟩ = some (.int .u64 (lm xs j : Nat))) (hl : xs.length ≤ 10000000)
    (hK : ∀ v' w', Own w' w.heap.size v' xs → Below w.heap.size w w' → wpList Try.prog ops Q rest (a.put o.dst v') w') :
    wpList Try.prog ops Q (o :: rest) a w := by
  obtain ⟨i0, hi, hz0, hz1, hz2⟩ := info_parts (show (Try.prog.info? 46).map (fun i => (i.zero, i.size, i.bytes)) = some (some (.int .u64 0), 1, 8) by kernel_rfl)
  subst hn
  refine wpList_append_own _ hg s x 23 hop w.heap.size 46 i0 (.int .u64 0) 1 8 Try.underlying23 hi hz0 hz1 hz2 rfl (by decide) (.slice none 0 0) 0 [] hs (World.ownsRow_nil _ _ _ _) ⟨b, off, none⟩ xs.length cap (xs.map fun x => Value.int .u64 (x : Nat)) hx (by simp) ?_ ?_ ?_ ?_ (Nat.le_refl _) ?_
  · intro j u hj
    have hj' : j < xs.length := by
      have := List.getElem?_eq_some_iff.1 hj
      simpa using this.1
    have h := hc j hj'
    simp [hj'] at hj
    subst hj
    by_cases h0 : j = 0
    · subst h0; simpa [Addr.add, lm, hj'] using h
    · simpa [Addr.add, h0, lm, hj'] using h
  · intro u hu; simp at hu; obtain ⟨y, _, rfl⟩ := hu; rfl
  · unfold maxLen; omega
  · omega
  · intro v' w1 hown' hgrow _
    refine hK v' w1 ?_ ?_
    · unfold Own; simpa using hown'
    · exact (Below.refl _ _).grown hgrow (Nat.le_refl _) (fun k hk => by simp [Value.ownBlock] at hk)

theorem copied_any (v : Value) (xs : List Nat) (w : World) (hv : Rd w v xs) (hx : xs.length ≤ 100000) :
    Calls Try.prog 19 #[v] w fun e w' => ∃ v', e = .returned v' ∧ Rd w' v' xs ∧ Below w.heap.size w w' := by
  obtain ⟨a, cap, rfl, hcap, hc⟩ := hv
  match xs with
  | [] =>
    cases a with
    | none =>
      go_enter Try.func19, Try.ntmps19
      go_wp2
      go_ret
      exact ⟨_, rfl, ⟨none, 0, rfl, by simp, fun j hj => by simp at hj⟩, Below.refl _ _⟩
    | some ad =>
      go_enter Try.func19, Try.ntmps19
      go_wp2
      go_ret
      exact ⟨_, rfl, ⟨none, 0, rfl, by simp, fun j hj => by simp at hj⟩, Below.refl _ _⟩
  | x :: r =>
    obtain ⟨b, off, rfl, _⟩ := hc 0 (by simp)
    have hc' : ∀ j, j < (x :: r).length → w.cell? ⟨b, off + j, none⟩ = some (.int .u64 (lm (x :: r) j : Nat)) := fun j hj => by
      obtain ⟨b', o', he, h⟩ := hc j hj
      simp at he
      obtain ⟨rfl, rfl⟩ := he
      exact h
    have HC : Hid (∀ j, j < (x :: r).length → w.cell? ⟨b, off + j, none⟩ = some (.int .u64 (lm (x :: r) j : Nat))) := hc'
    clear hc hc'
    obtain ⟨n, hn⟩ : ∃ n, n = (x :: r).length := ⟨_, rfl⟩
    rw [← hn]
    have HN : Hid (n = (x :: r).length) := hn
    clear hn
    go_enter Try.func19, Try.ntmps19
    go_wp2_with (at_builtin; refine wpList_appN rfl _ _ rfl rfl b off n cap rfl (x :: r) HN.out HC.out (by omega) ?_; intro v' w1 hown hbel)
    go_ret
    exact ⟨_, rfl, hown.rd, hbel⟩

theorem small_yes (a b : Option Addr) (m n c d : Nat) (w : World) (hm : m ≤ 60) (hn : n ≤ 60) :
    Calls Try.prog 18 #[.slice a m c, .slice b n d] w fun e w' => e = .returned (.bool true) ∧ w' = w := by
  have hd : decide ((n : Int) ≤ 60) = true := by simp; omega
  go_enter Try.func18, Try.ntmps18
  go_wp2
  go_ret
  exact ⟨rfl, rfl⟩
theorem small_no (a b : Option Addr) (m n c d : Nat) (w : World) (h : ¬ (m ≤ 60 ∧ n ≤ 60)) :
    Calls Try.prog 18 #[.slice a m c, .slice b n d] w fun e w' => e = .returned (.bool false) ∧ w' = w := by
  by_cases hm : m ≤ 60
  · have hn : ¬ n ≤ 60 := fun hn => h ⟨hm, hn⟩
    have hd : decide ((n : Int) ≤ 60) = false := by simp; omega
    clear h
    go_enter Try.func18, Try.ntmps18
    go_wp2
    go_ret
    exact ⟨rfl, rfl⟩
  · clear h
    go_enter Try.func18, Try.ntmps18
    go_wp2
    go_ret
    exact ⟨rfl, rfl⟩
end Go.Proofs.Ytiahhpkpimaidaa
