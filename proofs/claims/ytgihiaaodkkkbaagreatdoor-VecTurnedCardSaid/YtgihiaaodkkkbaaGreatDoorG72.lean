/-
  Rows of rational numbers that a call makes; appends to them.
  gussetref04's Det: the rows of a minor.
-/
import Derived.Lib.AppendIntMem
import Derived.Shelf.LaysM
import Derived.Shelf.Strconv.Itoa2
import Derived.Test.YtgihiaaodkkkbaaGreatDoorG39
namespace Go.Proofs.YtgihiaaodkkkbaaGreatDoor
open Go.RowKit

/-- Rational numbers, one behind the other. -/
def fq (z : Nat → Rat) (i : Nat) : Value := if i % 3 = 0 then .bool (nfZ (z (i / 3)).num) else if i % 3 = 1 then .string (sfZ (z (i / 3)).num) else .string (strOf (z (i / 3)).den)
def flq (n : Nat) (z : Nat → Rat) : List Value := (List.range (n * 3)).map (fq z)
/-- Two rows, one behind the other. -/
def catq (n : Nat) (x y : Nat → Rat) : Nat → Rat := fun j => if j < n then x j else y (j - n)
theorem flq_cat (n m : Nat) (x y : Nat → Rat) : flq n x ++ flq m y = flq (n + m) (catq n x y) := by
 unfold flq
 rw [Nat.add_mul, List.range_add, List.map_append, List.map_map]
 congr 1
 ·refine List.map_congr_left fun i hi => ?_
  rw [List.mem_range] at hi
  unfold fq catq
  rw [if_pos (show i / 3 < n by omega)]
 ·refine List.map_congr_left fun i hi => ?_
  show fq y i = fq (catq n x y) (n * 3 + i)
  unfold fq catq
  rw [show (n * 3 + i) % 3 = i % 3 by omega, show (n * 3 + i) / 3 = n + i / 3 by omega, if_neg (show ¬ n + i / 3 < n by omega), show n + i / 3 - n = i / 3 by omega]
theorem flq_get {n : Nat} {z : Nat → Rat} {i : Nat} {u : Value} (h : (flq n z)[i]? = some u) : i < n * 3 ∧ u = fq z i := by
 unfold flq at h
 rw [List.getElem?_map] at h
 by_cases hi : i < n * 3
 ·rw [List.getElem?_range hi] at h
  simp only [Option.map_some, Option.some.injEq] at h
  exact ⟨hi, h.symm⟩
 ·rw [List.getElem?_eq_none (by simp; omega)] at h; cases h
theorem rdqi_cell {w : World} {b off n : Nat} {z : Nat → Rat} (h : RdQI w (some ⟨b, off, none⟩) n z) {i : Nat} (hi : i < n * 3) : w.cell? ⟨b, off + i, none⟩ = some (fq z i) := by
 obtain ⟨b', off', e, h0, h1, h2⟩ := h (i / 3) (by omega)
 simp only [Option.some.injEq, Addr.mk.injEq] at e
 obtain ⟨rfl, rfl, -⟩ := e
 unfold fq
 by_cases c0 : i % 3 = 0
 ·rw [if_pos c0, ← h0, show off + i = off + i / 3 * 3 by omega]
 ·rw [if_neg c0]
  by_cases c1 : i % 3 = 1
  ·rw [if_pos c1, ← h1, show off + i = off + i / 3 * 3 + 1 by omega]
  ·rw [if_neg c1, ← h2, show off + i = off + i / 3 * 3 + 2 by omega]
theorem rdqi_of {w : World} {b off n : Nat} {z : Nat → Rat} (h : ∀ i, i < n * 3 → w.cell? ⟨b, off + i, none⟩ = some (fq z i)) : RdQI w (some ⟨b, off, none⟩) n z := by
 intro j hj
 refine ⟨b, off, rfl, ?_, ?_, ?_⟩
 ·rw [h (j * 3) (by omega)]; unfold fq; rw [if_pos (by omega), show j * 3 / 3 = j by omega]
 ·rw [Nat.add_assoc, h (j * 3 + 1) (by omega)]; unfold fq; rw [if_neg (by omega), if_pos (by omega), show (j * 3 + 1) / 3 = j by omega]
 ·rw [Nat.add_assoc, h (j * 3 + 2) (by omega)]; unfold fq; rw [if_neg (by omega), if_neg (by omega), show (j * 3 + 2) / 3 = j by omega]
theorem cellsQ0 : Value.cells (.agg #[.bool false, .string { data := #[] }, .string { data := #[] }]) = #[.bool false, .string { data := #[] }, .string { data := #[] }] := by kernel_rfl
theorem wpList_appQ {w : World} {ops : Array Oper} {rest : List Oper} {o : Oper} {a : Act} {Q : Exit → Act → World → Prop}
  (hg : o.guard = none) (s x : Operand) (hop : o.op = Op.call { callee := Callee.builtin Builtin.append, args := #[s, x], argTypes := #[27, 27] })
  (sv : Value) (n : Nat) (vs : List Value) (hs : a.eval s = sv) (B : Nat) (hown : w.ownsRow B 32 3 sv n vs) (hB : B ≤ w.heap.size) (b off m c : Nat) (z : Nat → Rat) (hx : a.eval x = .slice (some ⟨b, off, none⟩) m c)
  (hc : RdQI w (some ⟨b, off, none⟩) m z) (hn : n + m ≤ 1000000)
  (hK : ∀ v' w', w'.ownsRow B 32 3 v' (n + m) (vs ++ flq m z) → w.grownBy w' sv.ownBlock → (v' = .slice none 0 0 ↔ sv = .slice none 0 0 ∧ m = 0) → wpList Tryz.prog ops Q rest (a.put o.dst v') w') :
  wpList Tryz.prog ops Q (o :: rest) a w := by
 obtain ⟨i0, hi, hz0, hz1, hz2⟩ := info_parts (show (Tryz.prog.info? 32).map (fun i => (i.zero, i.size, i.bytes)) = some (some (.agg #[.bool false, .string ⟨#[]⟩, .string ⟨#[]⟩]), 3, 40) by kernel_rfl)
 refine wpList_append_own _ hg s x 27 hop B 32 i0 (.agg #[.bool false, .string ⟨#[]⟩, .string ⟨#[]⟩]) 3 40 Tryz.underlying27 hi hz0 hz1 hz2 (by rw [cellsQ0]; rfl) (by decide) sv n vs hs hown ⟨b, off, none⟩ m c (flq m z) hx (by simp [flq]) ?_ ?_ ?_ ?_ hB hK
 ·intro j u hj
  obtain ⟨h1, rfl⟩ := flq_get hj
  rw [add_at]; exact rdqi_cell hc h1
 ·intro u hu
  unfold flq at hu
  rw [List.mem_map] at hu
  obtain ⟨y, -, rfl⟩ := hu
  unfold fq
  split
  ·rfl
  ·split <;> rfl
 ·unfold maxLen; omega
 ·omega
theorem rdQ_own {w : World} {B n g cap : Nat} {z : Nat → Rat} (h : w.ownsRow B 32 3 (.slice (some ⟨g, 0, none⟩) n cap) n (flq n z)) : RdQI w (some ⟨g, 0, none⟩) n z := by
 refine rdqi_of fun i hi => ?_
 have := World.ownsRow.cells h (g := g) rfl i (fq z i) (by unfold flq; rw [List.getElem?_map, List.getElem?_range hi]; rfl)
 rwa [add_at] at this
end Go.Proofs.YtgihiaaodkkkbaaGreatDoor
namespace Go.Proofs.YtgihiaaodkkkbaaGreatDoor
open Go.RowKit

/-- The first l rows of a minor, as the call has made them. -/
def MinR (w : World) (B : Nat) (v : Value) (l n : Nat) (q : Nat → Nat → Rat) : Prop :=
 ∃ vs : List Value, w.ownsRow B 27 1 v l vs ∧ ∀ t, t < l → ∃ g c, vs[t]? = some (.slice (some ⟨g, 0, none⟩) n c) ∧ n ≤ c ∧ w.ownsRow B 32 3 (.slice (some ⟨g, 0, none⟩) n c) n (flq n (q t))
theorem MinR.below {w w' : World} {B l n : Nat} {v : Value} {q : Nat → Nat → Rat} (h : MinR w B v l n q) (hb : Below w.heap.size w w') : MinR w' B v l n q := by
 obtain ⟨vs, h1, h2⟩ := h
 refine ⟨vs, own_below h1 hb, fun t ht => ?_⟩
 obtain ⟨g, c, e, hc, h3⟩ := h2 t ht
 exact ⟨g, c, e, hc, own_below h3 hb⟩
theorem MinR.rdR {w : World} {B n g c : Nat} {q : Nat → Nat → Rat} (h : MinR w B (.slice (some ⟨g, 0, none⟩) n c) n n q) : RdR w (some ⟨g, 0, none⟩) n n q := by
 obtain ⟨vs, h1, h2⟩ := h
 intro i hi
 obtain ⟨g', c', e, hc, h3⟩ := h2 i hi
 refine ⟨g, 0, some ⟨g', 0, none⟩, c', rfl, ?_, hc, rdQ_own h3⟩
 have := World.ownsRow.cells h1 (g := g) rfl i _ e
 rwa [add_at] at this
/-- A row more. -/
theorem MinR.more {w w' : World} {B l n g c : Nat} {v v' : Value} {vs : List Value} {q : Nat → Nat → Rat} (h1 : w.ownsRow B 27 1 v l vs) (h2 : ∀ t, t < l → ∃ g c, vs[t]? = some (.slice (some ⟨g, 0, none⟩) n c) ∧ n ≤ c ∧ w.ownsRow B 32 3 (.slice (some ⟨g, 0, none⟩) n c) n (flq n (q t)))
  (hr : w.ownsRow B 32 3 (.slice (some ⟨g, 0, none⟩) n c) n (flq n (q l))) (hc : n ≤ c) (o : w'.ownsRow B 27 1 v' (l + 1) (vs ++ [.slice (some ⟨g, 0, none⟩) n c])) (hg : w.grownBy w' v.ownBlock) : MinR w' B v' (l + 1) n q := by
 have keep : ∀ (u : Value) (xs : List Value), w.ownsRow B 32 3 u n xs → w'.ownsRow B 32 3 u n xs := fun u xs hu => hu.kept hg (by
  cases hv : u.ownBlock with
  | none => exact Or.inl rfl
  | some b =>
   refine Or.inr fun e => ?_
   obtain ⟨cs, hh⟩ := ownN_type hu b hv
   obtain ⟨cs', hh'⟩ := ownN_type h1 b e.symm
   rw [hh] at hh'
   simp at hh')
 have hl : vs.length = l := by have := h1.1; omega
 refine ⟨_, o, fun t ht => ?_⟩
 by_cases e : t = l
 ·subst e
  exact ⟨g, c, by rw [List.getElem?_append_right (by omega), hl, Nat.sub_self]; rfl, hc, keep _ _ hr⟩
 ·obtain ⟨g', c', e', hc', h3⟩ := h2 t (by omega)
  exact ⟨g', c', by rw [List.getElem?_append_left (by omega)]; exact e', hc', keep _ _ h3⟩
theorem rdqi_some {w : World} {a : Option Addr} {n : Nat} {z : Nat → Rat} (h : RdQI w a n z) (hn : 0 < n) : ∃ b off, a = some ⟨b, off, none⟩ := by
 obtain ⟨b, off, e, -⟩ := h 0 hn
 exact ⟨b, off, e⟩
end Go.Proofs.YtgihiaaodkkkbaaGreatDoor
