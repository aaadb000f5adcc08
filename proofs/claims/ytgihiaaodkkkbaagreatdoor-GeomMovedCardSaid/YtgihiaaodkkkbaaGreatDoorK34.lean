/-
  Rows of rational numbers; what their denominators make together.
  Package vec: check of points; pair; turned; the determinant of two rows.
  gussetlaw04: live, walked.
  Package vec: turned; each; Plus, Minus, Scale, walked.
-/
import Derived.Laws.AppendOwnNone
import Derived.Test.YtgihiaaodkkkbaaGreatDoorK32
import Derived.Test.YtgihiaaodkkkbaaGreatDoorK33
namespace Go.Proofs.YtgihiaaodkkkbaaGreatDoor
open Go.RowKit

theorem heap_grown {w w' : World} {row : Option Nat} {g : Nat} {cs : Array Value} {t t' : TypeId} (hg : w.grownBy w' row) (hr : ∀ b, row = some b → ∃ cs, w.heap[b]? = some (.cells cs t' (0, 0))) (hne : t ≠ t') (h : w.heap[g]? = some (.cells cs t (0, 0))) : w'.heap[g]? = some (.cells cs t (0, 0)) := by
 have hlt : g < w.heap.size := by
  rcases Nat.lt_or_ge g w.heap.size with c | c
  ·exact c
  ·rw [Array.getElem?_eq_none c] at h; cases h
 rw [hg.block g hlt (fun e => ?_)]
 ·exact h
 ·obtain ⟨cs', hh⟩ := hr g e.symm
  rw [h] at hh
  simp at hh
  exact hne hh.2
theorem Cells.grown {w w' : World} {row : Option Nat} {g n : Nat} {t t' : TypeId} {f : Nat → Value} (h : Cells w g t n f) (hg : w.grownBy w' row) (hr : ∀ b, row = some b → ∃ cs, w.heap[b]? = some (.cells cs t' (0, 0))) (hne : t ≠ t') : Cells w' g t n f := by
 obtain ⟨cs, h1, h2, h3⟩ := h
 exact ⟨cs, heap_grown hg hr hne h1, h2, h3⟩
theorem Cel.grown {w w' : World} {row : Option Nat} {g : Nat} {t t' : TypeId} {cs : List Value} (h : Cel w g cs t) (hg : w.grownBy w' row) (hr : ∀ b, row = some b → ∃ cs, w.heap[b]? = some (.cells cs t' (0, 0))) (hne : t ≠ t') : Cel w' g cs t := heap_grown hg hr hne h

/-- The first k rows stand, each in a block of its own behind g. -/
def RowsC (w : World) (g k n m : Nat) (Z : Nat → Nat → Int) : Prop := ∃ f, Cells w g 86 n f ∧ ∀ i, i < k → ∃ h, f i = .slice (some ⟨h, 0, none⟩) m m ∧ g < h ∧ Cells w h 30 (m * 2) (fz (Z i))
theorem RowsC.below {w w' : World} {g k n m : Nat} {Z : Nat → Nat → Int} (h : RowsC w g k n m Z) (hb : Below w.heap.size w w') : RowsC w' g k n m Z := by
 obtain ⟨f, h1, h2⟩ := h
 refine ⟨f, h1.below hb, fun i hi => ?_⟩
 obtain ⟨h, e, hg, r⟩ := h2 i hi
 exact ⟨h, e, hg, r.below hb⟩
theorem RowsC.grown {w w' : World} {row : Option Nat} {g k n m : Nat} {Z : Nat → Nat → Int} (h : RowsC w g k n m Z) (hg : w.grownBy w' row) (hr : ∀ b, row = some b → ∃ cs, w.heap[b]? = some (.cells cs 28 (0, 0))) : RowsC w' g k n m Z := by
 obtain ⟨f, h1, h2⟩ := h
 refine ⟨f, h1.grown hg hr (by decide), fun i hi => ?_⟩
 obtain ⟨h, e, hg', r⟩ := h2 i hi
 exact ⟨h, e, hg', r.grown hg hr (by decide)⟩
theorem RowsC.put {w : World} {g k n m : Nat} {Z : Nat → Nat → Int} (h : RowsC w g k n m Z) {b : Nat} (hb : g < b) (r : Cells w b 30 (m * 2) (fz (Z k))) : RowsC (w.setCell ⟨g, k, none⟩ (.slice (some ⟨b, 0, none⟩) m m)) g (k + 1) n m Z := by
 obtain ⟨f, h1, h2⟩ := h
 refine ⟨_, h1.set k _, fun i hi => ?_⟩
 by_cases e : i = k
 ·subst e
  exact ⟨b, by rw [if_pos rfl], hb, r.other (by omega) _ _⟩
 ·obtain ⟨h, e', hg', r'⟩ := h2 i (by omega)
  exact ⟨h, by rw [if_neg e]; exact e', hg', r'.other (by omega) _ _⟩
/-- A row of numbers in their one form. -/
def RdQI (w : World) (a : Option Addr) (n : Nat) (q : Nat → Rat) : Prop := RdQ w a n (fun j => nfZ (q j).num) (fun j => sfZ (q j).num) (fun j => strOf (q j).den)
/-- The slice at a reads in w as n rows of m rational numbers. -/
def RdR (w : World) (a : Option Addr) (n m : Nat) (q : Nat → Nat → Rat) : Prop := ∀ i, i < n → ∃ b off ar c, a = some ⟨b, off, none⟩ ∧ w.cell? ⟨b, off + i, none⟩ = some (.slice ar m c) ∧ m ≤ c ∧ RdQI w ar m (q i)
theorem RdR.below {w w' : World} {a : Option Addr} {n m : Nat} {q : Nat → Nat → Rat} (h : RdR w a n m q) (hb : Below w.heap.size w w') : RdR w' a n m q := by
 intro i hi
 obtain ⟨b, off, ar, c, rfl, h0, hc, h1⟩ := h i hi
 exact ⟨b, off, ar, c, rfl, cell_below h0 hb, hc, h1.below hb⟩

end Go.Proofs.YtgihiaaodkkkbaaGreatDoor
namespace Go.Proofs.YtgihiaaodkkkbaaGreatDoor
open Go.RowKit

theorem vcheck_any (a : Option Addr) (n cap : Nat) (N : Nat → Bool) (S D : Nat → ByteArray) (w : World) (hT : Tab w) (hn : n ≤ 1000000) (h : RdQ w a n N S D) :
  Calls Tryz.prog 42 #[.slice a n cap] w fun e w' => e = .returned (.int .i64 (firstE (fun j => chkq (N j) (S j) (D j)) n : Nat)) ∧ Below w.heap.size w w' :=
 vcheck_walk a n cap N S D _ w hn h (fun j w1 b => rchk_any (N j) (S j) (D j) w1 (hT.below b))
def f2 {α : Type} (x y : α) (j : Nat) : α := if j = 0 then x else y
def f4 {α : Type} (x y z u : α) (j : Nat) : α := if j = 0 then x else if j = 1 then y else if j = 2 then z else u
theorem rdq_2 {w : World} {B : Nat} {t : TypeId} {n0 n1 : Bool} {s0 d0 s1 d1 : ByteArray} (h : Cel w B [.bool n0, .string s0, .string d0, .bool n1, .string s1, .string d1] t) : RdQ w (some ⟨B, 0, none⟩) 2 (f2 n0 n1) (f2 s0 s1) (f2 d0 d1) := by
 intro j hj
 refine ⟨B, 0, rfl, ?_⟩
 match j, hj with
 | 0, _ => exact ⟨h.cell 0, h.cell 1, h.cell 2⟩
 | 1, _ => exact ⟨h.cell 3, h.cell 4, h.cell 5⟩
/-- The first error of two. -/
def two (a b : Nat) : Nat := if a = 0 then b else a
theorem two_zero {a b : Nat} : two a b = 0 ↔ a = 0 ∧ b = 0 := by
 unfold two
 by_cases h : a = 0
 ·rw [if_pos h]; exact ⟨fun e => ⟨h, e⟩, fun e => e.2⟩
 ·rw [if_neg h]; exact ⟨fun e => absurd e h, fun e => absurd e.1 h⟩
theorem vcheck2 (B : Nat) (n0 n1 : Bool) (s0 d0 s1 d1 : ByteArray) (w : World) (hT : Tab w) (h : Cel w B [.bool n0, .string s0, .string d0, .bool n1, .string s1, .string d1] 32) :
  Calls Tryz.prog 42 #[.slice (some ⟨B, 0, none⟩) 2 2] w fun e w' => e = .returned (.int .i64 (twoq n0 s0 d0 n1 s1 d1 : Nat)) ∧ Below w.heap.size w w' := by
 have := vcheck_any (some ⟨B, 0, none⟩) 2 2 _ _ _ w hT (by omega) (rdq_2 h)
 exact this
set_option maxRecDepth 100000 in
set_option maxHeartbeats 2000000 in
theorem vCheck_any (n0 n1 : Bool) (s0 d0 s1 d1 : ByteArray) (w : World) (hT : Tab w) :
  Calls Tryz.prog 40 #[.agg #[.bool n0, .string s0, .string d0, .bool n1, .string s1, .string d1]] w fun e w' => e = .returned (.int .i64 (twoq n0 s0 d0 n1 s1 d1 : Nat)) ∧ Below w.heap.size w w' := by
 replace hT := shut hT
 obtain ⟨E, hE⟩ : ∃ E, E = twoq n0 s0 d0 n1 s1 d1 := ⟨_, rfl⟩
 have H : Hid (∀ (B : Nat) (w1 : World), Below w.heap.size w w1 → Cel w1 B [.bool n0, .string s0, .string d0, .bool n1, .string s1, .string d1] 32 → Calls Tryz.prog 42 #[.slice (some ⟨B, 0, none⟩) 2 2] w1 fun e w' => e = .returned (.int .i64 (E : Nat)) ∧ Below w1.heap.size w1 w') := fun B w1 b k => by rw [hE]; exact vcheck2 B n0 n1 s0 d0 s1 d1 w1 (hT.out.below b) k
 rw [← hE]
 clear hE
 go_enter Tryz.func40, Tryz.ntmps40
 go_wp2_with fail
 obtain ⟨w1, hw, ka, kl, b1⟩ := mk2 w [.bool n0, .string s0, .string d0, .bool n1, .string s1, .string d1] [.bool n0, .string s0, .string d0, .bool n1, .string s1, .string d1] 39 32
 rw [← hw]
 clear hw
 go_fit (H.out _ _ b1 kl)
 rintro e w2 ⟨rfl, b2⟩
 go_wp2
 go_ret
 exact ⟨rfl, Below.after b1 b2⟩
end Go.Proofs.YtgihiaaodkkkbaaGreatDoor
namespace Go.Proofs.YtgihiaaodkkkbaaGreatDoor
open Go.RowKit

end Go.Proofs.YtgihiaaodkkkbaaGreatDoor
namespace Go.Proofs.YtgihiaaodkkkbaaGreatDoor
open Go.RowKit

theorem post_p {fn : Func} {p : Tmp} {R : Ending → World → Prop} {a : Act} {w : World} {g : Nat} {x y z x' y' z' : Value} (h : fn.results = #[.cell p 39]) (hp : a.tmps.getD p undef = .pointer (some ⟨g, 0, none⟩)) (hd : a.defers = [])
  (hc : Cel w g [x, y, z, x', y', z'] 39) (hR : R (.returned (.agg #[x, y, z, x', y', z'])) w) : bodyPost Tryz.prog fn R .ret a w := by
 refine ⟨hd, .agg #[x, y, z, x', y', z'], ?_, hR⟩
 exact results_cell_row (P := Tryz.prog) h _ w g 39 #[x, y, z, x', y', z'] (0, 0) _ hp hc Tryz.underlying39 rfl (by kernel_rfl)
theorem cel6_0 {w : World} {g : Nat} {x y z x' y' z' : Value} {t : TypeId} (h : Cel w g [x, y, z, x', y', z'] t) : w.cell? ⟨g, 0, none⟩ = some x := h.cell 0
theorem cel6_1 {w : World} {g : Nat} {x y z x' y' z' : Value} {t : TypeId} (h : Cel w g [x, y, z, x', y', z'] t) : w.cell? ⟨g, 1, none⟩ = some y := h.cell 1
theorem cel6_2 {w : World} {g : Nat} {x y z x' y' z' : Value} {t : TypeId} (h : Cel w g [x, y, z, x', y', z'] t) : w.cell? ⟨g, 2, none⟩ = some z := h.cell 2
theorem cel6_3 {w : World} {g : Nat} {x y z x' y' z' : Value} {t : TypeId} (h : Cel w g [x, y, z, x', y', z'] t) : w.cell? ⟨g, 3, none⟩ = some x' := h.cell 3
theorem cel6_4 {w : World} {g : Nat} {x y z x' y' z' : Value} {t : TypeId} (h : Cel w g [x, y, z, x', y', z'] t) : w.cell? ⟨g, 4, none⟩ = some y' := h.cell 4
theorem cel6_5 {w : World} {g : Nat} {x y z x' y' z' : Value} {t : TypeId} (h : Cel w g [x, y, z, x', y', z'] t) : w.cell? ⟨g, 5, none⟩ = some z' := h.cell 5
/-- Six cells are written. -/
theorem Cel.set6 {w : World} {g : Nat} {x y z x' y' z' : Value} {t : TypeId} (h : Cel w g [x, y, z, x', y', z'] t) (a b c d e f : Value) : Cel ((((((w.setCell ⟨g, 0, none⟩ a).setCell ⟨g, 1, none⟩ b).setCell ⟨g, 2, none⟩ c).setCell ⟨g, 3, none⟩ d).setCell ⟨g, 4, none⟩ e).setCell ⟨g, 5, none⟩ f) g [a, b, c, d, e, f] t :=
 (((((h.set 0 a).set 1 b).set 2 c).set 3 d).set 4 e).set 5 f
theorem bset6 {N : Nat} {w wn : World} {g : Nat} (b : Below N w wn) (h : N ≤ g) (x0 x1 x2 x3 x4 x5 : Value) : Below N w ((((((wn.setCell ⟨g, 0, none⟩ x0).setCell ⟨g, 1, none⟩ x1).setCell ⟨g, 2, none⟩ x2).setCell ⟨g, 3, none⟩ x3).setCell ⟨g, 4, none⟩ x4).setCell ⟨g, 5, none⟩ x5) :=
 bset (bset (bset (bset (bset (bset b h 0 x0) h 1 x1) h 2 x2) h 3 x3) h 4 x4) h 5 x5

end Go.Proofs.YtgihiaaodkkkbaaGreatDoor
