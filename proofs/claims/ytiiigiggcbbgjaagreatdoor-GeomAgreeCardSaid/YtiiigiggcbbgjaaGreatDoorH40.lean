/-
  Rows of rational numbers; what their denominators make together.
  Package vec: check of points; pair; turned; the determinant of two rows.
  Package vec: turned; each; Plus, Minus, Scale, walked.
  Package vec: Plus, Minus, Scale, walked.
  Package vec: Plus, Minus, Scale, of any points.
  Package vec: cross.
  Package vec: determinant.
  Package vec: the determinant of two rows.
  Package vec: Cross, Dot, Norm2, of any points.
  How long sums and products of rational numbers get.
  gussetref03's Of; gussetlaw04's at, short, small.
  gussetlaw04: live.
-/
import Derived.Laws.AppendOwnNone
import Derived.Test.YtiiigiggcbbgjaaGreatDoorH38
import Derived.Test.YtiiigiggcbbgjaaGreatDoorH39
set_option maxRecDepth 100000
set_option maxHeartbeats 16000000
namespace Go.Proofs.YtiiigiggcbbgjaaGreatDoor
open Go.RowKit
theorem wpList_appS {w : World} {ops : Array Oper} {rest : List Oper} {o : Oper} {a : Act} {Q : Exit → Act → World → Prop}
  (hg : o.guard = none) (s x : Operand) (hop : o.op = Op.call { callee := Callee.builtin Builtin.append, args := #[s, x], argTypes := #[115, 115] })
  (sv : Value) (n : Nat) (vs : List Value) (hs : a.eval s = sv) (B : Nat) (hown : w.ownsRow B 22 1 sv n vs) (hB : B ≤ w.heap.size) (u : Value) (l : List ByteArray) (B' : Nat) (hu : w.ownsRow B' 22 1 u l.length (l.map Value.string)) (hx : a.eval x = u) (hn : n + l.length ≤ 1000000)
  (hK : ∀ v' w', w'.ownsRow B 22 1 v' (n + l.length) (vs ++ l.map Value.string) → w.grownBy w' sv.ownBlock → wpList Tryz.prog ops Q rest (a.put o.dst v') w') :
  wpList Tryz.prog ops Q (o :: rest) a w := by
 rcases id hu.2 with ⟨rfl, h0⟩ | ⟨g, cap, cur, rfl, hg', hh, hc, -⟩
 ·obtain ⟨i0, hi, -⟩ := info_parts (show (Tryz.prog.info? 22).map (fun i => (i.zero, i.size, i.bytes)) = some (some (.string ⟨#[]⟩), 1, 16) by kernel_rfl)
  have hl : l = [] := List.length_eq_zero_iff.1 h0
  subst hl
  refine wpList_append_own_none hg s x 115 hop B 22 i0 1 Tryz.underlying115 hi sv n vs hs hown hx ?_
  exact hK sv w (by simpa using hown) ⟨rfl, rfl, rfl, Nat.le_refl _, fun _ _ _ => rfl⟩
 ·obtain ⟨a', cap', e', -, hc'⟩ := rds_own hu
  simp only [Value.slice.injEq] at e'
  obtain ⟨rfl, -, rfl⟩ := e'
  refine wpList_appNat hg s x hop sv n vs hs B hown hB g 0 l.length cap l hx rfl (fun j hj => ?_) hn hK
  obtain ⟨b, off, e, h0⟩ := hc' j hj
  simp only [Option.some.injEq, Addr.mk.injEq] at e
  obtain ⟨rfl, rfl, -⟩ := e
  exact h0
theorem ownN_type {w : World} {B n k : Nat} {t : TypeId} {sv : Value} {vs : List Value} (h : w.ownsRow B t k sv n vs) : ∀ g, sv.ownBlock = some g → ∃ cs, w.heap[g]? = some (.cells cs t (0, 0)) := by
 intro g hg
 rcases h.2 with ⟨rfl, -⟩ | ⟨g', cap, cur, rfl, hB, hh, -⟩
 ·simp [Value.ownBlock] at hg
 ·simp [Value.ownBlock] at hg
  subst hg
  exact ⟨_, hh⟩
theorem heap_grown {w w' : World} {row : Option Nat} {g : Nat} {cs : Array Value} {t t' : TypeId} (hg : w.grownBy w' row) (hr : ∀ b, row = some b → ∃ cs, w.heap[b]? = some (.cells cs t' (0, 0))) (hne : t ≠ t') (h : w.heap[g]? = some (.cells cs t (0, 0))) : w'.heap[g]? = some (.cells cs t (0, 0)) := by
 have hlt : g < w.heap.size := by
  rcases Nat.lt_or_ge g w.heap.size with c | c
  ·exact c
  ·rw [Array.getElem?_eq_none c] at h; cases h
 rw [hg.block g hlt (fun e => ?_)]
 ·exact h
 ·obtain ⟨cs', hh⟩ := hr g e.symm
  rw [h] at hh
  simp at hh
  exact hne hh.2
theorem Cells.grown {w w' : World} {row : Option Nat} {g n : Nat} {t t' : TypeId} {f : Nat → Value} (h : Cells w g t n f) (hg : w.grownBy w' row) (hr : ∀ b, row = some b → ∃ cs, w.heap[b]? = some (.cells cs t' (0, 0))) (hne : t ≠ t') : Cells w' g t n f := by
 obtain ⟨cs, h1, h2, h3⟩ := h
 exact ⟨cs, heap_grown hg hr hne h1, h2, h3⟩
theorem Cel.grown {w w' : World} {row : Option Nat} {g : Nat} {t t' : TypeId} {cs : List Value} (h : Cel w g cs t) (hg : w.grownBy w' row) (hr : ∀ b, row = some b → ∃ cs, w.heap[b]? = some (.cells cs t' (0, 0))) (hne : t ≠ t') : Cel w' g cs t := heap_grown hg hr hne h
def RowsC (w : World) (g k n m : Nat) (Z : Nat → Nat → Int) : Prop := ∃ f, Cells w g 105 n f ∧ ∀ i, i < k → ∃ h, f i = .slice (some ⟨h, 0, none⟩) m m ∧ g < h ∧ Cells w h 24 (m * 2) (fz (Z i))
theorem RowsC.below {w w' : World} {g k n m : Nat} {Z : Nat → Nat → Int} (h : RowsC w g k n m Z) (hb : Below w.heap.size w w') : RowsC w' g k n m Z := by
 obtain ⟨f, h1, h2⟩ := h
 refine ⟨f, h1.below hb, fun i hi => ?_⟩
 obtain ⟨h, e, hg, r⟩ := h2 i hi
 exact ⟨h, e, hg, r.below hb⟩
theorem RowsC.grown {w w' : World} {row : Option Nat} {g k n m : Nat} {Z : Nat → Nat → Int} (h : RowsC w g k n m Z) (hg : w.grownBy w' row) (hr : ∀ b, row = some b → ∃ cs, w.heap[b]? = some (.cells cs 22 (0, 0))) : RowsC w' g k n m Z := by
 obtain ⟨f, h1, h2⟩ := h
 refine ⟨f, h1.grown hg hr (by decide), fun i hi => ?_⟩
 obtain ⟨h, e, hg', r⟩ := h2 i hi
 exact ⟨h, e, hg', r.grown hg hr (by decide)⟩
theorem RowsC.put {w : World} {g k n m : Nat} {Z : Nat → Nat → Int} (h : RowsC w g k n m Z) {b : Nat} (hb : g < b) (r : Cells w b 24 (m * 2) (fz (Z k))) : RowsC (w.setCell ⟨g, k, none⟩ (.slice (some ⟨b, 0, none⟩) m m)) g (k + 1) n m Z := by
 obtain ⟨f, h1, h2⟩ := h
 refine ⟨_, h1.set k _, fun i hi => ?_⟩
 by_cases e : i = k
 ·subst e
  exact ⟨b, by rw [if_pos rfl], hb, r.other (by omega) _ _⟩
 ·obtain ⟨h, e', hg', r'⟩ := h2 i (by omega)
  exact ⟨h, by rw [if_neg e]; exact e', hg', r'.other (by omega) _ _⟩
theorem RowsC.rdM {w : World} {g n m : Nat} {Z : Nat → Nat → Int} (h : RowsC w g n n m Z) : RdM w (some ⟨g, 0, none⟩) n m Z := by
 obtain ⟨f, h1, h2⟩ := h
 intro i hi
 obtain ⟨h, e, hg, r⟩ := h2 i hi
 exact ⟨g, 0, h, 0, m, rfl, by rw [Nat.zero_add, h1.cell hi, e], Nat.le_refl _, r.rdZ⟩
def RdQI (w : World) (a : Option Addr) (n : Nat) (q : Nat → Rat) : Prop := RdQ w a n (fun j => nfZ (q j).num) (fun j => sfZ (q j).num) (fun j => strOf (q j).den)
def RdR (w : World) (a : Option Addr) (n m : Nat) (q : Nat → Nat → Rat) : Prop := ∀ i, i < n → ∃ b off ar c, a = some ⟨b, off, none⟩ ∧ w.cell? ⟨b, off + i, none⟩ = some (.slice ar m c) ∧ m ≤ c ∧ RdQI w ar m (q i)
theorem RdR.below {w w' : World} {a : Option Addr} {n m : Nat} {q : Nat → Nat → Rat} (h : RdR w a n m q) (hb : Below w.heap.size w w') : RdR w' a n m q := by
 intro i hi
 obtain ⟨b, off, ar, c, rfl, h0, hc, h1⟩ := h i hi
 exact ⟨b, off, ar, c, rfl, cell_below h0 hb, hc, h1.below hb⟩
def dall (q : Nat → Nat → Rat) (n : Nat) : Nat → List ByteArray
 | 0 => []
 | k + 1 => dall q n k ++ densOf (fun j => strOf (q k j).den) n
theorem dall_len (q : Nat → Nat → Rat) (n : Nat) : ∀ k, (dall q n k).length ≤ k * n
 | 0 => by simp [dall]
 | k + 1 => by
  have h1 := dall_len q n k
  have h2 := densOf_len (fun j => strOf (q k j).den) n
  unfold dall
  rw [List.length_append, Nat.succ_mul]
  omega
theorem mem_densOf {D : Nat → ByteArray} {x : ByteArray} : ∀ {n : Nat}, x ∈ densOf D n → ∃ j, j < n ∧ x = D j ∧ x ≠ ⟨#[1]⟩
 | 0, h => by simp [densOf] at h
 | n + 1, h => by
  unfold densOf at h
  by_cases e1 : D n = ⟨#[1]⟩
  ·rw [if_pos e1] at h
   obtain ⟨j, hj, r⟩ := mem_densOf h
   exact ⟨j, by omega, r⟩
  ·rw [if_neg e1] at h
   by_cases e2 : isIn (densOf D n) (D n) = true
   ·rw [if_pos e2] at h
    obtain ⟨j, hj, r⟩ := mem_densOf h
    exact ⟨j, by omega, r⟩
   ·rw [if_neg e2, List.mem_append, List.mem_singleton] at h
    rcases h with h | h
    ·obtain ⟨j, hj, r⟩ := mem_densOf h
     exact ⟨j, by omega, r⟩
    ·exact ⟨n, by omega, h, by rw [h]; exact e1⟩
theorem densOf_mem {D : Nat → ByteArray} {j : Nat} (h1 : D j ≠ ⟨#[1]⟩) : ∀ {n : Nat}, j < n → D j ∈ densOf D n
 | 0, h => by omega
 | n + 1, h => by
  unfold densOf
  by_cases e : j = n
  ·subst e
   rw [if_neg h1]
   by_cases e2 : isIn (densOf D j) (D j) = true
   ·rw [if_pos e2]; exact isIn_iff.1 e2
   ·rw [if_neg e2]; simp
  ·have ih := densOf_mem h1 (n := n) (by omega)
   split
   ·exact ih
   ·split
    ·exact ih
    ·exact List.mem_append_left _ ih
theorem densOf_nodup (D : Nat → ByteArray) : ∀ n, (densOf D n).Nodup
 | 0 => by simp [densOf]
 | n + 1 => by
  have ih := densOf_nodup D n
  unfold densOf
  split
  ·exact ih
  ·split
   ·exact ih
   ·rename_i h
    rw [List.nodup_append]
    refine ⟨ih, by simp, fun x hx y hy => ?_⟩
    rw [List.mem_singleton] at hy
    subst hy
    intro e
    subst e
    exact h (isIn_iff.2 hx)
theorem pex_out {d : ByteArray} : ∀ {L : List ByteArray}, d ∉ L → pex d L = Dt.nprod (L.map natOf)
 | [], _ => rfl
 | x :: l, h => by
  show (if x = d then pex d l else natOf x * pex d l) = natOf x * Dt.nprod (l.map natOf)
  rw [if_neg (fun e => h (by simp [e])), pex_out (fun e => h (by simp [e]))]
theorem pex_in {d : ByteArray} : ∀ {L : List ByteArray}, L.Nodup → d ∈ L → Dt.nprod (L.map natOf) = pex d L * natOf d
 | [], _, h => by simp at h
 | x :: l, hn, h => by
  rw [List.nodup_cons] at hn
  show natOf x * Dt.nprod (l.map natOf) = (if x = d then pex d l else natOf x * pex d l) * natOf d
  by_cases e : x = d
  ·subst e
   rw [if_pos rfl, pex_out hn.1, Nat.mul_comm]
  ·rw [if_neg e]
   rw [List.mem_cons] at h
   rcases h with h | h
   ·exact absurd h.symm e
   ·rw [pex_in hn.2 h, Nat.mul_assoc]
theorem clr_whole (q : Nat → Rat) (n : Nat) {j : Nat} (hj : j < n) : ((clr q (densOf (fun j => strOf (q j).den) n) n j : Int) : Rat) = ((Dt.nprod ((densOf (fun j => strOf (q j).den) n).map natOf) : Nat) : Rat) * q j := by
 obtain ⟨L, hL⟩ : ∃ L, L = densOf (fun j => strOf (q j).den) n := ⟨_, rfl⟩
 have key : Dt.nprod (L.map natOf) = pex (strOf (q j).den) L * (q j).den := by
  by_cases e : strOf (q j).den = ⟨#[1]⟩
  ·have h1 : (q j).den = 1 := by rw [← natOf_strOf (q j).den, e, natOf_one]
   have hn : strOf (q j).den ∉ L := by
    intro h
    rw [hL] at h
    obtain ⟨-, -, -, h⟩ := mem_densOf h
    exact h e
   rw [pex_out hn, h1, Nat.mul_one]
  ·have := pex_in (d := strOf (q j).den) (L := L) (by rw [hL]; exact densOf_nodup _ _) (by rw [hL]; exact densOf_mem (D := fun j => strOf (q j).den) e hj)
   rw [this, natOf_strOf]
 rw [← hL]
 unfold clr
 rw [if_pos hj, key, Rat.intCast_mul]
 have e : ((q j).num : Rat) = q j * ((q j).den : Rat) := by
  have h : ((q j).num : Rat) / ((q j).den : Rat) = q j := by rw [← Rat.mkRat_eq_div, Rat.mkRat_self]
  have hp : ((q j).den : Rat) ≠ 0 := by
   intro e
   have : (q j).den = 0 := by exact_mod_cast e
   exact (q j).den_nz this
  grind
 rw [e]
 have e1 : (((pex (strOf (q j).den) L * (q j).den : Nat)) : Rat) = ((pex (strOf (q j).den) L : Nat) : Rat) * ((q j).den : Rat) := by exact Rat.natCast_mul _ _
 have e2 : (((pex (strOf (q j).den) L : Nat) : Int) : Rat) = ((pex (strOf (q j).den) L : Nat) : Rat) := rfl
 rw [e1, e2]
 grind
theorem prod_last (c : Nat → Rat) : ∀ n, Dt.prod (n + 1) c = Dt.prod n c * c n
 | 0 => by simp [Dt.prod]
 | n + 1 => by
  show c 0 * Dt.prod (n + 1) (fun i => c (i + 1)) = c 0 * Dt.prod n (fun i => c (i + 1)) * c (n + 1)
  rw [prod_last (fun i => c (i + 1)) n]
  grind
theorem dall_prod (q : Nat → Nat → Rat) (n : Nat) : ∀ k, ((Dt.nprod ((dall q n k).map natOf) : Nat) : Rat) = Dt.prod k (fun i => ((Dt.nprod ((densOf (fun j => strOf (q i j).den) n).map natOf) : Nat) : Rat))
 | 0 => by simp [dall, Dt.prod, Dt.nprod]
 | k + 1 => by
  rw [prod_last, ← dall_prod q n k, show dall q n (k + 1) = dall q n k ++ densOf (fun j => strOf (q k j).den) n from rfl]
  rw [List.map_append, Dt.nprod_append]
  exact Rat.natCast_mul _ _
theorem det_over (q : Nat → Nat → Rat) (n : Nat) (hp : 0 < Dt.nprod ((dall q n n).map natOf)) : mkRat (Dt.det n (fun i => clr (q i) (densOf (fun j => strOf (q i j).den) n) n)) (Dt.nprod ((dall q n n).map natOf)) = Dt.det n q := by
 refine Dt.mkRat_eq hp ?_
 rw [dall_prod]
 exact Dt.det_whole fun i j hi hj => clr_whole (q i) n hj
theorem mem_dall {q : Nat → Nat → Rat} {n : Nat} {x : ByteArray} : ∀ {k : Nat}, x ∈ dall q n k → ∃ i j, i < k ∧ j < n ∧ x = strOf (q i j).den
 | 0, h => by simp [dall] at h
 | k + 1, h => by
  unfold dall at h
  rw [List.mem_append] at h
  rcases h with h | h
  ·obtain ⟨i, j, hi, hj, e⟩ := mem_dall h
   exact ⟨i, j, by omega, hj, e⟩
  ·obtain ⟨j, hj, e, -⟩ := mem_densOf h
   exact ⟨k, j, by omega, hj, e⟩
theorem nprod_lt {k : Nat} : ∀ {L : List ByteArray}, (∀ x ∈ L, x.size ≤ k) → Dt.nprod (L.map natOf) < 256 ^ (k * L.length + 1)
 | [], _ => by show 1 < 256 ^ (k * 0 + 1); simp
 | x :: l, h => by
  have ih := nprod_lt (L := l) (fun y hy => h y (by simp [hy]))
  have hx : natOf x < 256 ^ k := Nat.lt_of_lt_of_le (natOf_lt x) (Nat.pow_le_pow_right (by omega) (h x (by simp)))
  show natOf x * Dt.nprod (l.map natOf) < 256 ^ (k * (l.length + 1) + 1)
  rw [show k * (l.length + 1) + 1 = k + (k * l.length + 1) by rw [Nat.mul_succ]; omega, Nat.pow_add]
  exact Nat.mul_lt_mul'' hx ih
theorem vcheck_any (a : Option Addr) (n cap : Nat) (N : Nat → Bool) (S D : Nat → ByteArray) (w : World) (hT : Tab w) (hn : n ≤ 1000000) (h : RdQ w a n N S D) :
  Calls Tryz.prog 94 #[.slice a n cap] w (Re w (.int .i64 (firstE (fun j => chkq (N j) (S j) (D j)) n : Nat))) :=
 vcheck_walk a n cap N S D _ w hn h (fun j w1 b => rchk_any (N j) (S j) (D j) w1 (hT.below b))
def f2 {α : Type} (x y : α) (j : Nat) : α := if j = 0 then x else y
def f4 {α : Type} (x y z u : α) (j : Nat) : α := if j = 0 then x else if j = 1 then y else if j = 2 then z else u
theorem rdq_2 {w : World} {B : Nat} {t : TypeId} {n0 n1 : Bool} {s0 d0 s1 d1 : ByteArray} (h : Cel w B [.bool n0, .string s0, .string d0, .bool n1, .string s1, .string d1] t) : RdQ w (some ⟨B, 0, none⟩) 2 (f2 n0 n1) (f2 s0 s1) (f2 d0 d1) := by
 intro j hj
 refine ⟨B, 0, rfl, ?_⟩
 match j, hj with
 | 0, _ => exact ⟨h.cell 0, h.cell 1, h.cell 2⟩
 | 1, _ => exact ⟨h.cell 3, h.cell 4, h.cell 5⟩
theorem rdq_4 {w : World} {B : Nat} {t : TypeId} {n0 n1 n2 n3 : Bool} {s0 d0 s1 d1 s2 d2 s3 d3 : ByteArray} (h : Cel w B [.bool n0, .string s0, .string d0, .bool n1, .string s1, .string d1, .bool n2, .string s2, .string d2, .bool n3, .string s3, .string d3] t) : RdQ w (some ⟨B, 0, none⟩) 4 (f4 n0 n1 n2 n3) (f4 s0 s1 s2 s3) (f4 d0 d1 d2 d3) := by
 intro j hj
 refine ⟨B, 0, rfl, ?_⟩
 match j, hj with
 | 0, _ => exact ⟨h.cell 0, h.cell 1, h.cell 2⟩
 | 1, _ => exact ⟨h.cell 3, h.cell 4, h.cell 5⟩
 | 2, _ => exact ⟨h.cell 6, h.cell 7, h.cell 8⟩
 | 3, _ => exact ⟨h.cell 9, h.cell 10, h.cell 11⟩
def twoc (a b : Nat) : Nat := if a = 0 then b else a
theorem two_zero {a b : Nat} : twoc a b = 0 ↔ a = 0 ∧ b = 0 := by
 unfold twoc
 by_cases h : a = 0
 ·rw [if_pos h]; exact ⟨fun e => ⟨h, e⟩, fun e => e.2⟩
 ·rw [if_neg h]; exact ⟨fun e => absurd e h, fun e => absurd e.1 h⟩
theorem vcheck2 (B : Nat) (n0 n1 : Bool) (s0 d0 s1 d1 : ByteArray) (w : World) (hT : Tab w) (h : Cel w B [.bool n0, .string s0, .string d0, .bool n1, .string s1, .string d1] 26) :
  Calls Tryz.prog 94 #[.slice (some ⟨B, 0, none⟩) 2 2] w (Re w (.int .i64 (twoq n0 s0 d0 n1 s1 d1 : Nat))) := by
 have := vcheck_any (some ⟨B, 0, none⟩) 2 2 _ _ _ w hT (by omega) (rdq_2 h)
 exact this
theorem vcheck4 (B : Nat) (n0 n1 n2 n3 : Bool) (s0 d0 s1 d1 s2 d2 s3 d3 : ByteArray) (w : World) (hT : Tab w) (h : Cel w B [.bool n0, .string s0, .string d0, .bool n1, .string s1, .string d1, .bool n2, .string s2, .string d2, .bool n3, .string s3, .string d3] 26) :
  Calls Tryz.prog 94 #[.slice (some ⟨B, 0, none⟩) 4 4] w (Re w (.int .i64 (twoc (twoq n0 s0 d0 n1 s1 d1) (twoq n2 s2 d2 n3 s3 d3) : Nat))) := by
 have := vcheck_any (some ⟨B, 0, none⟩) 4 4 _ _ _ w hT (by omega) (rdq_4 h)
 have e : firstE (fun j => chkq (f4 n0 n1 n2 n3 j) (f4 s0 s1 s2 s3 j) (f4 d0 d1 d2 d3 j)) 4 = twoc (twoq n0 s0 d0 n1 s1 d1) (twoq n2 s2 d2 n3 s3 d3) := by
  show (if (if (if (if 0 = 0 then chkq n0 s0 d0 else 0) = 0 then chkq n1 s1 d1 else (if 0 = 0 then chkq n0 s0 d0 else 0)) = 0 then chkq n2 s2 d2 else (if (if 0 = 0 then chkq n0 s0 d0 else 0) = 0 then chkq n1 s1 d1 else (if 0 = 0 then chkq n0 s0 d0 else 0))) = 0 then chkq n3 s3 d3 else (if (if (if 0 = 0 then chkq n0 s0 d0 else 0) = 0 then chkq n1 s1 d1 else (if 0 = 0 then chkq n0 s0 d0 else 0)) = 0 then chkq n2 s2 d2 else (if (if 0 = 0 then chkq n0 s0 d0 else 0) = 0 then chkq n1 s1 d1 else (if 0 = 0 then chkq n0 s0 d0 else 0)))) = _
  simp only [if_true]
  unfold twoc twoq
  generalize chkq n0 s0 d0 = a
  generalize chkq n1 s1 d1 = b
  generalize chkq n2 s2 d2 = c
  generalize chkq n3 s3 d3 = d
  by_cases ha : a = 0
  ·simp only [if_pos ha]
   by_cases hb : b = 0
   ·simp only [if_pos hb]
   ·simp only [if_neg hb]
  ·simp only [if_neg ha]
 rw [e] at this
 exact this
theorem vCheck_any (n0 n1 : Bool) (s0 d0 s1 d1 : ByteArray) (w : World) (hT : Tab w) :
  Calls Tryz.prog 90 #[.agg #[.bool n0, .string s0, .string d0, .bool n1, .string s1, .string d1]] w (Re w (.int .i64 (twoq n0 s0 d0 n1 s1 d1 : Nat))) := by
 replace hT := shut hT
 obtain ⟨E, hE⟩ : ∃ E, E = twoq n0 s0 d0 n1 s1 d1 := ⟨_, rfl⟩
 have H : Hid (∀ (B : Nat) (w1 : World), Below w.heap.size w w1 → Cel w1 B [.bool n0, .string s0, .string d0, .bool n1, .string s1, .string d1] 26 → Calls Tryz.prog 94 #[.slice (some ⟨B, 0, none⟩) 2 2] w1 (Re w1 (.int .i64 (E : Nat)))) := fun B w1 b k => by rw [hE]; exact vcheck2 B n0 n1 s0 d0 s1 d1 w1 (hT.out.below b) k
 rw [← hE]
 clear hE
 go_enter Tryz.func90, Tryz.ntmps90
 go_wp2_with fail
 obtain ⟨w1, hw, ka, kl, b1⟩ := mk2 w [.bool n0, .string s0, .string d0, .bool n1, .string s1, .string d1] [.bool n0, .string s0, .string d0, .bool n1, .string s1, .string d1] 28 26
 rw [← hw]
 clear hw
 go_fit (H.out _ _ b1 kl)
 rintro e w2 ⟨rfl, b2⟩
 go_wp2
 go_ret
 exact ⟨rfl, Below.after b1 b2⟩
theorem pair_any (n0 n1 : Bool) (s0 d0 s1 d1 : ByteArray) (w : World) :
  Calls Tryz.prog 96 #[.agg #[.bool n0, .string s0, .string d0, .bool n1, .string s1, .string d1]] w fun e w' => ∃ g, e = .returned (.slice (some ⟨g, 0, none⟩) 2 2) ∧ Cel w' g [.bool n0, .string s0, .string d0, .bool n1, .string s1, .string d1] 26 ∧ w.heap.size ≤ g ∧ Below w.heap.size w w' := by
 go_enter Tryz.func96, Tryz.ntmps96
 go_wp2
 go_ret
 obtain ⟨w1, hw, ka, kl, b1⟩ := mk2 w [.bool n0, .string s0, .string d0, .bool n1, .string s1, .string d1] [.bool n0, .string s0, .string d0, .bool n1, .string s1, .string d1] 28 26
 rw [← hw]
 exact ⟨_, rfl, kl, by omega, b1⟩
theorem load6 {w : World} {g : Nat} {x y z x' y' z' : Value} (h : Cel w g [x, y, z, x', y', z'] 28) : (loadVar 28 ⟨g, 0, none⟩).run Tryz.prog w = .ok (.agg #[x, y, z, x', y', z']) w :=
 run_loadVar_row w g 28 28 #[x, y, z, x', y', z'] (0, 0) _ h Tryz.underlying28 rfl (by kernel_rfl)
theorem post_p {fn : Func} {p : Tmp} {R : Ending → World → Prop} {a : Act} {w : World} {g : Nat} {x y z x' y' z' : Value} (h : fn.results = #[.cell p 28]) (hp : a.tmps.getD p undef = .pointer (some ⟨g, 0, none⟩)) (hd : a.defers = [])
  (hc : Cel w g [x, y, z, x', y', z'] 28) (hR : R (.returned (.agg #[x, y, z, x', y', z'])) w) : bodyPost Tryz.prog fn R .ret a w := by
 refine ⟨hd, .agg #[x, y, z, x', y', z'], ?_, hR⟩
 exact results_cell_row (P := Tryz.prog) h _ w g 28 #[x, y, z, x', y', z'] (0, 0) _ hp hc Tryz.underlying28 rfl (by kernel_rfl)
theorem post_p1 {fn : Func} {p u : Tmp} {R : Ending → World → Prop} {a : Act} {w : World} {g : Nat} {x y z x' y' z' v : Value} (h : fn.results = #[.cell p 28, .tmp u]) (hp : a.tmps.getD p undef = .pointer (some ⟨g, 0, none⟩)) (hu : a.tmps.getD u undef = v) (hd : a.defers = [])
  (hc : Cel w g [x, y, z, x', y', z'] 28) (hR : R (.returned (.tuple #[.agg #[x, y, z, x', y', z'], v])) w) : bodyPost Tryz.prog fn R .ret a w := by
 refine ⟨hd, .tuple #[.agg #[x, y, z, x', y', z'], v], ?_, hR⟩
 rw [results_cell_tmp h, hp, hu]
 simp [asAddr, load6 hc, Result.andThen]
theorem cel6_0 {w : World} {g : Nat} {x y z x' y' z' : Value} {t : TypeId} (h : Cel w g [x, y, z, x', y', z'] t) : w.cell? ⟨g, 0, none⟩ = some x := h.cell 0
theorem cel6_1 {w : World} {g : Nat} {x y z x' y' z' : Value} {t : TypeId} (h : Cel w g [x, y, z, x', y', z'] t) : w.cell? ⟨g, 1, none⟩ = some y := h.cell 1
theorem cel6_2 {w : World} {g : Nat} {x y z x' y' z' : Value} {t : TypeId} (h : Cel w g [x, y, z, x', y', z'] t) : w.cell? ⟨g, 2, none⟩ = some z := h.cell 2
theorem cel6_3 {w : World} {g : Nat} {x y z x' y' z' : Value} {t : TypeId} (h : Cel w g [x, y, z, x', y', z'] t) : w.cell? ⟨g, 3, none⟩ = some x' := h.cell 3
theorem cel6_4 {w : World} {g : Nat} {x y z x' y' z' : Value} {t : TypeId} (h : Cel w g [x, y, z, x', y', z'] t) : w.cell? ⟨g, 4, none⟩ = some y' := h.cell 4
theorem cel6_5 {w : World} {g : Nat} {x y z x' y' z' : Value} {t : TypeId} (h : Cel w g [x, y, z, x', y', z'] t) : w.cell? ⟨g, 5, none⟩ = some z' := h.cell 5
theorem Cel.set6 {w : World} {g : Nat} {x y z x' y' z' : Value} {t : TypeId} (h : Cel w g [x, y, z, x', y', z'] t) (a b c d e f : Value) : Cel ((((((w.setCell ⟨g, 0, none⟩ a).setCell ⟨g, 1, none⟩ b).setCell ⟨g, 2, none⟩ c).setCell ⟨g, 3, none⟩ d).setCell ⟨g, 4, none⟩ e).setCell ⟨g, 5, none⟩ f) g [a, b, c, d, e, f] t :=
 (((((h.set 0 a).set 1 b).set 2 c).set 3 d).set 4 e).set 5 f
theorem bset6 {N : Nat} {w wn : World} {g : Nat} (b : Below N w wn) (h : N ≤ g) (x0 x1 x2 x3 x4 x5 : Value) : Below N w ((((((wn.setCell ⟨g, 0, none⟩ x0).setCell ⟨g, 1, none⟩ x1).setCell ⟨g, 2, none⟩ x2).setCell ⟨g, 3, none⟩ x3).setCell ⟨g, 4, none⟩ x4).setCell ⟨g, 5, none⟩ x5) :=
 bset (bset (bset (bset (bset (bset b h 0 x0) h 1 x1) h 2 x2) h 3 x3) h 4 x4) h 5 x5
theorem each_add_ok (n0 n1 n2 n3 xN yN : Bool) (s0 d0 s1 d1 s2 d2 s3 d3 xS xD yS yD : ByteArray) (w : World)
  (H1 : Hid (∀ w1, Below w.heap.size w w1 → Calls Tryz.prog 100 #[.agg #[.bool n0, .string s0, .string d0], .agg #[.bool n2, .string s2, .string d2]] w1 (Re w1 (.tuple #[.agg #[.bool xN, .string xS, .string xD], .int .i64 0]))))
  (H2 : Hid (∀ w1, Below w.heap.size w w1 → Calls Tryz.prog 100 #[.agg #[.bool n1, .string s1, .string d1], .agg #[.bool n3, .string s3, .string d3]] w1 (Re w1 (.tuple #[.agg #[.bool yN, .string yS, .string yD], .int .i64 0])))) :
  Calls Tryz.prog 93 #[.func (.func 100) #[] #[], .agg #[.bool n0, .string s0, .string d0, .bool n1, .string s1, .string d1], .agg #[.bool n2, .string s2, .string d2, .bool n3, .string s3, .string d3]] w (Re w (.tuple #[.agg #[.bool xN, .string xS, .string xD, .bool yN, .string yS, .string yD], .int .i64 0])) := by
 go_enter Tryz.func93, Tryz.ntmps93
 go_wp2_with fail
 go_fit (H1.out _ (ba (ba (ba (Below.refl _ _) _) _) _))
 rintro e w1 ⟨rfl, b1⟩
 obtain ⟨ka, kb, kr, b1⟩ := al3 b1
 have bb := b1
 clear b1
 obtain ⟨ca_0, ca_1, ca_2, ca_3, ca_4, ca_5⟩ := xk6 ka
 obtain ⟨cb_0, cb_1, cb_2, cb_3, cb_4, cb_5⟩ := xk6 kb
 obtain ⟨w2, hw, kx, b1⟩ := mk1 w1 [.bool xN, .string xS, .string xD] 26
 replace ka := ka.below b1
 replace kb := kb.below b1
 replace kr := kr.below b1
 replace bb := Below.after bb b1
 clear b1
 clear ca_0 ca_1 ca_2 ca_3 ca_4 ca_5
 clear cb_0 cb_1 cb_2 cb_3 cb_4 cb_5
 obtain ⟨ca_0, ca_1, ca_2, ca_3, ca_4, ca_5⟩ := xk6 ka
 obtain ⟨cb_0, cb_1, cb_2, cb_3, cb_4, cb_5⟩ := xk6 kb
 rw [hw] at ca_0 cb_0 ca_1 cb_1 ca_2 cb_2 ca_3 cb_3 ca_4 cb_4 ca_5 cb_5
 go_wp2_with fail
 rw [← hw]
 clear hw  ca_0 ca_1 ca_2 ca_3 ca_4 ca_5  cb_0 cb_1 cb_2 cb_3 cb_4 cb_5
 go_fit (H2.out _ bb)
 rintro e w3 ⟨rfl, b1⟩
 obtain ⟨w4, hw, ky, b2⟩ := mk1 w3 [.bool yN, .string yS, .string yD] 26
 replace b1 := Below.after b1 b2
 replace kx := kx.below b1
 replace kr := kr.below b1
 replace bb := Below.after bb b1
 obtain ⟨x0, x1, x2⟩ := xk3 kx
 have f0 := Cel.frozen kr 0
 have f1 := Cel.frozen kr 1
 have f2 := Cel.frozen kr 2
 have f3 := Cel.frozen kr 3
 have f4 := Cel.frozen kr 4
 have f5 := Cel.frozen kr 5
 obtain ⟨r0, r1, r2, r3, r4, r5⟩ := xk6 kr
 rw [hw] at x0 x1 x2 f0 f1 f2 f3 f4 f5 r0 r1 r2 r3 r4 r5
 go_wp2
 rw [← hw]
 exact post_p1 (p := 6) (u := 7) (v := .int .i64 0) (by kernel_rfl) rfl rfl rfl (kr.set6 _ _ _ _ _ _) ⟨rfl, bset6 bb (by omega) _ _ _ _ _ _⟩
theorem each_sub_ok (n0 n1 n2 n3 xN yN : Bool) (s0 d0 s1 d1 s2 d2 s3 d3 xS xD yS yD : ByteArray) (w : World)
  (H1 : Hid (∀ w1, Below w.heap.size w w1 → Calls Tryz.prog 92 #[.agg #[.bool n0, .string s0, .string d0], .agg #[.bool n2, .string s2, .string d2]] w1 (Re w1 (.tuple #[.agg #[.bool xN, .string xS, .string xD], .int .i64 0]))))
  (H2 : Hid (∀ w1, Below w.heap.size w w1 → Calls Tryz.prog 92 #[.agg #[.bool n1, .string s1, .string d1], .agg #[.bool n3, .string s3, .string d3]] w1 (Re w1 (.tuple #[.agg #[.bool yN, .string yS, .string yD], .int .i64 0])))) :
  Calls Tryz.prog 93 #[.func (.func 92) #[] #[], .agg #[.bool n0, .string s0, .string d0, .bool n1, .string s1, .string d1], .agg #[.bool n2, .string s2, .string d2, .bool n3, .string s3, .string d3]] w (Re w (.tuple #[.agg #[.bool xN, .string xS, .string xD, .bool yN, .string yS, .string yD], .int .i64 0])) := by
 go_enter Tryz.func93, Tryz.ntmps93
 go_wp2_with fail
 go_fit (H1.out _ (ba (ba (ba (Below.refl _ _) _) _) _))
 rintro e w1 ⟨rfl, b1⟩
 obtain ⟨ka, kb, kr, b1⟩ := al3 b1
 have bb := b1
 clear b1
 obtain ⟨ca_0, ca_1, ca_2, ca_3, ca_4, ca_5⟩ := xk6 ka
 obtain ⟨cb_0, cb_1, cb_2, cb_3, cb_4, cb_5⟩ := xk6 kb
 obtain ⟨w2, hw, kx, b1⟩ := mk1 w1 [.bool xN, .string xS, .string xD] 26
 replace ka := ka.below b1
 replace kb := kb.below b1
 replace kr := kr.below b1
 replace bb := Below.after bb b1
 clear b1
 clear ca_0 ca_1 ca_2 ca_3 ca_4 ca_5
 clear cb_0 cb_1 cb_2 cb_3 cb_4 cb_5
 obtain ⟨ca_0, ca_1, ca_2, ca_3, ca_4, ca_5⟩ := xk6 ka
 obtain ⟨cb_0, cb_1, cb_2, cb_3, cb_4, cb_5⟩ := xk6 kb
 rw [hw] at ca_0 cb_0 ca_1 cb_1 ca_2 cb_2 ca_3 cb_3 ca_4 cb_4 ca_5 cb_5
 go_wp2_with fail
 rw [← hw]
 clear hw  ca_0 ca_1 ca_2 ca_3 ca_4 ca_5  cb_0 cb_1 cb_2 cb_3 cb_4 cb_5
 go_fit (H2.out _ bb)
 rintro e w3 ⟨rfl, b1⟩
 obtain ⟨w4, hw, ky, b2⟩ := mk1 w3 [.bool yN, .string yS, .string yD] 26
 replace b1 := Below.after b1 b2
 replace kx := kx.below b1
 replace kr := kr.below b1
 replace bb := Below.after bb b1
 obtain ⟨x0, x1, x2⟩ := xk3 kx
 have f0 := Cel.frozen kr 0
 have f1 := Cel.frozen kr 1
 have f2 := Cel.frozen kr 2
 have f3 := Cel.frozen kr 3
 have f4 := Cel.frozen kr 4
 have f5 := Cel.frozen kr 5
 obtain ⟨r0, r1, r2, r3, r4, r5⟩ := xk6 kr
 rw [hw] at x0 x1 x2 f0 f1 f2 f3 f4 f5 r0 r1 r2 r3 r4 r5
 go_wp2
 rw [← hw]
 exact post_p1 (p := 6) (u := 7) (v := .int .i64 0) (by kernel_rfl) rfl rfl rfl (kr.set6 _ _ _ _ _ _) ⟨rfl, bset6 bb (by omega) _ _ _ _ _ _⟩
theorem each_mul_ok (n0 n1 n2 n3 xN yN : Bool) (s0 d0 s1 d1 s2 d2 s3 d3 xS xD yS yD : ByteArray) (w : World)
  (H1 : Hid (∀ w1, Below w.heap.size w w1 → Calls Tryz.prog 99 #[.agg #[.bool n0, .string s0, .string d0], .agg #[.bool n2, .string s2, .string d2]] w1 (Re w1 (.tuple #[.agg #[.bool xN, .string xS, .string xD], .int .i64 0]))))
  (H2 : Hid (∀ w1, Below w.heap.size w w1 → Calls Tryz.prog 99 #[.agg #[.bool n1, .string s1, .string d1], .agg #[.bool n3, .string s3, .string d3]] w1 (Re w1 (.tuple #[.agg #[.bool yN, .string yS, .string yD], .int .i64 0])))) :
  Calls Tryz.prog 93 #[.func (.func 99) #[] #[], .agg #[.bool n0, .string s0, .string d0, .bool n1, .string s1, .string d1], .agg #[.bool n2, .string s2, .string d2, .bool n3, .string s3, .string d3]] w (Re w (.tuple #[.agg #[.bool xN, .string xS, .string xD, .bool yN, .string yS, .string yD], .int .i64 0])) := by
 go_enter Tryz.func93, Tryz.ntmps93
 go_wp2_with fail
 go_fit (H1.out _ (ba (ba (ba (Below.refl _ _) _) _) _))
 rintro e w1 ⟨rfl, b1⟩
 obtain ⟨ka, kb, kr, b1⟩ := al3 b1
 have bb := b1
 clear b1
 obtain ⟨ca_0, ca_1, ca_2, ca_3, ca_4, ca_5⟩ := xk6 ka
 obtain ⟨cb_0, cb_1, cb_2, cb_3, cb_4, cb_5⟩ := xk6 kb
 obtain ⟨w2, hw, kx, b1⟩ := mk1 w1 [.bool xN, .string xS, .string xD] 26
 replace ka := ka.below b1
 replace kb := kb.below b1
 replace kr := kr.below b1
 replace bb := Below.after bb b1
 clear b1
 clear ca_0 ca_1 ca_2 ca_3 ca_4 ca_5
 clear cb_0 cb_1 cb_2 cb_3 cb_4 cb_5
 obtain ⟨ca_0, ca_1, ca_2, ca_3, ca_4, ca_5⟩ := xk6 ka
 obtain ⟨cb_0, cb_1, cb_2, cb_3, cb_4, cb_5⟩ := xk6 kb
 rw [hw] at ca_0 cb_0 ca_1 cb_1 ca_2 cb_2 ca_3 cb_3 ca_4 cb_4 ca_5 cb_5
 go_wp2_with fail
 rw [← hw]
 clear hw  ca_0 ca_1 ca_2 ca_3 ca_4 ca_5  cb_0 cb_1 cb_2 cb_3 cb_4 cb_5
 go_fit (H2.out _ bb)
 rintro e w3 ⟨rfl, b1⟩
 obtain ⟨w4, hw, ky, b2⟩ := mk1 w3 [.bool yN, .string yS, .string yD] 26
 replace b1 := Below.after b1 b2
 replace kx := kx.below b1
 replace kr := kr.below b1
 replace bb := Below.after bb b1
 obtain ⟨x0, x1, x2⟩ := xk3 kx
 have f0 := Cel.frozen kr 0
 have f1 := Cel.frozen kr 1
 have f2 := Cel.frozen kr 2
 have f3 := Cel.frozen kr 3
 have f4 := Cel.frozen kr 4
 have f5 := Cel.frozen kr 5
 obtain ⟨r0, r1, r2, r3, r4, r5⟩ := xk6 kr
 rw [hw] at x0 x1 x2 f0 f1 f2 f3 f4 f5 r0 r1 r2 r3 r4 r5
 go_wp2
 rw [← hw]
 exact post_p1 (p := 6) (u := 7) (v := .int .i64 0) (by kernel_rfl) rfl rfl rfl (kr.set6 _ _ _ _ _ _) ⟨rfl, bset6 bb (by omega) _ _ _ _ _ _⟩
theorem plus_walk (n0 n1 n2 n3 xN yN : Bool) (s0 d0 s1 d1 s2 d2 s3 d3 xS xD yS yD : ByteArray) (E : Int) (w : World)
  (H1 : Hid (∀ w1, Below w.heap.size w w1 → Calls Tryz.prog 93 #[.func (.func 100) #[] #[], .agg #[.bool n0, .string s0, .string d0, .bool n1, .string s1, .string d1], .agg #[.bool n2, .string s2, .string d2, .bool n3, .string s3, .string d3]] w1 (Re w1 (.tuple #[.agg #[.bool xN, .string xS, .string xD, .bool yN, .string yS, .string yD], .int .i64 E])))) :
  Calls Tryz.prog 53 #[.agg #[.bool n0, .string s0, .string d0, .bool n1, .string s1, .string d1], .agg #[.bool n2, .string s2, .string d2, .bool n3, .string s3, .string d3]] w (Re w (.tuple #[.agg #[.bool xN, .string xS, .string xD, .bool yN, .string yS, .string yD], .int .i64 E])) := by
 go_enter Tryz.func53, Tryz.ntmps53
 go_wp2_with fail
 go_fit (H1.out _ (ba (ba (ba (Below.refl _ _) _) _) _))
 rintro e w1 ⟨rfl, b1⟩
 obtain ⟨ka, kb, kr, b1⟩ := al3 b1
 have bb := b1
 clear b1
 have f0 := Cel.frozen kr 0
 have r0 := cel6_0 kr
 have f1 := Cel.frozen kr 1
 have r1 := cel6_1 kr
 have f2 := Cel.frozen kr 2
 have r2 := cel6_2 kr
 have f3 := Cel.frozen kr 3
 have r3 := cel6_3 kr
 have f4 := Cel.frozen kr 4
 have r4 := cel6_4 kr
 have f5 := Cel.frozen kr 5
 have r5 := cel6_5 kr
 go_wp2
 exact post_p1 (p := 4) (u := 5) (v := .int .i64 E) (by kernel_rfl) rfl rfl rfl (kr.set6 _ _ _ _ _ _) ⟨rfl, bset6 bb (by omega) _ _ _ _ _ _⟩
theorem minus_walk (n0 n1 n2 n3 xN yN : Bool) (s0 d0 s1 d1 s2 d2 s3 d3 xS xD yS yD : ByteArray) (E : Int) (w : World)
  (H1 : Hid (∀ w1, Below w.heap.size w w1 → Calls Tryz.prog 93 #[.func (.func 92) #[] #[], .agg #[.bool n0, .string s0, .string d0, .bool n1, .string s1, .string d1], .agg #[.bool n2, .string s2, .string d2, .bool n3, .string s3, .string d3]] w1 (Re w1 (.tuple #[.agg #[.bool xN, .string xS, .string xD, .bool yN, .string yS, .string yD], .int .i64 E])))) :
  Calls Tryz.prog 49 #[.agg #[.bool n0, .string s0, .string d0, .bool n1, .string s1, .string d1], .agg #[.bool n2, .string s2, .string d2, .bool n3, .string s3, .string d3]] w (Re w (.tuple #[.agg #[.bool xN, .string xS, .string xD, .bool yN, .string yS, .string yD], .int .i64 E])) := by
 go_enter Tryz.func49, Tryz.ntmps49
 go_wp2_with fail
 go_fit (H1.out _ (ba (ba (ba (Below.refl _ _) _) _) _))
 rintro e w1 ⟨rfl, b1⟩
 obtain ⟨ka, kb, kr, b1⟩ := al3 b1
 have bb := b1
 clear b1
 have f0 := Cel.frozen kr 0
 have r0 := cel6_0 kr
 have f1 := Cel.frozen kr 1
 have r1 := cel6_1 kr
 have f2 := Cel.frozen kr 2
 have r2 := cel6_2 kr
 have f3 := Cel.frozen kr 3
 have r3 := cel6_3 kr
 have f4 := Cel.frozen kr 4
 have r4 := cel6_4 kr
 have f5 := Cel.frozen kr 5
 have r5 := cel6_5 kr
 go_wp2
 exact post_p1 (p := 4) (u := 5) (v := .int .i64 E) (by kernel_rfl) rfl rfl rfl (kr.set6 _ _ _ _ _ _) ⟨rfl, bset6 bb (by omega) _ _ _ _ _ _⟩
theorem scale_walk (n0 n1 n2 xN yN : Bool) (s0 d0 s1 d1 s2 d2 xS xD yS yD : ByteArray) (E : Int) (w : World)
  (H1 : Hid (∀ w1, Below w.heap.size w w1 → Calls Tryz.prog 93 #[.func (.func 99) #[] #[], .agg #[.bool n0, .string s0, .string d0, .bool n1, .string s1, .string d1], .agg #[.bool n2, .string s2, .string d2, .bool n2, .string s2, .string d2]] w1 (Re w1 (.tuple #[.agg #[.bool xN, .string xS, .string xD, .bool yN, .string yS, .string yD], .int .i64 E])))) :
  Calls Tryz.prog 52 #[.agg #[.bool n0, .string s0, .string d0, .bool n1, .string s1, .string d1], .agg #[.bool n2, .string s2, .string d2]] w (Re w (.tuple #[.agg #[.bool xN, .string xS, .string xD, .bool yN, .string yS, .string yD], .int .i64 E])) := by
 go_enter Tryz.func52, Tryz.ntmps52
 go_wp2_with fail
 go_fit (H1.out _ (ba (ba (ba (Below.refl _ _) _) _) _))
 rintro e w1 ⟨rfl, b1⟩
 obtain ⟨ka, kb, kr, b1⟩ := al3 b1
 have bb := b1
 clear b1
 have f0 := Cel.frozen kr 0
 have r0 := cel6_0 kr
 have f1 := Cel.frozen kr 1
 have r1 := cel6_1 kr
 have f2 := Cel.frozen kr 2
 have r2 := cel6_2 kr
 have f3 := Cel.frozen kr 3
 have r3 := cel6_3 kr
 have f4 := Cel.frozen kr 4
 have r4 := cel6_4 kr
 have f5 := Cel.frozen kr 5
 have r5 := cel6_5 kr
 go_wp2
 exact post_p1 (p := 4) (u := 5) (v := .int .i64 E) (by kernel_rfl) rfl rfl rfl (kr.set6 _ _ _ _ _ _) ⟨rfl, bset6 bb (by omega) _ _ _ _ _ _⟩
theorem qI_nz (q : Rat) : qI q = .agg #[.bool (nfZ q.num), .string (sfZ q.num), .string (strOf q.den)] := rfl
theorem vplus_ok (n0 n1 n2 n3 : Bool) (s0 d0 s1 d1 s2 d2 s3 d3 : ByteArray) (w : World) (hT : Tab w) (h : twoc (twoq n0 s0 d0 n1 s1 d1) (twoq n2 s2 d2 n3 s3 d3) = 0) (z0 : s0.size ≤ 4000 ∧ d0.size ≤ 4000) (z1 : s1.size ≤ 4000 ∧ d1.size ≤ 4000) (z2 : s2.size ≤ 4000 ∧ d2.size ≤ 4000) (z3 : s3.size ≤ 4000 ∧ d3.size ≤ 4000) :
  Calls Tryz.prog 53 #[.agg #[.bool n0, .string s0, .string d0, .bool n1, .string s1, .string d1], .agg #[.bool n2, .string s2, .string d2, .bool n3, .string s3, .string d3]] w (Re w (.tuple #[.agg #[.bool (nfZ (qOf n0 s0 d0 + qOf n2 s2 d2).num), .string (sfZ (qOf n0 s0 d0 + qOf n2 s2 d2).num), .string (strOf (qOf n0 s0 d0 + qOf n2 s2 d2).den), .bool (nfZ (qOf n1 s1 d1 + qOf n3 s3 d3).num), .string (sfZ (qOf n1 s1 d1 + qOf n3 s3 d3).num), .string (strOf (qOf n1 s1 d1 + qOf n3 s3 d3).den)], .int .i64 0])) := by
 obtain ⟨h0, h1⟩ := two_zero.1 h
 obtain ⟨c0, c1⟩ := twoq_zero.1 h0
 obtain ⟨c2, c3⟩ := twoq_zero.1 h1
 refine plus_walk n0 n1 n2 n3 _ _ s0 d0 s1 d1 s2 d2 s3 d3 _ _ _ _ 0 w (fun w1 b => ?_)
 refine each_add_ok n0 n1 n2 n3 _ _ s0 d0 s1 d1 s2 d2 s3 d3 _ _ _ _ w1 (fun w2 b2 => ?_) (fun w2 b2 => ?_)
 ·have := qadd_ok n0 n2 s0 d0 s2 d2 w2 ((hT.below b).below b2) (twoq_zero.2 ⟨c0, c2⟩) (Nat.le_refl 4000) z0.1 z0.2 z2.1 z2.2
  rwa [qI_nz] at this
 ·have := qadd_ok n1 n3 s1 d1 s3 d3 w2 ((hT.below b).below b2) (twoq_zero.2 ⟨c1, c3⟩) (Nat.le_refl 4000) z1.1 z1.2 z3.1 z3.2
  rwa [qI_nz] at this
theorem vminus_ok (n0 n1 n2 n3 : Bool) (s0 d0 s1 d1 s2 d2 s3 d3 : ByteArray) (w : World) (hT : Tab w) (h : twoc (twoq n0 s0 d0 n1 s1 d1) (twoq n2 s2 d2 n3 s3 d3) = 0) (z0 : s0.size ≤ 4000 ∧ d0.size ≤ 4000) (z1 : s1.size ≤ 4000 ∧ d1.size ≤ 4000) (z2 : s2.size ≤ 4000 ∧ d2.size ≤ 4000) (z3 : s3.size ≤ 4000 ∧ d3.size ≤ 4000) :
  Calls Tryz.prog 49 #[.agg #[.bool n0, .string s0, .string d0, .bool n1, .string s1, .string d1], .agg #[.bool n2, .string s2, .string d2, .bool n3, .string s3, .string d3]] w (Re w (.tuple #[.agg #[.bool (nfZ (qOf n0 s0 d0 - qOf n2 s2 d2).num), .string (sfZ (qOf n0 s0 d0 - qOf n2 s2 d2).num), .string (strOf (qOf n0 s0 d0 - qOf n2 s2 d2).den), .bool (nfZ (qOf n1 s1 d1 - qOf n3 s3 d3).num), .string (sfZ (qOf n1 s1 d1 - qOf n3 s3 d3).num), .string (strOf (qOf n1 s1 d1 - qOf n3 s3 d3).den)], .int .i64 0])) := by
 obtain ⟨h0, h1⟩ := two_zero.1 h
 obtain ⟨c0, c1⟩ := twoq_zero.1 h0
 obtain ⟨c2, c3⟩ := twoq_zero.1 h1
 refine minus_walk n0 n1 n2 n3 _ _ s0 d0 s1 d1 s2 d2 s3 d3 _ _ _ _ 0 w (fun w1 b => ?_)
 refine each_sub_ok n0 n1 n2 n3 _ _ s0 d0 s1 d1 s2 d2 s3 d3 _ _ _ _ w1 (fun w2 b2 => ?_) (fun w2 b2 => ?_)
 ·have := qsub_ok n0 n2 s0 d0 s2 d2 w2 ((hT.below b).below b2) (twoq_zero.2 ⟨c0, c2⟩) (Nat.le_refl 4000) z0.1 z0.2 z2.1 z2.2
  rwa [qI_nz] at this
 ·have := qsub_ok n1 n3 s1 d1 s3 d3 w2 ((hT.below b).below b2) (twoq_zero.2 ⟨c1, c3⟩) (Nat.le_refl 4000) z1.1 z1.2 z3.1 z3.2
  rwa [qI_nz] at this
theorem vscale_ok (n0 n1 n2 : Bool) (s0 d0 s1 d1 s2 d2 : ByteArray) (w : World) (hT : Tab w) (h : twoc (twoq n0 s0 d0 n1 s1 d1) (twoq n2 s2 d2 n2 s2 d2) = 0) (z0 : s0.size ≤ 4000 ∧ d0.size ≤ 4000) (z1 : s1.size ≤ 4000 ∧ d1.size ≤ 4000) (z2 : s2.size ≤ 4000 ∧ d2.size ≤ 4000) :
  Calls Tryz.prog 52 #[.agg #[.bool n0, .string s0, .string d0, .bool n1, .string s1, .string d1], .agg #[.bool n2, .string s2, .string d2]] w (Re w (.tuple #[.agg #[.bool (nfZ (qOf n0 s0 d0 * qOf n2 s2 d2).num), .string (sfZ (qOf n0 s0 d0 * qOf n2 s2 d2).num), .string (strOf (qOf n0 s0 d0 * qOf n2 s2 d2).den), .bool (nfZ (qOf n1 s1 d1 * qOf n2 s2 d2).num), .string (sfZ (qOf n1 s1 d1 * qOf n2 s2 d2).num), .string (strOf (qOf n1 s1 d1 * qOf n2 s2 d2).den)], .int .i64 0])) := by
 obtain ⟨h0, h1⟩ := two_zero.1 h
 obtain ⟨c0, c1⟩ := twoq_zero.1 h0
 obtain ⟨c2, -⟩ := twoq_zero.1 h1
 refine scale_walk n0 n1 n2 _ _ s0 d0 s1 d1 s2 d2 _ _ _ _ 0 w (fun w1 b => ?_)
 refine each_mul_ok n0 n1 n2 n2 _ _ s0 d0 s1 d1 s2 d2 s2 d2 _ _ _ _ w1 (fun w2 b2 => ?_) (fun w2 b2 => ?_)
 ·have := qmul_ok n0 n2 s0 d0 s2 d2 w2 ((hT.below b).below b2) (twoq_zero.2 ⟨c0, c2⟩) (Nat.le_refl 4000) z0.1 z0.2 z2.1 z2.2
  rwa [qI_nz] at this
 ·have := qmul_ok n1 n2 s1 d1 s2 d2 w2 ((hT.below b).below b2) (twoq_zero.2 ⟨c1, c2⟩) (Nat.le_refl 4000) z1.1 z1.2 z2.1 z2.2
  rwa [qI_nz] at this
theorem cross_ok (n0 n1 n2 n3 rN : Bool) (s0 d0 s1 d1 s2 d2 s3 d3 rS rD : ByteArray) (w : World)
  (HC : Hid (∀ (B : Nat) (w1 : World), Below w.heap.size w w1 → Cel w1 B [.bool n0, .string s0, .string d0, .bool n1, .string s1, .string d1, .bool n2, .string s2, .string d2, .bool n3, .string s3, .string d3] 26 → Calls Tryz.prog 94 #[.slice (some ⟨B, 0, none⟩) 4 4] w1 (Re w1 (.int .i64 0))))
  (HD : Hid (∀ (B g1 g2 : Nat) (w1 : World), Below w.heap.size w w1 → Cel w1 B [.slice (some ⟨g1, 0, none⟩) 2 2, .slice (some ⟨g2, 0, none⟩) 2 2] 102 → Cel w1 g1 [.bool n0, .string s0, .string d0, .bool n1, .string s1, .string d1] 26 → Cel w1 g2 [.bool n2, .string s2, .string d2, .bool n3, .string s3, .string d3] 26 → Calls Tryz.prog 95 #[.slice (some ⟨B, 0, none⟩) 2 2] w1 (Re w1 (.agg #[.bool rN, .string rS, .string rD])))) :
  Calls Tryz.prog 50 #[.agg #[.bool n0, .string s0, .string d0, .bool n1, .string s1, .string d1], .agg #[.bool n2, .string s2, .string d2, .bool n3, .string s3, .string d3]] w (Re w (.tuple #[.agg #[.bool rN, .string rS, .string rD], .int .i64 0])) := by
 go_enter Tryz.func50, Tryz.ntmps50
 go_wp2_with fail
 obtain ⟨w1, hw, ka, kb, kr, kl, b1⟩ := mk4 w [.bool n0, .string s0, .string d0, .bool n1, .string s1, .string d1] [.bool n2, .string s2, .string d2, .bool n3, .string s3, .string d3] [.bool false, .string { data := #[] }, .string { data := #[] }] [.bool n0, .string s0, .string d0, .bool n1, .string s1, .string d1, .bool n2, .string s2, .string d2, .bool n3, .string s3, .string d3] 28 28 26 26
 rw [← hw]
 clear hw
 go_fit (HC.out _ _ b1 kl)
 rintro e w2 ⟨rfl, b2⟩
 replace ka := ka.below b2
 replace kb := kb.below b2
 replace kr := kr.below b2
 have bb := Below.after b1 b2
 clear b1 b2 kl
 go_wp2_with fail
 have qka : w.heap.size ≠ w.heap.size + 1 + 1 := by omega
 have qkb : w.heap.size + 1 ≠ w.heap.size + 1 + 1 := by omega
 have mkS : Hid (∀ w', Cel w' (w.heap.size) [.bool n0, .string s0, .string d0, .bool n1, .string s1, .string d1] 28 → Cel w' (w.heap.size + 1) [.bool n2, .string s2, .string d2, .bool n3, .string s3, .string d3] 28 → (xc6 w' w.heap.size (.bool n0) (.string s0) (.string d0) (.bool n1) (.string s1) (.string d1) ∧ xc6 w' (w.heap.size + 1) (.bool n2) (.string s2) (.string d2) (.bool n3) (.string s3) (.string d3))) := fun w' hka hkb => ⟨xk6 hka, xk6 hkb⟩
 go_region_held3 (fun w' => xc6 w' w.heap.size (.bool n0) (.string s0) (.string d0) (.bool n1) (.string s1) (.string d1) ∧ xc6 w' (w.heap.size + 1) (.bool n2) (.string s2) (.string d2) (.bool n3) (.string s3) (.string d3)) (first | with_reducible exact mkS.out _ ka kb | with_reducible exact mkS.out _ (ka.alloc _) (kb.alloc _) | with_reducible exact mkS.out _ (Cel.other (Cel.other (Cel.other ka qka 0 _) qka 1 _) qka 2 _) (Cel.other (Cel.other (Cel.other kb qkb 0 _) qkb 1 _) qkb 2 _) | exact mkS.out _ ka kb) (first | (go_at_call 96; go_fit (pair_any n0 n1 s0 d0 s1 d1 _); rintro e wn1 ⟨g1, rfl, k1, hg1, bn1⟩; replace ka := ka.below (un bn1); replace kb := kb.below (un bn1); replace kr := kr.below (un bn1); replace bb := Below.after bb (un bn1)) | (go_at_call 96; go_fit (pair_any n2 n3 s2 d2 s3 d3 _); rintro e wn2 ⟨g2, rfl, k2, hg2, bn2⟩; replace ka := ka.below (un bn2); replace kb := kb.below (un bn2); replace kr := kr.below (un bn2); replace k1 := k1.below (un bn2); replace bb := Below.after bb (un bn2)) | (go_at_call 95; go_fit (HD.out _ g1 g2 _ (ba bb _) (Cel.new _ _ _) (k1.alloc _) (k2.alloc _)); rintro e wn3 ⟨rfl, bn3⟩; obtain ⟨-, bn4⟩ := al1 bn3; replace ka := ka.below (un bn4); replace kb := kb.below (un bn4); replace kr := kr.below (un bn4); replace bb := Below.after bb (un bn4); have e0 := cel3_0 kr; have f0 := Cel.frozen kr 0; have e1 := cel3_1 kr; have f1 := Cel.frozen kr 1; have e2 := cel3_2 kr; have f2 := Cel.frozen kr 2))
 go_wp2
 exact post_q1 (p := 4) (u := 5) (v := .int .i64 0) (by kernel_rfl) rfl rfl rfl (((kr.set 0 _).set 1 _).set 2 _) ⟨rfl, bset (bset (bset bb (by omega) 0 _) (by omega) 1 _) (by omega) 2 _⟩
theorem ex_any (n B : Nat) (h1 : 1 ≤ n) (h4 : n ≤ 4) (hB : B ≤ 3000) : Ex n B := by
 match n, h1, h4 with
 | 1, _, _ => exact ex_one B
 | 2, _, _ => exact ex_succ 1 B (by omega) (by omega) hB (ex_one B)
 | 3, _, _ => exact ex_succ 2 B (by omega) (by omega) hB (ex_succ 1 B (by omega) (by omega) hB (ex_one B))
 | 4, _, _ => exact ex_succ 3 B (by omega) (by omega) hB (ex_succ 2 B (by omega) (by omega) hB (ex_succ 1 B (by omega) (by omega) hB (ex_one B)))
theorem own_set {w : World} {B n k g j : Nat} {t t' : TypeId} {v u : Value} {xs : List Value} (h : w.ownsRow B t k v n xs) (hc : ∃ cs, w.heap[g]? = some (.cells cs t' (0, 0))) (hne : t ≠ t') : (w.setCell ⟨g, j, none⟩ u).ownsRow B t k v n xs := by
 have hg : w.grownBy (w.setCell ⟨g, j, none⟩ u) (some g) := ⟨rfl, rfl, rfl, by simp, fun b _ hb => Below.heap_setCell _ _ _ _ (fun e => hb (by rw [e]))⟩
 refine h.kept hg (Or.inr fun e => ?_)
 obtain ⟨cs, hh⟩ := ownN_type h g e
 obtain ⟨cs', hh'⟩ := hc
 rw [hh] at hh'
 simp at hh'
 exact hne hh'.2
def whole4 (q : Nat → Nat → Rat) (n : Nat) : Nat → Nat → Int := fun i => clr (q i) (densOf (fun j => strOf (q i j).den) n) n
theorem determinant_any (a : Option Addr) (n cap : Nat) (q : Nat → Nat → Rat) (w : World) (hT : Tab w) (h1 : 1 ≤ n) (h4 : n ≤ 4) (h : RdR w a n n q) (hq : ∀ i j, i < n → j < n → Bq (q i j) 170) :
  Calls Tryz.prog 95 #[.slice a n cap] w (Re w (qI (Dt.det n q))) := by
 replace h := shut h
 replace hT := shut hT
 replace hq := shut hq
 have HD : Hid (∀ i, i < n → ∀ x ∈ densOf (fun j => strOf (q i j).den) n, OkS x ∧ 0 < natOf x ∧ x.size ≤ 170) := fun i hi x hx => by
  obtain ⟨j, hj, rfl, -⟩ := mem_densOf hx
  have hb := (hq.out i j hi hj).2.size
  exact ⟨okS_strOf _, by rw [natOf_strOf]; exact (q i j).den_pos, by simpa using hb⟩
 have HDa : Hid (∀ x ∈ dall q n n, OkS x ∧ 0 < natOf x ∧ x.size ≤ 170) := fun x hx => by
  obtain ⟨i, j, hi, hj, rfl⟩ := mem_dall hx
  have hb := (hq.out i j hi hj).2.size
  exact ⟨okS_strOf _, by rw [natOf_strOf]; exact (q i j).den_pos, by simpa using hb⟩
 have HZ : Hid (∀ i j, i < n → j < n → Bd (whole4 q n i j) 851) := fun i j hi hj => by
  unfold whole4 clr
  rw [if_pos hj]
  have hl := densOf_len (fun j => strOf (q i j).den) n
  refine (Bd.mul (hq.out i j hi hj).1 (bd_pex (k := 170) (fun x hx => (HD.out i hi x hx).2.2))).mono ?_
  have : 170 * (densOf (fun j => strOf (q i j).den) n).length ≤ 170 * 4 := Nat.mul_le_mul_left _ (by omega)
  omega
 obtain ⟨K, hK⟩ : ∃ K, K = 8000 := ⟨_, rfl⟩
 have HK : Hid (K ≤ 8000) := by show K ≤ 8000; omega
 have HN : Hid (Bd (Dt.det n (whole4 q n)) K) := (bd_det n h4 HZ.out).mono (by have : n * (851 + 5) ≤ 4 * (851 + 5) := Nat.mul_le_mul_right _ h4; omega)
 have HLa : Hid (∀ k, k ≤ n → (dall q n k).length ≤ 16) := fun k hk => by
  have h0 := dall_len q n k
  have : k * n ≤ 4 * 4 := Nat.mul_le_mul (by omega) h4
  omega
 have HP : Hid (Dt.nprod ((dall q n n).map natOf) < 256 ^ K) := Nat.lt_of_lt_of_le (nprod_lt (k := 170) (fun x hx => (HDa.out x hx).2.2)) (Nat.pow_le_pow_right (by omega) (by have := HLa.out n (Nat.le_refl _); omega))
 have HQ : Hid (mkRat (Dt.det n (whole4 q n)) (Dt.nprod ((dall q n n).map natOf)) = Dt.det n q) := det_over q n (Dt.nprod_pos fun x hx => by
  rw [List.mem_map] at hx
  obtain ⟨y, hy, rfl⟩ := hx
  exact (HDa.out y hy).2.1)
 go_enter Tryz.func95, Tryz.ntmps95
 go_wp2_with (at_make; refine wpList_mkV rfl _ _ rfl _ n rfl rfl (by omega) (by omega) ?_; intro w1 k1 b1)
 clear hK
 obtain ⟨kr, bb1⟩ := al1 b1
 have KC : Hid (RowsC w1 (w.heap.size + 1) 0 n n (whole4 q n)) := ⟨_, by simpa using k1, fun i hi => by omega⟩
 clear k1 b1
 go_loopw [4, 13] (fun dv i wr => ∃ k : Nat, k ≤ n ∧ i = .int .i64 k ∧ wr.ownsRow w.heap.size 22 1 dv (dall q n k).length ((dall q n k).map Value.string) ∧ RowsC wr (w.heap.size + 1) k n n (whole4 q n) ∧ Cel wr w.heap.size [.bool false, .string { data := #[] }, .string { data := #[] }] 26 ∧ Below w.heap.size w wr) (fun _ i _ => n - (intOf i).toNat)
 case atStart => exact ⟨0, by omega, rfl, World.ownsRow_nil _ _ _ _, KC.out, kr, bb1⟩
 case round =>
  clear KC kr bb1
  obtain ⟨k, hk, rfl, ho, kc, kr, bb⟩ := hrel
  by_cases hkn : k < n
  ·obtain ⟨b, off, ar, c, rfl, h0, hc, hr⟩ := h.out.below bb k hkn
   replace hr := shut hr
   replace ho := shut ho
   have hlen := shut (HLa.out k hk)
   go_wp2_with fail
   go_fit (denominators_any ar n c _ _ _ wr (by omega) hr.out)
   rintro e w2 ⟨v, rfl, hu, b1⟩
   replace kc := kc.below b1
   replace kr := kr.below b1
   replace bb := Below.after bb b1
   replace hr := shut (RdQ.below hr.out b1)
   replace ho := shut (own_below ho.out b1)
   replace hu := shut hu
   clear b1 h0
   go_wp2_with fail
   go_fit (cleared_any ar n c (q k) v (densOf (fun j => strOf (q k j).den) n) w2 (by omega) hr.out (rds_own hu.out) (Nat.le_trans (densOf_len _ _) (by omega)) (fun x hx => ⟨(HD.out k hkn x hx).1, (HD.out k hkn x hx).2.2⟩) (fun j hj => (hq.out k j hkn hj).1))
   rintro e w3 ⟨g3, rfl, kz, hg3, b1⟩
   have hl3 : Hid (w.heap.size + 1 < g3) := by
    obtain ⟨f, kf, -⟩ := id kc
    exact Nat.lt_of_lt_of_le kf.lt hg3
   replace kc := kc.below b1
   replace kr := kr.below b1
   replace bb := Below.after bb b1
   replace ho := shut (own_below ho.out b1)
   replace hu := shut (own_below hu.out b1)
   clear b1 hg3 hr
   obtain ⟨f, kf, -⟩ := id kc
   have e0 := kf.cell hkn
   have f0 := kf.frozen k
   have ty : Hid (∃ cs, w3.heap[w.heap.size + 1]? = some (.cells cs 105 (0, 0))) := by
    obtain ⟨cs, hh, -⟩ := id kf
    exact ⟨cs, hh⟩
   clear kf
   go_wp2_with (at_builtin; refine wpList_appS rfl _ _ rfl u4 (dall q n k).length ((dall q n k).map Value.string) rfl w.heap.size (own_set ho.out ty.out (by decide)) (by have := bb.size; simpa using this) v (densOf (fun j => strOf (q k j).den) n) _ (own_set hu.out ty.out (by decide)) rfl (by have := hlen.out; have := densOf_len (fun j => strOf (q k j).den) n; omega) ?_; intro v' w4 o4 hg4)
   have ot := ownN_type (own_set (j := k) (u := .slice (some ⟨g3, 0, none⟩) n n) ho.out ty.out (by decide))
   have C4 := shut ((kc.put hl3.out kz).grown hg4 ot)
   have R4 := shut ((kr.other (g' := w.heap.size + 1) (by omega) k (.slice (some ⟨g3, 0, none⟩) n n)).grown hg4 ot (by decide))
   have B4 : Hid (Below w.heap.size w w4) := (bset bb (Nat.le_succ _) k _).grown hg4 (by have := bb.size; simpa using this) (fun g hg => ownN_block ho.out g hg)
   have O4 : Hid (w4.ownsRow w.heap.size 22 1 v' (dall q n (k + 1)).length ((dall q n (k + 1)).map Value.string)) := by
    show World.ownsRow _ _ _ _ _ _ _
    rw [show dall q n (k + 1) = dall q n k ++ densOf (fun j => strOf (q k j).den) n from rfl, List.length_append, List.map_append]
    exact o4
   clear o4 hg4 ot kc kr bb ho hu kz e0 f0 ty hl3
   go_wp2
   exact ⟨⟨k + 1, by omega, by go_num, O4.out, C4.out, R4.out, B4.out⟩, by simp [intOf]; omega⟩
  ·obtain rfl : k = n := by omega
   have HE := shut (fun w' r => ex_any k 851 h1 h4 (by omega) (some ⟨w.heap.size + 1, 0, none⟩) k (whole4 q k) w' (Nat.le_refl _) r HZ.out)
   have rm := shut kc.rdM
   replace ho := shut ho
   have hlen := shut (HLa.out k (Nat.le_refl _))
   clear kc
   go_wp2_with fail
   go_fit (HE.out _ rm.out)
   rintro e w2 ⟨rfl, b1⟩
   replace kr := kr.below b1
   replace bb := Below.after bb b1
   replace ho := shut (own_below ho.out b1)
   clear b1 rm
   have HO : Hid (Calls Tryz.prog 115 #[.agg #[.bool (nfZ (Dt.det k (whole4 q k))), .string (sfZ (Dt.det k (whole4 q k)))], u4] w2 (Re w2 (qI (Dt.det k q)))) := by
    have := over_any (Dt.det k (whole4 q k)) u4 (dall q k k) w2 (hT.out.below bb) (rds_own ho.out) (by have := hlen.out; omega) (fun x hx => ⟨(HDa.out x hx).1, (HDa.out x hx).2.1, by have := (HDa.out x hx).2.2; omega⟩) HK.out HN.out HP.out
    rw [HQ.out] at this
    exact this
   obtain ⟨rN, rS, rD, hr⟩ : ∃ x y z, qI (Dt.det k q) = .agg #[.bool x, .string y, .string z] := ⟨_, _, _, rfl⟩
   rw [hr] at HO
   replace hr := shut hr
   go_wp2_with fail
   go_fit (HO.out)
   rintro e w3 ⟨rfl, b1⟩
   replace kr := kr.below b1
   replace bb := Below.after bb b1
   clear b1 HO ho
   obtain ⟨d0, d1, d2⟩ := xk3 kr
   have f0 := Cel.frozen kr 0
   have f1 := Cel.frozen kr 1
   have f2 := Cel.frozen kr 2
   go_wp2
   exact post_q (p := 2) (by kernel_rfl) rfl rfl (((kr.set 0 _).set 1 _).set 2 _) ⟨by rw [hr.out], bset (bset (bset bb (Nat.le_refl _) 0 _) (Nat.le_refl _) 1 _) (Nat.le_refl _) 2 _⟩
def m2 (x0 y0 x1 y1 : Rat) (i j : Nat) : Rat := f2 (f2 x0 y0 j) (f2 x1 y1 j) i
theorem det_m2 (x0 y0 x1 y1 : Rat) : Dt.det 2 (m2 x0 y0 x1 y1) = x0 * y1 - y0 * x1 := by
 simp [Dt.det, Dt.psum, Dt.minor, m2, f2]
 grind
theorem rdqi_2 {w : World} {B : Nat} {t : TypeId} {n0 n1 : Bool} {s0 d0 s1 d1 : ByteArray} (h : Cel w B [.bool n0, .string s0, .string d0, .bool n1, .string s1, .string d1] t) (o0 : OkQ n0 s0 d0) (o1 : OkQ n1 s1 d1) : RdQI w (some ⟨B, 0, none⟩) 2 (f2 (qOf n0 s0 d0) (qOf n1 s1 d1)) := by
 intro j hj
 obtain ⟨b, off, e, h0, h1, h2⟩ := rdq_2 h j hj
 refine ⟨b, off, e, ?_⟩
 obtain ⟨a0, a1, a2⟩ := o0.parts
 obtain ⟨b0, b1, b2⟩ := o1.parts
 match j, hj with
 | 0, _ =>
  refine ⟨h0.trans ?_, h1.trans ?_, h2.trans ?_⟩
  ·show some (Value.bool n0) = some (.bool (nfZ (qOf n0 s0 d0).num)); unfold nfZ; rw [a0]
  ·show some (Value.string s0) = some (.string (sfZ (qOf n0 s0 d0).num)); unfold sfZ; rw [a1]
  ·show some (Value.string d0) = some (.string (strOf (qOf n0 s0 d0).den)); rw [a2]
 | 1, _ =>
  refine ⟨h0.trans ?_, h1.trans ?_, h2.trans ?_⟩
  ·show some (Value.bool n1) = some (.bool (nfZ (qOf n1 s1 d1).num)); unfold nfZ; rw [b0]
  ·show some (Value.string s1) = some (.string (sfZ (qOf n1 s1 d1).num)); unfold sfZ; rw [b1]
  ·show some (Value.string d1) = some (.string (strOf (qOf n1 s1 d1).den)); rw [b2]
theorem det2_any (B g1 g2 : Nat) (n0 n1 n2 n3 : Bool) (s0 d0 s1 d1 s2 d2 s3 d3 : ByteArray) {w : World} (hT : Tab w) (hB : Cel w B [.slice (some ⟨g1, 0, none⟩) 2 2, .slice (some ⟨g2, 0, none⟩) 2 2] 102)
  (k1 : Cel w g1 [.bool n0, .string s0, .string d0, .bool n1, .string s1, .string d1] 26) (k2 : Cel w g2 [.bool n2, .string s2, .string d2, .bool n3, .string s3, .string d3] 26)
  (o0 : OkQ n0 s0 d0) (o1 : OkQ n1 s1 d1) (o2 : OkQ n2 s2 d2) (o3 : OkQ n3 s3 d3) (z0 : s0.size ≤ 170 ∧ d0.size ≤ 170) (z1 : s1.size ≤ 170 ∧ d1.size ≤ 170) (z2 : s2.size ≤ 170 ∧ d2.size ≤ 170) (z3 : s3.size ≤ 170 ∧ d3.size ≤ 170) :
  Calls Tryz.prog 95 #[.slice (some ⟨B, 0, none⟩) 2 2] w (Re w (qI (qOf n0 s0 d0 * qOf n3 s3 d3 - qOf n1 s1 d1 * qOf n2 s2 d2))) := by
 have := determinant_any (some ⟨B, 0, none⟩) 2 2 (m2 (qOf n0 s0 d0) (qOf n1 s1 d1) (qOf n2 s2 d2) (qOf n3 s3 d3)) w hT (by omega) (by omega) (fun i hi => ?_) (fun i j hi hj => ?_)
 ·rw [det_m2] at this
  exact this
 ·match i, hi with
  | 0, _ => exact ⟨B, 0, some ⟨g1, 0, none⟩, 2, rfl, hB.cell 0, Nat.le_refl _, rdqi_2 k1 o0 o1⟩
  | 1, _ => exact ⟨B, 0, some ⟨g2, 0, none⟩, 2, rfl, hB.cell 1, Nat.le_refl _, rdqi_2 k2 o2 o3⟩
 ·match i, j, hi, hj with
  | 0, 0, _, _ => exact o0.bq z0.1 z0.2
  | 0, 1, _, _ => exact o1.bq z1.1 z1.2
  | 1, 0, _, _ => exact o2.bq z2.1 z2.2
  | 1, 1, _, _ => exact o3.bq z3.1 z3.2
theorem vCross_ok (n0 n1 n2 n3 : Bool) (s0 d0 s1 d1 s2 d2 s3 d3 : ByteArray) (w : World) (hT : Tab w) (h : twoc (twoq n0 s0 d0 n1 s1 d1) (twoq n2 s2 d2 n3 s3 d3) = 0) (z0 : s0.size ≤ 170 ∧ d0.size ≤ 170) (z1 : s1.size ≤ 170 ∧ d1.size ≤ 170) (z2 : s2.size ≤ 170 ∧ d2.size ≤ 170) (z3 : s3.size ≤ 170 ∧ d3.size ≤ 170) :
  Calls Tryz.prog 50 #[.agg #[.bool n0, .string s0, .string d0, .bool n1, .string s1, .string d1], .agg #[.bool n2, .string s2, .string d2, .bool n3, .string s3, .string d3]] w (Re w (.tuple #[.agg #[.bool (nfZ (qOf n0 s0 d0 * qOf n3 s3 d3 - qOf n1 s1 d1 * qOf n2 s2 d2).num), .string (sfZ (qOf n0 s0 d0 * qOf n3 s3 d3 - qOf n1 s1 d1 * qOf n2 s2 d2).num), .string (strOf (qOf n0 s0 d0 * qOf n3 s3 d3 - qOf n1 s1 d1 * qOf n2 s2 d2).den)], .int .i64 0])) := by
 have hc : Hid (∀ (B : Nat) (w1 : World), Below w.heap.size w w1 → Cel w1 B [.bool n0, .string s0, .string d0, .bool n1, .string s1, .string d1, .bool n2, .string s2, .string d2, .bool n3, .string s3, .string d3] 26 → Calls Tryz.prog 94 #[.slice (some ⟨B, 0, none⟩) 4 4] w1 (Re w1 (.int .i64 (twoc (twoq n0 s0 d0 n1 s1 d1) (twoq n2 s2 d2 n3 s3 d3) : Nat)))) := fun B w1 b k => vcheck4 B n0 n1 n2 n3 s0 d0 s1 d1 s2 d2 s3 d3 w1 (hT.below b) k
 rw [h] at hc
 obtain ⟨h0, h1⟩ := two_zero.1 h
 have o0 := (chkq_zero (twoq_zero.1 h0).1).1
 have o1 := (chkq_zero (twoq_zero.1 h0).2).1
 have o2 := (chkq_zero (twoq_zero.1 h1).1).1
 have o3 := (chkq_zero (twoq_zero.1 h1).2).1
 refine cross_ok n0 n1 n2 n3 _ s0 d0 s1 d1 s2 d2 s3 d3 _ _ w hc (fun B g1 g2 w1 b kB k1 k2 => ?_)
 have := det2_any B g1 g2 n0 n1 n2 n3 s0 d0 s1 d1 s2 d2 s3 d3 (hT.below b) kB k1 k2 o0 o1 o2 o3 z0 z1 z2 z3
 exact this
theorem vd_cast (a b : Nat) {k j : Nat} (ha : Bd (a : Int) k) (hb : Bd (b : Int) j) : Bd ((a * b : Nat) : Int) (k + j) := by
 rw [Int.natCast_mul]
 exact ha.mul hb
theorem vq_mk {z : Int} {m k : Nat} (hm : 0 < m) (hz : Bd z k) (hd : Bd (m : Int) k) : Bq (mkRat z m) k := by
 refine ⟨?_, ?_⟩
 ·rw [Q.num_mk hm]
  refine hz.div _ ?_
  rw [← Int.dvd_natAbs, Int.ofNat_dvd]
  exact Nat.gcd_dvd_left _ _
 ·rw [Q.den_mk hm]
  exact hd.nat (Nat.div_le_self _ _)
theorem vq_add {a b : Rat} {k : Nat} (ha : Bq a k) (hb : Bq b k) : Bq (a + b) (k + k + 1) := by
 rw [Rat.add_def']
 exact vq_mk (Nat.mul_pos a.den_pos b.den_pos) ((ha.1.mul hb.2).add (hb.1.mul ha.2)) ((vd_cast _ _ ha.2 hb.2).mono (by omega))
theorem vq_neg {a : Rat} {k : Nat} (ha : Bq a k) : Bq (-a) k := ⟨by rw [Rat.neg_num]; exact ha.1.neg, ha.2⟩
theorem vq_sub {a b : Rat} {k : Nat} (ha : Bq a k) (hb : Bq b k) : Bq (a - b) (k + k + 1) := by
 rw [Rat.sub_eq_add_neg]
 exact vq_add ha (vq_neg hb)
theorem vq_mul {a b : Rat} {k : Nat} (ha : Bq a k) (hb : Bq b k) : Bq (a * b) (k + k + 1) := by
 rw [Rat.mul_def']
 exact vq_mk (Nat.mul_pos a.den_pos b.den_pos) ((ha.1.mul hb.1).mono (by omega)) ((vd_cast _ _ ha.2 hb.2).mono (by omega))
theorem roq_walk (x : Int) (xN : Bool) (xS : ByteArray) (w : World)
  (H : Hid (∀ w1, Calls Tryz.prog 84 #[.int .i64 x] w1 (Re w1 (.agg #[.bool xN, .string xS])))) :
  Calls Tryz.prog 58 #[.int .i64 x] w (Re w (.agg #[.bool xN, .string xS, .string ⟨#[1]⟩])) := by
 go_enter Tryz.func58, Tryz.ntmps58
 go_wp2_with fail
 go_fit (H.out _)
 rintro e w1 ⟨rfl, b1⟩
 obtain ⟨kr, b1⟩ := al1 b1
 obtain ⟨d0, d1, d2⟩ := xk3 kr
 have f0 := Cel.frozen kr 0
 have f1 := Cel.frozen kr 1
 have f2 := Cel.frozen kr 2
 go_wp2
 exact post_q (p := 2) (by kernel_rfl) rfl rfl (((kr.set 0 _).set 1 _).set 2 _) ⟨rfl, bset (bset (bset b1 (Nat.le_refl _) 0 _) (Nat.le_refl _) 1 _) (Nat.le_refl _) 2 _⟩
theorem roq_any (x : Int) (h1 : -1000 ≤ x) (h2 : x ≤ 1000) (w : World) :
  Calls Tryz.prog 58 #[.int .i64 x] w (Re w (.agg #[.bool (nfZ x), .string (sfZ x), .string ⟨#[1]⟩])) :=
 roq_walk x _ _ w (fun w1 => rof_any x (by omega) (by omega) w1)
theorem okq_int (z : Int) : OkQ (nfZ z) (sfZ z) ⟨#[1]⟩ := ⟨okZ_nz z, by rw [← strOf_one]; exact okS_strOf 1, by rw [natOf_one]; omega, by rw [natOf_one]; exact Nat.gcd_one_right _⟩
theorem qOf_int (z : Int) : qOf (nfZ z) (sfZ z) ⟨#[1]⟩ = (z : Rat) := by
 unfold qOf
 rw [zOf_nz, natOf_one, Rat.mkRat_one]
theorem sz_int (z : Int) (h1 : -200 ≤ z) (h2 : z ≤ 200) : (sfZ z).size ≤ 170 ∧ (⟨#[1]⟩ : ByteArray).size ≤ 170 := by
 refine ⟨Nat.le_trans (Bd.size (k := 1) ?_) (by omega), by decide⟩
 unfold Bd
 simp
 omega
theorem chk_int (z : Int) (h1 : -200 ≤ z) (h2 : z ≤ 200) : chkq (nfZ z) (sfZ z) ⟨#[1]⟩ = 0 := chkq_ok (okq_int z) (by have := (sz_int z h1 h2).1; omega) (by decide)
end Go.Proofs.YtiiigiggcbbgjaaGreatDoor
