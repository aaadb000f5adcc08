/-
  Rows of rational numbers; what their denominators make together.
  Package vec: check of points; pair; turned; the determinant of two rows.
  Package vec: turned; each; Plus, Minus, Scale, walked.
-/
import Derived.Laws.AppendOwnNone
import Derived.Test.YtmojdkjpcjfkeaaGreatDoorG34
import Derived.Test.YtmojdkjpcjfkeaaGreatDoorG38
set_option maxRecDepth 100000
set_option maxHeartbeats 4000000
namespace Go.Proofs.YtmojdkjpcjfkeaaGreatDoor
open Go.RowKit
theorem wpList_appS {w : World} {ops : Array Oper} {rest : List Oper} {o : Oper} {a : Act} {Q : Exit → Act → World → Prop}
  (hg : o.guard = none) (s x : Operand) (hop : o.op = Op.call { callee := Callee.builtin Builtin.append, args := #[s, x], argTypes := #[112, 112] })
  (sv : Value) (n : Nat) (vs : List Value) (hs : a.eval s = sv) (B : Nat) (hown : w.ownsRow B 22 1 sv n vs) (hB : B ≤ w.heap.size) (u : Value) (l : List ByteArray) (B' : Nat) (hu : w.ownsRow B' 22 1 u l.length (l.map Value.string)) (hx : a.eval x = u) (hn : n + l.length ≤ 1000000)
  (hK : ∀ v' w', w'.ownsRow B 22 1 v' (n + l.length) (vs ++ l.map Value.string) → w.grownBy w' sv.ownBlock → wpList Tryz.prog ops Q rest (a.put o.dst v') w') :
  wpList Tryz.prog ops Q (o :: rest) a w := by
 rcases id hu.2 with ⟨rfl, h0⟩ | ⟨g, cap, cur, rfl, hg', hh, hc, -⟩
 ·obtain ⟨i0, hi, -⟩ := info_parts (show (Tryz.prog.info? 22).map (fun i => (i.zero, i.size, i.bytes)) = some (some (.string ⟨#[]⟩), 1, 16) by kernel_rfl)
  have hl : l = [] := List.length_eq_zero_iff.1 h0
  subst hl
  refine wpList_append_own_none hg s x 112 hop B 22 i0 1 Tryz.underlying112 hi sv n vs hs hown hx ?_
  exact hK sv w (by simpa using hown) ⟨rfl, rfl, rfl, Nat.le_refl _, fun _ _ _ => rfl⟩
 ·obtain ⟨a', cap', e', -, hc'⟩ := rds_own hu
  simp only [Value.slice.injEq] at e'
  obtain ⟨rfl, -, rfl⟩ := e'
  refine wpList_appNat hg s x hop sv n vs hs B hown hB g 0 l.length cap l hx rfl (fun j hj => ?_) hn hK
  obtain ⟨b, off, e, h0⟩ := hc' j hj
  simp only [Option.some.injEq, Addr.mk.injEq] at e
  obtain ⟨rfl, rfl, -⟩ := e
  exact h0
theorem ownN_type {w : World} {B n k : Nat} {t : TypeId} {sv : Value} {vs : List Value} (h : w.ownsRow B t k sv n vs) : ∀ g, sv.ownBlock = some g → ∃ cs, w.heap[g]? = some (.cells cs t (0, 0)) := by
 intro g hg
 rcases h.2 with ⟨rfl, -⟩ | ⟨g', cap, cur, rfl, hB, hh, -⟩
 ·simp [Value.ownBlock] at hg
 ·simp [Value.ownBlock] at hg
  subst hg
  exact ⟨_, hh⟩
theorem heap_grown {w w' : World} {row : Option Nat} {g : Nat} {cs : Array Value} {t t' : TypeId} (hg : w.grownBy w' row) (hr : ∀ b, row = some b → ∃ cs, w.heap[b]? = some (.cells cs t' (0, 0))) (hne : t ≠ t') (h : w.heap[g]? = some (.cells cs t (0, 0))) : w'.heap[g]? = some (.cells cs t (0, 0)) := by
 have hlt : g < w.heap.size := by
  rcases Nat.lt_or_ge g w.heap.size with c | c
  ·exact c
  ·rw [Array.getElem?_eq_none c] at h; cases h
 rw [hg.block g hlt (fun e => ?_)]
 ·exact h
 ·obtain ⟨cs', hh⟩ := hr g e.symm
  rw [h] at hh
  simp at hh
  exact hne hh.2
theorem Cells.grown {w w' : World} {row : Option Nat} {g n : Nat} {t t' : TypeId} {f : Nat → Value} (h : Cells w g t n f) (hg : w.grownBy w' row) (hr : ∀ b, row = some b → ∃ cs, w.heap[b]? = some (.cells cs t' (0, 0))) (hne : t ≠ t') : Cells w' g t n f := by
 obtain ⟨cs, h1, h2, h3⟩ := h
 exact ⟨cs, heap_grown hg hr hne h1, h2, h3⟩
theorem Cel.grown {w w' : World} {row : Option Nat} {g : Nat} {t t' : TypeId} {cs : List Value} (h : Cel w g cs t) (hg : w.grownBy w' row) (hr : ∀ b, row = some b → ∃ cs, w.heap[b]? = some (.cells cs t' (0, 0))) (hne : t ≠ t') : Cel w' g cs t := heap_grown hg hr hne h
def RowsC (w : World) (g k n m : Nat) (Z : Nat → Nat → Int) : Prop := ∃ f, Cells w g 131 n f ∧ ∀ i, i < k → ∃ h, f i = .slice (some ⟨h, 0, none⟩) m m ∧ g < h ∧ Cells w h 24 (m * 2) (fz (Z i))
theorem RowsC.below {w w' : World} {g k n m : Nat} {Z : Nat → Nat → Int} (h : RowsC w g k n m Z) (hb : Below w.heap.size w w') : RowsC w' g k n m Z := by
 obtain ⟨f, h1, h2⟩ := h
 refine ⟨f, h1.below hb, fun i hi => ?_⟩
 obtain ⟨h, e, hg, r⟩ := h2 i hi
 exact ⟨h, e, hg, r.below hb⟩
theorem RowsC.grown {w w' : World} {row : Option Nat} {g k n m : Nat} {Z : Nat → Nat → Int} (h : RowsC w g k n m Z) (hg : w.grownBy w' row) (hr : ∀ b, row = some b → ∃ cs, w.heap[b]? = some (.cells cs 22 (0, 0))) : RowsC w' g k n m Z := by
 obtain ⟨f, h1, h2⟩ := h
 refine ⟨f, h1.grown hg hr (by decide), fun i hi => ?_⟩
 obtain ⟨h, e, hg', r⟩ := h2 i hi
 exact ⟨h, e, hg', r.grown hg hr (by decide)⟩
theorem RowsC.put {w : World} {g k n m : Nat} {Z : Nat → Nat → Int} (h : RowsC w g k n m Z) {b : Nat} (hb : g < b) (r : Cells w b 24 (m * 2) (fz (Z k))) : RowsC (w.setCell ⟨g, k, none⟩ (.slice (some ⟨b, 0, none⟩) m m)) g (k + 1) n m Z := by
 obtain ⟨f, h1, h2⟩ := h
 refine ⟨_, h1.set k _, fun i hi => ?_⟩
 by_cases e : i = k
 ·subst e
  exact ⟨b, by rw [if_pos rfl], hb, r.other (by omega) _ _⟩
 ·obtain ⟨h, e', hg', r'⟩ := h2 i (by omega)
  exact ⟨h, by rw [if_neg e]; exact e', hg', r'.other (by omega) _ _⟩
theorem RowsC.rdM {w : World} {g n m : Nat} {Z : Nat → Nat → Int} (h : RowsC w g n n m Z) : RdM w (some ⟨g, 0, none⟩) n m Z := by
 obtain ⟨f, h1, h2⟩ := h
 intro i hi
 obtain ⟨h, e, hg, r⟩ := h2 i hi
 exact ⟨g, 0, h, 0, m, rfl, by rw [Nat.zero_add, h1.cell hi, e], Nat.le_refl _, r.rdZ⟩
def RdQI (w : World) (a : Option Addr) (n : Nat) (q : Nat → Rat) : Prop := RdQ w a n (fun j => nfZ (q j).num) (fun j => sfZ (q j).num) (fun j => strOf (q j).den)
def RdR (w : World) (a : Option Addr) (n m : Nat) (q : Nat → Nat → Rat) : Prop := ∀ i, i < n → ∃ b off ar c, a = some ⟨b, off, none⟩ ∧ w.cell? ⟨b, off + i, none⟩ = some (.slice ar m c) ∧ m ≤ c ∧ RdQI w ar m (q i)
theorem RdR.below {w w' : World} {a : Option Addr} {n m : Nat} {q : Nat → Nat → Rat} (h : RdR w a n m q) (hb : Below w.heap.size w w') : RdR w' a n m q := by
 intro i hi
 obtain ⟨b, off, ar, c, rfl, h0, hc, h1⟩ := h i hi
 exact ⟨b, off, ar, c, rfl, cell_below h0 hb, hc, h1.below hb⟩
def dall (q : Nat → Nat → Rat) (n : Nat) : Nat → List ByteArray
 | 0 => []
 | k + 1 => dall q n k ++ densOf (fun j => strOf (q k j).den) n
theorem dall_len (q : Nat → Nat → Rat) (n : Nat) : ∀ k, (dall q n k).length ≤ k * n
 | 0 => by simp [dall]
 | k + 1 => by
  have h1 := dall_len q n k
  have h2 := densOf_len (fun j => strOf (q k j).den) n
  unfold dall
  rw [List.length_append, Nat.succ_mul]
  omega
theorem mem_densOf {D : Nat → ByteArray} {x : ByteArray} : ∀ {n : Nat}, x ∈ densOf D n → ∃ j, j < n ∧ x = D j ∧ x ≠ ⟨#[1]⟩
 | 0, h => by simp [densOf] at h
 | n + 1, h => by
  unfold densOf at h
  by_cases e1 : D n = ⟨#[1]⟩
  ·rw [if_pos e1] at h
   obtain ⟨j, hj, r⟩ := mem_densOf h
   exact ⟨j, by omega, r⟩
  ·rw [if_neg e1] at h
   by_cases e2 : isIn (densOf D n) (D n) = true
   ·rw [if_pos e2] at h
    obtain ⟨j, hj, r⟩ := mem_densOf h
    exact ⟨j, by omega, r⟩
   ·rw [if_neg e2, List.mem_append, List.mem_singleton] at h
    rcases h with h | h
    ·obtain ⟨j, hj, r⟩ := mem_densOf h
     exact ⟨j, by omega, r⟩
    ·exact ⟨n, by omega, h, by rw [h]; exact e1⟩
theorem densOf_mem {D : Nat → ByteArray} {j : Nat} (h1 : D j ≠ ⟨#[1]⟩) : ∀ {n : Nat}, j < n → D j ∈ densOf D n
 | 0, h => by omega
 | n + 1, h => by
  unfold densOf
  by_cases e : j = n
  ·subst e
   rw [if_neg h1]
   by_cases e2 : isIn (densOf D j) (D j) = true
   ·rw [if_pos e2]; exact isIn_iff.1 e2
   ·rw [if_neg e2]; simp
  ·have ih := densOf_mem h1 (n := n) (by omega)
   split
   ·exact ih
   ·split
    ·exact ih
    ·exact List.mem_append_left _ ih
theorem densOf_nodup (D : Nat → ByteArray) : ∀ n, (densOf D n).Nodup
 | 0 => by simp [densOf]
 | n + 1 => by
  have ih := densOf_nodup D n
  unfold densOf
  split
  ·exact ih
  ·split
   ·exact ih
   ·rename_i h
    rw [List.nodup_append]
    refine ⟨ih, by simp, fun x hx y hy => ?_⟩
    rw [List.mem_singleton] at hy
    subst hy
    intro e
    subst e
    exact h (isIn_iff.2 hx)
theorem pex_out {d : ByteArray} : ∀ {L : List ByteArray}, d ∉ L → pex d L = Dt.nprod (L.map natOf)
 | [], _ => rfl
 | x :: l, h => by
  show (if x = d then pex d l else natOf x * pex d l) = natOf x * Dt.nprod (l.map natOf)
  rw [if_neg (fun e => h (by simp [e])), pex_out (fun e => h (by simp [e]))]
theorem pex_in {d : ByteArray} : ∀ {L : List ByteArray}, L.Nodup → d ∈ L → Dt.nprod (L.map natOf) = pex d L * natOf d
 | [], _, h => by simp at h
 | x :: l, hn, h => by
  rw [List.nodup_cons] at hn
  show natOf x * Dt.nprod (l.map natOf) = (if x = d then pex d l else natOf x * pex d l) * natOf d
  by_cases e : x = d
  ·subst e
   rw [if_pos rfl, pex_out hn.1, Nat.mul_comm]
  ·rw [if_neg e]
   rw [List.mem_cons] at h
   rcases h with h | h
   ·exact absurd h.symm e
   ·rw [pex_in hn.2 h, Nat.mul_assoc]
theorem clr_whole (q : Nat → Rat) (n : Nat) {j : Nat} (hj : j < n) : ((clr q (densOf (fun j => strOf (q j).den) n) n j : Int) : Rat) = ((Dt.nprod ((densOf (fun j => strOf (q j).den) n).map natOf) : Nat) : Rat) * q j := by
 obtain ⟨L, hL⟩ : ∃ L, L = densOf (fun j => strOf (q j).den) n := ⟨_, rfl⟩
 have key : Dt.nprod (L.map natOf) = pex (strOf (q j).den) L * (q j).den := by
  by_cases e : strOf (q j).den = ⟨#[1]⟩
  ·have h1 : (q j).den = 1 := by rw [← natOf_strOf (q j).den, e, natOf_one]
   have hn : strOf (q j).den ∉ L := by
    intro h
    rw [hL] at h
    obtain ⟨-, -, -, h⟩ := mem_densOf h
    exact h e
   rw [pex_out hn, h1, Nat.mul_one]
  ·have := pex_in (d := strOf (q j).den) (L := L) (by rw [hL]; exact densOf_nodup _ _) (by rw [hL]; exact densOf_mem (D := fun j => strOf (q j).den) e hj)
   rw [this, natOf_strOf]
 rw [← hL]
 unfold clr
 rw [if_pos hj, key, Rat.intCast_mul]
 have e : ((q j).num : Rat) = q j * ((q j).den : Rat) := by
  have h : ((q j).num : Rat) / ((q j).den : Rat) = q j := by rw [← Rat.mkRat_eq_div, Rat.mkRat_self]
  have hp : ((q j).den : Rat) ≠ 0 := by
   intro e
   have : (q j).den = 0 := by exact_mod_cast e
   exact (q j).den_nz this
  grind
 rw [e]
 have e1 : (((pex (strOf (q j).den) L * (q j).den : Nat)) : Rat) = ((pex (strOf (q j).den) L : Nat) : Rat) * ((q j).den : Rat) := by exact Rat.natCast_mul _ _
 have e2 : (((pex (strOf (q j).den) L : Nat) : Int) : Rat) = ((pex (strOf (q j).den) L : Nat) : Rat) := rfl
 rw [e1, e2]
 grind
theorem prod_last (c : Nat → Rat) : ∀ n, Dt.prod (n + 1) c = Dt.prod n c * c n
 | 0 => by simp [Dt.prod]
 | n + 1 => by
  show c 0 * Dt.prod (n + 1) (fun i => c (i + 1)) = c 0 * Dt.prod n (fun i => c (i + 1)) * c (n + 1)
  rw [prod_last (fun i => c (i + 1)) n]
  grind
theorem dall_prod (q : Nat → Nat → Rat) (n : Nat) : ∀ k, ((Dt.nprod ((dall q n k).map natOf) : Nat) : Rat) = Dt.prod k (fun i => ((Dt.nprod ((densOf (fun j => strOf (q i j).den) n).map natOf) : Nat) : Rat))
 | 0 => by simp [dall, Dt.prod, Dt.nprod]
 | k + 1 => by
  rw [prod_last, ← dall_prod q n k, show dall q n (k + 1) = dall q n k ++ densOf (fun j => strOf (q k j).den) n from rfl]
  rw [List.map_append, Dt.nprod_append]
  exact Rat.natCast_mul _ _
theorem det_over (q : Nat → Nat → Rat) (n : Nat) (hp : 0 < Dt.nprod ((dall q n n).map natOf)) : mkRat (Dt.det n (fun i => clr (q i) (densOf (fun j => strOf (q i j).den) n) n)) (Dt.nprod ((dall q n n).map natOf)) = Dt.det n q := by
 refine Dt.mkRat_eq hp ?_
 rw [dall_prod]
 exact Dt.det_whole fun i j hi hj => clr_whole (q i) n hj
theorem mem_dall {q : Nat → Nat → Rat} {n : Nat} {x : ByteArray} : ∀ {k : Nat}, x ∈ dall q n k → ∃ i j, i < k ∧ j < n ∧ x = strOf (q i j).den
 | 0, h => by simp [dall] at h
 | k + 1, h => by
  unfold dall at h
  rw [List.mem_append] at h
  rcases h with h | h
  ·obtain ⟨i, j, hi, hj, e⟩ := mem_dall h
   exact ⟨i, j, by omega, hj, e⟩
  ·obtain ⟨j, hj, e, -⟩ := mem_densOf h
   exact ⟨k, j, by omega, hj, e⟩
theorem nprod_lt {k : Nat} : ∀ {L : List ByteArray}, (∀ x ∈ L, x.size ≤ k) → Dt.nprod (L.map natOf) < 256 ^ (k * L.length + 1)
 | [], _ => by show 1 < 256 ^ (k * 0 + 1); simp
 | x :: l, h => by
  have ih := nprod_lt (L := l) (fun y hy => h y (by simp [hy]))
  have hx : natOf x < 256 ^ k := Nat.lt_of_lt_of_le (natOf_lt x) (Nat.pow_le_pow_right (by omega) (h x (by simp)))
  show natOf x * Dt.nprod (l.map natOf) < 256 ^ (k * (l.length + 1) + 1)
  rw [show k * (l.length + 1) + 1 = k + (k * l.length + 1) by rw [Nat.mul_succ]; omega, Nat.pow_add]
  exact Nat.mul_lt_mul'' hx ih
theorem vcheck_any (a : Option Addr) (n cap : Nat) (N : Nat → Bool) (S D : Nat → ByteArray) (w : World) (hT : Tab w) (hn : n ≤ 1000000) (h : RdQ w a n N S D) :
  Calls Tryz.prog 88 #[.slice a n cap] w (Re w (.int .i64 (firstE (fun j => chkq (N j) (S j) (D j)) n : Nat))) :=
 vcheck_walk a n cap N S D _ w hn h (fun j w1 b => rchk_any (N j) (S j) (D j) w1 (hT.below b))
def f2 {α : Type} (x y : α) (j : Nat) : α := if j = 0 then x else y
def f4 {α : Type} (x y z u : α) (j : Nat) : α := if j = 0 then x else if j = 1 then y else if j = 2 then z else u
theorem rdq_2 {w : World} {B : Nat} {t : TypeId} {n0 n1 : Bool} {s0 d0 s1 d1 : ByteArray} (h : Cel w B [.bool n0, .string s0, .string d0, .bool n1, .string s1, .string d1] t) : RdQ w (some ⟨B, 0, none⟩) 2 (f2 n0 n1) (f2 s0 s1) (f2 d0 d1) := by
 intro j hj
 refine ⟨B, 0, rfl, ?_⟩
 match j, hj with
 | 0, _ => exact ⟨h.cell 0, h.cell 1, h.cell 2⟩
 | 1, _ => exact ⟨h.cell 3, h.cell 4, h.cell 5⟩
theorem rdq_4 {w : World} {B : Nat} {t : TypeId} {n0 n1 n2 n3 : Bool} {s0 d0 s1 d1 s2 d2 s3 d3 : ByteArray} (h : Cel w B [.bool n0, .string s0, .string d0, .bool n1, .string s1, .string d1, .bool n2, .string s2, .string d2, .bool n3, .string s3, .string d3] t) : RdQ w (some ⟨B, 0, none⟩) 4 (f4 n0 n1 n2 n3) (f4 s0 s1 s2 s3) (f4 d0 d1 d2 d3) := by
 intro j hj
 refine ⟨B, 0, rfl, ?_⟩
 match j, hj with
 | 0, _ => exact ⟨h.cell 0, h.cell 1, h.cell 2⟩
 | 1, _ => exact ⟨h.cell 3, h.cell 4, h.cell 5⟩
 | 2, _ => exact ⟨h.cell 6, h.cell 7, h.cell 8⟩
 | 3, _ => exact ⟨h.cell 9, h.cell 10, h.cell 11⟩
def two (a b : Nat) : Nat := if a = 0 then b else a
theorem two_zero {a b : Nat} : two a b = 0 ↔ a = 0 ∧ b = 0 := by
 unfold two
 by_cases h : a = 0
 ·rw [if_pos h]; exact ⟨fun e => ⟨h, e⟩, fun e => e.2⟩
 ·rw [if_neg h]; exact ⟨fun e => absurd e h, fun e => absurd e.1 h⟩
theorem vcheck2 (B : Nat) (n0 n1 : Bool) (s0 d0 s1 d1 : ByteArray) (w : World) (hT : Tab w) (h : Cel w B [.bool n0, .string s0, .string d0, .bool n1, .string s1, .string d1] 26) :
  Calls Tryz.prog 88 #[.slice (some ⟨B, 0, none⟩) 2 2] w (Re w (.int .i64 (twoq n0 s0 d0 n1 s1 d1 : Nat))) := by
 have := vcheck_any (some ⟨B, 0, none⟩) 2 2 _ _ _ w hT (by omega) (rdq_2 h)
 exact this
theorem vcheck4 (B : Nat) (n0 n1 n2 n3 : Bool) (s0 d0 s1 d1 s2 d2 s3 d3 : ByteArray) (w : World) (hT : Tab w) (h : Cel w B [.bool n0, .string s0, .string d0, .bool n1, .string s1, .string d1, .bool n2, .string s2, .string d2, .bool n3, .string s3, .string d3] 26) :
  Calls Tryz.prog 88 #[.slice (some ⟨B, 0, none⟩) 4 4] w (Re w (.int .i64 (two (twoq n0 s0 d0 n1 s1 d1) (twoq n2 s2 d2 n3 s3 d3) : Nat))) := by
 have := vcheck_any (some ⟨B, 0, none⟩) 4 4 _ _ _ w hT (by omega) (rdq_4 h)
 have e : firstE (fun j => chkq (f4 n0 n1 n2 n3 j) (f4 s0 s1 s2 s3 j) (f4 d0 d1 d2 d3 j)) 4 = two (twoq n0 s0 d0 n1 s1 d1) (twoq n2 s2 d2 n3 s3 d3) := by
  show (if (if (if (if 0 = 0 then chkq n0 s0 d0 else 0) = 0 then chkq n1 s1 d1 else (if 0 = 0 then chkq n0 s0 d0 else 0)) = 0 then chkq n2 s2 d2 else (if (if 0 = 0 then chkq n0 s0 d0 else 0) = 0 then chkq n1 s1 d1 else (if 0 = 0 then chkq n0 s0 d0 else 0))) = 0 then chkq n3 s3 d3 else (if (if (if 0 = 0 then chkq n0 s0 d0 else 0) = 0 then chkq n1 s1 d1 else (if 0 = 0 then chkq n0 s0 d0 else 0)) = 0 then chkq n2 s2 d2 else (if (if 0 = 0 then chkq n0 s0 d0 else 0) = 0 then chkq n1 s1 d1 else (if 0 = 0 then chkq n0 s0 d0 else 0)))) = _
  simp only [if_true]
  unfold two twoq
  generalize chkq n0 s0 d0 = a
  generalize chkq n1 s1 d1 = b
  generalize chkq n2 s2 d2 = c
  generalize chkq n3 s3 d3 = d
  by_cases ha : a = 0
  ·simp only [if_pos ha]
   by_cases hb : b = 0
   ·simp only [if_pos hb]
   ·simp only [if_neg hb]
  ·simp only [if_neg ha]
 rw [e] at this
 exact this
theorem vCheck_any (n0 n1 : Bool) (s0 d0 s1 d1 : ByteArray) (w : World) (hT : Tab w) :
  Calls Tryz.prog 84 #[.agg #[.bool n0, .string s0, .string d0, .bool n1, .string s1, .string d1]] w (Re w (.int .i64 (twoq n0 s0 d0 n1 s1 d1 : Nat))) := by
 replace hT := shut hT
 obtain ⟨E, hE⟩ : ∃ E, E = twoq n0 s0 d0 n1 s1 d1 := ⟨_, rfl⟩
 have H : Hid (∀ (B : Nat) (w1 : World), Below w.heap.size w w1 → Cel w1 B [.bool n0, .string s0, .string d0, .bool n1, .string s1, .string d1] 26 → Calls Tryz.prog 88 #[.slice (some ⟨B, 0, none⟩) 2 2] w1 (Re w1 (.int .i64 (E : Nat)))) := fun B w1 b k => by rw [hE]; exact vcheck2 B n0 n1 s0 d0 s1 d1 w1 (hT.out.below b) k
 rw [← hE]
 clear hE
 go_enter Tryz.func84, Tryz.ntmps84
 go_wp2_with fail
 obtain ⟨w1, hw, ka, kl, b1⟩ := mk2 w [.bool n0, .string s0, .string d0, .bool n1, .string s1, .string d1] [.bool n0, .string s0, .string d0, .bool n1, .string s1, .string d1] 28 26
 rw [← hw]
 clear hw
 go_fit (H.out _ _ b1 kl)
 rintro e w2 ⟨rfl, b2⟩
 go_wp2
 go_ret
 exact ⟨rfl, Below.after b1 b2⟩
theorem pair_any (n0 n1 : Bool) (s0 d0 s1 d1 : ByteArray) (w : World) :
  Calls Tryz.prog 90 #[.agg #[.bool n0, .string s0, .string d0, .bool n1, .string s1, .string d1]] w fun e w' => ∃ g, e = .returned (.slice (some ⟨g, 0, none⟩) 2 2) ∧ Cel w' g [.bool n0, .string s0, .string d0, .bool n1, .string s1, .string d1] 26 ∧ w.heap.size ≤ g ∧ Below w.heap.size w w' := by
 go_enter Tryz.func90, Tryz.ntmps90
 go_wp2
 go_ret
 obtain ⟨w1, hw, ka, kl, b1⟩ := mk2 w [.bool n0, .string s0, .string d0, .bool n1, .string s1, .string d1] [.bool n0, .string s0, .string d0, .bool n1, .string s1, .string d1] 28 26
 rw [← hw]
 exact ⟨_, rfl, kl, by omega, b1⟩
theorem load6 {w : World} {g : Nat} {x y z x' y' z' : Value} (h : Cel w g [x, y, z, x', y', z'] 28) : (loadVar 28 ⟨g, 0, none⟩).run Tryz.prog w = .ok (.agg #[x, y, z, x', y', z']) w :=
 run_loadVar_row w g 28 28 #[x, y, z, x', y', z'] (0, 0) _ h Tryz.underlying28 rfl (by kernel_rfl)
theorem post_p {fn : Func} {p : Tmp} {R : Ending → World → Prop} {a : Act} {w : World} {g : Nat} {x y z x' y' z' : Value} (h : fn.results = #[.cell p 28]) (hp : a.tmps.getD p undef = .pointer (some ⟨g, 0, none⟩)) (hd : a.defers = [])
  (hc : Cel w g [x, y, z, x', y', z'] 28) (hR : R (.returned (.agg #[x, y, z, x', y', z'])) w) : bodyPost Tryz.prog fn R .ret a w := by
 refine ⟨hd, .agg #[x, y, z, x', y', z'], ?_, hR⟩
 exact results_cell_row (P := Tryz.prog) h _ w g 28 #[x, y, z, x', y', z'] (0, 0) _ hp hc Tryz.underlying28 rfl (by kernel_rfl)
theorem post_p1 {fn : Func} {p u : Tmp} {R : Ending → World → Prop} {a : Act} {w : World} {g : Nat} {x y z x' y' z' v : Value} (h : fn.results = #[.cell p 28, .tmp u]) (hp : a.tmps.getD p undef = .pointer (some ⟨g, 0, none⟩)) (hu : a.tmps.getD u undef = v) (hd : a.defers = [])
  (hc : Cel w g [x, y, z, x', y', z'] 28) (hR : R (.returned (.tuple #[.agg #[x, y, z, x', y', z'], v])) w) : bodyPost Tryz.prog fn R .ret a w := by
 refine ⟨hd, .tuple #[.agg #[x, y, z, x', y', z'], v], ?_, hR⟩
 rw [results_cell_tmp h, hp, hu]
 simp [asAddr, load6 hc, Result.andThen]
theorem cel6_0 {w : World} {g : Nat} {x y z x' y' z' : Value} {t : TypeId} (h : Cel w g [x, y, z, x', y', z'] t) : w.cell? ⟨g, 0, none⟩ = some x := h.cell 0
theorem cel6_1 {w : World} {g : Nat} {x y z x' y' z' : Value} {t : TypeId} (h : Cel w g [x, y, z, x', y', z'] t) : w.cell? ⟨g, 1, none⟩ = some y := h.cell 1
theorem cel6_2 {w : World} {g : Nat} {x y z x' y' z' : Value} {t : TypeId} (h : Cel w g [x, y, z, x', y', z'] t) : w.cell? ⟨g, 2, none⟩ = some z := h.cell 2
theorem cel6_3 {w : World} {g : Nat} {x y z x' y' z' : Value} {t : TypeId} (h : Cel w g [x, y, z, x', y', z'] t) : w.cell? ⟨g, 3, none⟩ = some x' := h.cell 3
theorem cel6_4 {w : World} {g : Nat} {x y z x' y' z' : Value} {t : TypeId} (h : Cel w g [x, y, z, x', y', z'] t) : w.cell? ⟨g, 4, none⟩ = some y' := h.cell 4
theorem cel6_5 {w : World} {g : Nat} {x y z x' y' z' : Value} {t : TypeId} (h : Cel w g [x, y, z, x', y', z'] t) : w.cell? ⟨g, 5, none⟩ = some z' := h.cell 5
theorem Cel.set6 {w : World} {g : Nat} {x y z x' y' z' : Value} {t : TypeId} (h : Cel w g [x, y, z, x', y', z'] t) (a b c d e f : Value) : Cel ((((((w.setCell ⟨g, 0, none⟩ a).setCell ⟨g, 1, none⟩ b).setCell ⟨g, 2, none⟩ c).setCell ⟨g, 3, none⟩ d).setCell ⟨g, 4, none⟩ e).setCell ⟨g, 5, none⟩ f) g [a, b, c, d, e, f] t :=
 (((((h.set 0 a).set 1 b).set 2 c).set 3 d).set 4 e).set 5 f
theorem bset6 {N : Nat} {w wn : World} {g : Nat} (b : Below N w wn) (h : N ≤ g) (x0 x1 x2 x3 x4 x5 : Value) : Below N w ((((((wn.setCell ⟨g, 0, none⟩ x0).setCell ⟨g, 1, none⟩ x1).setCell ⟨g, 2, none⟩ x2).setCell ⟨g, 3, none⟩ x3).setCell ⟨g, 4, none⟩ x4).setCell ⟨g, 5, none⟩ x5) :=
 bset (bset (bset (bset (bset (bset b h 0 x0) h 1 x1) h 2 x2) h 3 x3) h 4 x4) h 5 x5
theorem each_add_ok (n0 n1 n2 n3 xN yN : Bool) (s0 d0 s1 d1 s2 d2 s3 d3 xS xD yS yD : ByteArray) (w : World)
  (H1 : Hid (∀ w1, Below w.heap.size w w1 → Calls Tryz.prog 94 #[.agg #[.bool n0, .string s0, .string d0], .agg #[.bool n2, .string s2, .string d2]] w1 (Re w1 (.tuple #[.agg #[.bool xN, .string xS, .string xD], .int .i64 0]))))
  (H2 : Hid (∀ w1, Below w.heap.size w w1 → Calls Tryz.prog 94 #[.agg #[.bool n1, .string s1, .string d1], .agg #[.bool n3, .string s3, .string d3]] w1 (Re w1 (.tuple #[.agg #[.bool yN, .string yS, .string yD], .int .i64 0])))) :
  Calls Tryz.prog 87 #[.func (.func 94) #[] #[], .agg #[.bool n0, .string s0, .string d0, .bool n1, .string s1, .string d1], .agg #[.bool n2, .string s2, .string d2, .bool n3, .string s3, .string d3]] w (Re w (.tuple #[.agg #[.bool xN, .string xS, .string xD, .bool yN, .string yS, .string yD], .int .i64 0])) := by
 go_enter Tryz.func87, Tryz.ntmps87
 go_wp2_with fail
 go_fit (H1.out _ (ba (ba (ba (Below.refl _ _) _) _) _))
 rintro e w1 ⟨rfl, b1⟩
 obtain ⟨ka, kb, kr, b1⟩ := al3 b1
 have bb := b1
 clear b1
 obtain ⟨ca_0, ca_1, ca_2, ca_3, ca_4, ca_5⟩ := xk6 ka
 obtain ⟨cb_0, cb_1, cb_2, cb_3, cb_4, cb_5⟩ := xk6 kb
 obtain ⟨w2, hw, kx, b1⟩ := mk1 w1 [.bool xN, .string xS, .string xD] 26
 replace ka := ka.below b1
 replace kb := kb.below b1
 replace kr := kr.below b1
 replace bb := Below.after bb b1
 clear b1
 clear ca_0 ca_1 ca_2 ca_3 ca_4 ca_5
 clear cb_0 cb_1 cb_2 cb_3 cb_4 cb_5
 obtain ⟨ca_0, ca_1, ca_2, ca_3, ca_4, ca_5⟩ := xk6 ka
 obtain ⟨cb_0, cb_1, cb_2, cb_3, cb_4, cb_5⟩ := xk6 kb
 rw [hw] at ca_0 cb_0 ca_1 cb_1 ca_2 cb_2 ca_3 cb_3 ca_4 cb_4 ca_5 cb_5
 go_wp2_with fail
 rw [← hw]
 clear hw  ca_0 ca_1 ca_2 ca_3 ca_4 ca_5  cb_0 cb_1 cb_2 cb_3 cb_4 cb_5
 go_fit (H2.out _ bb)
 rintro e w3 ⟨rfl, b1⟩
 obtain ⟨w4, hw, ky, b2⟩ := mk1 w3 [.bool yN, .string yS, .string yD] 26
 replace b1 := Below.after b1 b2
 replace kx := kx.below b1
 replace kr := kr.below b1
 replace bb := Below.after bb b1
 obtain ⟨x0, x1, x2⟩ := xk3 kx
 have f0 := Cel.frozen kr 0
 have f1 := Cel.frozen kr 1
 have f2 := Cel.frozen kr 2
 have f3 := Cel.frozen kr 3
 have f4 := Cel.frozen kr 4
 have f5 := Cel.frozen kr 5
 obtain ⟨r0, r1, r2, r3, r4, r5⟩ := xk6 kr
 rw [hw] at x0 x1 x2 f0 f1 f2 f3 f4 f5 r0 r1 r2 r3 r4 r5
 go_wp2
 rw [← hw]
 exact post_p1 (p := 6) (u := 7) (v := .int .i64 0) (by kernel_rfl) rfl rfl rfl (kr.set6 _ _ _ _ _ _) ⟨rfl, bset6 bb (by omega) _ _ _ _ _ _⟩
theorem each_sub_ok (n0 n1 n2 n3 xN yN : Bool) (s0 d0 s1 d1 s2 d2 s3 d3 xS xD yS yD : ByteArray) (w : World)
  (H1 : Hid (∀ w1, Below w.heap.size w w1 → Calls Tryz.prog 86 #[.agg #[.bool n0, .string s0, .string d0], .agg #[.bool n2, .string s2, .string d2]] w1 (Re w1 (.tuple #[.agg #[.bool xN, .string xS, .string xD], .int .i64 0]))))
  (H2 : Hid (∀ w1, Below w.heap.size w w1 → Calls Tryz.prog 86 #[.agg #[.bool n1, .string s1, .string d1], .agg #[.bool n3, .string s3, .string d3]] w1 (Re w1 (.tuple #[.agg #[.bool yN, .string yS, .string yD], .int .i64 0])))) :
  Calls Tryz.prog 87 #[.func (.func 86) #[] #[], .agg #[.bool n0, .string s0, .string d0, .bool n1, .string s1, .string d1], .agg #[.bool n2, .string s2, .string d2, .bool n3, .string s3, .string d3]] w (Re w (.tuple #[.agg #[.bool xN, .string xS, .string xD, .bool yN, .string yS, .string yD], .int .i64 0])) := by
 go_enter Tryz.func87, Tryz.ntmps87
 go_wp2_with fail
 go_fit (H1.out _ (ba (ba (ba (Below.refl _ _) _) _) _))
 rintro e w1 ⟨rfl, b1⟩
 obtain ⟨ka, kb, kr, b1⟩ := al3 b1
 have bb := b1
 clear b1
 obtain ⟨ca_0, ca_1, ca_2, ca_3, ca_4, ca_5⟩ := xk6 ka
 obtain ⟨cb_0, cb_1, cb_2, cb_3, cb_4, cb_5⟩ := xk6 kb
 obtain ⟨w2, hw, kx, b1⟩ := mk1 w1 [.bool xN, .string xS, .string xD] 26
 replace ka := ka.below b1
 replace kb := kb.below b1
 replace kr := kr.below b1
 replace bb := Below.after bb b1
 clear b1
 clear ca_0 ca_1 ca_2 ca_3 ca_4 ca_5
 clear cb_0 cb_1 cb_2 cb_3 cb_4 cb_5
 obtain ⟨ca_0, ca_1, ca_2, ca_3, ca_4, ca_5⟩ := xk6 ka
 obtain ⟨cb_0, cb_1, cb_2, cb_3, cb_4, cb_5⟩ := xk6 kb
 rw [hw] at ca_0 cb_0 ca_1 cb_1 ca_2 cb_2 ca_3 cb_3 ca_4 cb_4 ca_5 cb_5
 go_wp2_with fail
 rw [← hw]
 clear hw  ca_0 ca_1 ca_2 ca_3 ca_4 ca_5  cb_0 cb_1 cb_2 cb_3 cb_4 cb_5
 go_fit (H2.out _ bb)
 rintro e w3 ⟨rfl, b1⟩
 obtain ⟨w4, hw, ky, b2⟩ := mk1 w3 [.bool yN, .string yS, .string yD] 26
 replace b1 := Below.after b1 b2
 replace kx := kx.below b1
 replace kr := kr.below b1
 replace bb := Below.after bb b1
 obtain ⟨x0, x1, x2⟩ := xk3 kx
 have f0 := Cel.frozen kr 0
 have f1 := Cel.frozen kr 1
 have f2 := Cel.frozen kr 2
 have f3 := Cel.frozen kr 3
 have f4 := Cel.frozen kr 4
 have f5 := Cel.frozen kr 5
 obtain ⟨r0, r1, r2, r3, r4, r5⟩ := xk6 kr
 rw [hw] at x0 x1 x2 f0 f1 f2 f3 f4 f5 r0 r1 r2 r3 r4 r5
 go_wp2
 rw [← hw]
 exact post_p1 (p := 6) (u := 7) (v := .int .i64 0) (by kernel_rfl) rfl rfl rfl (kr.set6 _ _ _ _ _ _) ⟨rfl, bset6 bb (by omega) _ _ _ _ _ _⟩
theorem each_mul_ok (n0 n1 n2 n3 xN yN : Bool) (s0 d0 s1 d1 s2 d2 s3 d3 xS xD yS yD : ByteArray) (w : World)
  (H1 : Hid (∀ w1, Below w.heap.size w w1 → Calls Tryz.prog 93 #[.agg #[.bool n0, .string s0, .string d0], .agg #[.bool n2, .string s2, .string d2]] w1 (Re w1 (.tuple #[.agg #[.bool xN, .string xS, .string xD], .int .i64 0]))))
  (H2 : Hid (∀ w1, Below w.heap.size w w1 → Calls Tryz.prog 93 #[.agg #[.bool n1, .string s1, .string d1], .agg #[.bool n3, .string s3, .string d3]] w1 (Re w1 (.tuple #[.agg #[.bool yN, .string yS, .string yD], .int .i64 0])))) :
  Calls Tryz.prog 87 #[.func (.func 93) #[] #[], .agg #[.bool n0, .string s0, .string d0, .bool n1, .string s1, .string d1], .agg #[.bool n2, .string s2, .string d2, .bool n3, .string s3, .string d3]] w (Re w (.tuple #[.agg #[.bool xN, .string xS, .string xD, .bool yN, .string yS, .string yD], .int .i64 0])) := by
 go_enter Tryz.func87, Tryz.ntmps87
 go_wp2_with fail
 go_fit (H1.out _ (ba (ba (ba (Below.refl _ _) _) _) _))
 rintro e w1 ⟨rfl, b1⟩
 obtain ⟨ka, kb, kr, b1⟩ := al3 b1
 have bb := b1
 clear b1
 obtain ⟨ca_0, ca_1, ca_2, ca_3, ca_4, ca_5⟩ := xk6 ka
 obtain ⟨cb_0, cb_1, cb_2, cb_3, cb_4, cb_5⟩ := xk6 kb
 obtain ⟨w2, hw, kx, b1⟩ := mk1 w1 [.bool xN, .string xS, .string xD] 26
 replace ka := ka.below b1
 replace kb := kb.below b1
 replace kr := kr.below b1
 replace bb := Below.after bb b1
 clear b1
 clear ca_0 ca_1 ca_2 ca_3 ca_4 ca_5
 clear cb_0 cb_1 cb_2 cb_3 cb_4 cb_5
 obtain ⟨ca_0, ca_1, ca_2, ca_3, ca_4, ca_5⟩ := xk6 ka
 obtain ⟨cb_0, cb_1, cb_2, cb_3, cb_4, cb_5⟩ := xk6 kb
 rw [hw] at ca_0 cb_0 ca_1 cb_1 ca_2 cb_2 ca_3 cb_3 ca_4 cb_4 ca_5 cb_5
 go_wp2_with fail
 rw [← hw]
 clear hw  ca_0 ca_1 ca_2 ca_3 ca_4 ca_5  cb_0 cb_1 cb_2 cb_3 cb_4 cb_5
 go_fit (H2.out _ bb)
 rintro e w3 ⟨rfl, b1⟩
 obtain ⟨w4, hw, ky, b2⟩ := mk1 w3 [.bool yN, .string yS, .string yD] 26
 replace b1 := Below.after b1 b2
 replace kx := kx.below b1
 replace kr := kr.below b1
 replace bb := Below.after bb b1
 obtain ⟨x0, x1, x2⟩ := xk3 kx
 have f0 := Cel.frozen kr 0
 have f1 := Cel.frozen kr 1
 have f2 := Cel.frozen kr 2
 have f3 := Cel.frozen kr 3
 have f4 := Cel.frozen kr 4
 have f5 := Cel.frozen kr 5
 obtain ⟨r0, r1, r2, r3, r4, r5⟩ := xk6 kr
 rw [hw] at x0 x1 x2 f0 f1 f2 f3 f4 f5 r0 r1 r2 r3 r4 r5
 go_wp2
 rw [← hw]
 exact post_p1 (p := 6) (u := 7) (v := .int .i64 0) (by kernel_rfl) rfl rfl rfl (kr.set6 _ _ _ _ _ _) ⟨rfl, bset6 bb (by omega) _ _ _ _ _ _⟩
end Go.Proofs.YtmojdkjpcjfkeaaGreatDoor
