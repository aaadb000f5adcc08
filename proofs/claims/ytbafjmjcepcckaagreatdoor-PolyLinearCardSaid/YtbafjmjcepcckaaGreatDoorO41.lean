/-
  Package cons: Ratio2, walked.
  Package poly: Eval, in its one form.
  Package poly: samples in their one form.
  Package poly: sampleOf, Integral, Square in their one form.
  Package poly: sampleOf, Integral, Square, Loads of any numbers.
  Package poly: Loads in its one form; gussetref07: Three.
  gussetlaw07: PolyValues holds.
  gussetlaw07: PolyParts, walked.
  What the laws of gussetlaw07 over a triangle begin with: few, Three; how long integrals and loads are.
  gussetlaw07: live.
  gussetlaw07: live is true.
-/
import Derived.Deep.CutBlock
import Derived.Test.YtbafjmjcepcckaaGreatDoorO40
import Derived.Test.YtbafjmjcepcckaaGreatDoorO45
set_option maxRecDepth 100000
set_option maxHeartbeats 16000000
namespace Go.Proofs.YtbafjmjcepcckaaGreatDoor
open Go.RowKit
def t3 {α : Type} (k : Nat) (x y z : α) : α := match k with
 | 0 => x
 | 1 => y
 | _ => z
abbrev fq6 (r : Nat → Rat) : Value := .agg #[.bool (nfZ (r 0).num), .string (sfZ (r 0).num), .string (strOf (r 0).den), .bool (nfZ (r 1).num), .string (sfZ (r 1).num), .string (strOf (r 1).den), .bool (nfZ (r 2).num), .string (sfZ (r 2).num), .string (strOf (r 2).den), .bool (nfZ (r 3).num), .string (sfZ (r 3).num), .string (strOf (r 3).den), .bool (nfZ (r 4).num), .string (sfZ (r 4).num), .string (strOf (r 4).den), .bool (nfZ (r 5).num), .string (sfZ (r 5).num), .string (strOf (r 5).den)]
def ev (r : Nat → Rat) (x y : Rat) : Rat := (r 0 + r 1 * x + r 2 * y) + (r 3 * x + r 4 * y) * x + r 5 * y * y
def zu (r : Nat → Rat) (n q : Nat) : Int := (r q).num * ((um r n / (r q).den : Nat) : Int)
theorem zu_cast (r : Nat → Rat) {n q : Nat} (h : q < n) : ((zu r n q : Int) : Rat) = ((um r n : Nat) : Rat) * r q := um_num r h
theorem zu_bd {r : Nat → Rat} {K n q : Nat} (hb : ∀ k, k < n → Bq (r k) K) (h : q < n) : Bd (zu r n q) (K + (K * n + 1)) := (hb q h).1.mul ((um_bd hb).nat (Nat.div_le_self _ _))
theorem upn (r : Nat → Rat) (n : Nat) : (0 : Int) < ((um r n : Nat) : Int) := by have := um_pos r n; omega
theorem tw3_prod (a b c : Int) : zprod (tw3 a b c) 3 = (a * (b * c)).natAbs := by
 rw [Int.natAbs_mul, Int.natAbs_mul]
 show a.natAbs * (b.natAbs * (c.natAbs * 1)) = _
 rw [Nat.mul_one]
theorem chk6 {r : Nat → Rat} {K : Nat} (hK : K ≤ 100) (hb : ∀ k, k < 6 → Bq (r k) K) : firstE (fun k => chkq (nfZ (r k).num) (sfZ (r k).num) (strOf (r k).den)) 6 = 0 := by
 have h : ∀ k, k < 6 → chkq (nfZ (r k).num) (sfZ (r k).num) (strOf (r k).den) = 0 := fun k hk => chk_can8 (r k) (by omega) (hb k hk)
 have : ∀ n, n ≤ 6 → firstE (fun k => chkq (nfZ (r k).num) (sfZ (r k).num) (strOf (r k).den)) n = 0 := fun n => by
  induction n with
  | zero => intro _; rfl
  | succ n ih => intro hn; unfold firstE; rw [if_pos (ih (by omega))]; exact h n (by omega)
 exact this 6 (Nat.le_refl _)
theorem sz2 {x : Rat} {K : Nat} (hK : K ≤ 100) (b : Bq x K) : (sfZ x.num).size ≤ 100 ∧ (strOf x.den).size ≤ 100 := ⟨Nat.le_trans (bd_sf b.1) hK, by have := b.2.size; simp at this; omega⟩
theorem at_bd {c0 c1 c2 c3 c4 c5 X Y T : Int} {A B : Nat} (h0 : Bd c0 A) (h1 : Bd c1 A) (h2 : Bd c2 A) (h3 : Bd c3 A) (h4 : Bd c4 A) (h5 : Bd c5 A) (hX : Bd X B) (hY : Bd Y B) (hT : Bd T B) : Bd ((c0 * T + c1 * X + c2 * Y) * T + (c3 * X + c4 * Y) * X + c5 * Y * Y) (A + B + B + 6) := by
 have t0 := (((h0.mul hT).add (h1.mul hX)).add ((h2.mul hY).mono (show A + B ≤ A + B + 1 by omega))).mul hT
 have t1 := ((h3.mul hX).add (h4.mul hY)).mul hX
 have t2 := (h5.mul hY).mul hY
 exact (((t0.mono (show A + B + 1 + 1 + B ≤ A + B + B + 4 by omega)).add (t1.mono (show A + B + 1 + B ≤ A + B + B + 4 by omega))).add (t2.mono (show A + B + B ≤ A + B + B + 4 + 1 by omega))).mono (by omega)
def six (a b c d e f : Rat) (k : Nat) : Rat := match k with | 0 => a | 1 => b | 2 => c | 3 => d | 4 => e | _ => f
def nx (s : Nat → Rat) (k : Nat) : Rat := (s 0 * (ndW k 0 : Int) + s 1 * (ndW k 1 : Int) + s 2 * (ndW k 2 : Int)) * Rat.divInt 1 2
def ny (s : Nat → Rat) (k : Nat) : Rat := (s 3 * (ndW k 0 : Int) + s 4 * (ndW k 1 : Int) + s 5 * (ndW k 2 : Int)) * Rat.divInt 1 2
def Fn (r s : Nat → Rat) (k : Nat) : Rat := ev r (nx s k) (ny s k)
def lsum (W : Nat → Int) (F : Nat → Rat) : Rat := F 0 * (W 0 : Int) + F 1 * (W 1 : Int) + F 2 * (W 2 : Int) + F 3 * (W 3 : Int) + F 4 * (W 4 : Int) + F 5 * (W 5 : Int)
def rabs (x : Rat) : Rat := mkRat (x.num.natAbs : Int) x.den
theorem half_eq : Rat.divInt 1 2 + Rat.divInt 1 2 = 1 := by
 rw [show Rat.divInt 1 2 = mkRat 1 2 from rfl, Rat.mkRat_eq_div]
 have : (((1 : Int) : Rat)) = 1 := rfl
 have h2 : (((2 : Nat) : Rat)) = 2 := rfl
 rw [this, h2]
 grind
theorem nodeV_cast {Zc Zs : Nat → Int} {u U : Int} {r s : Nat → Rat} (hc : ∀ q, q < 6 → ((Zc q : Int) : Rat) = (u : Rat) * r q) (hs : ∀ q, q < 6 → ((Zs q : Int) : Rat) = (U : Rat) * s q) (k : Nat) : ((nodeV Zc Zs (U + U) k : Int) : Rat) = (u : Rat) * (((U + U : Int) : Rat) * ((U + U : Int) : Rat)) * Fn r s k := by
 have hh := half_eq
 have eX : ((wsum Zs (ndW k) 3 : Int) : Rat) = ((U + U : Int) : Rat) * nx s k := by
  unfold wsum wsum wsum wsum nx
  simp only [Rat.intCast_add, Rat.intCast_mul, hs 0 (by omega), hs 1 (by omega), hs 2 (by omega)]
  generalize Rat.divInt 1 2 = t at *
  simp only [Rat.intCast_zero]
  grind
 have eY : ((wsum (fun q => Zs (3 + q)) (ndW k) 3 : Int) : Rat) = ((U + U : Int) : Rat) * ny s k := by
  unfold wsum wsum wsum wsum ny
  simp only [Rat.intCast_add, Rat.intCast_mul, hs (3 + 0) (by omega), hs (3 + 1) (by omega), hs (3 + 2) (by omega)]
  generalize Rat.divInt 1 2 = t at *
  simp only [Rat.intCast_zero]
  grind
 unfold nodeV Fn ev
 generalize wsum Zs (ndW k) 3 = X at *
 generalize wsum (fun q => Zs (3 + q)) (ndW k) 3 = Y at *
 generalize nx s k = x at *
 generalize ny s k = y at *
 generalize hT : U + U = T at *
 simp only [Rat.intCast_add, Rat.intCast_mul, eX, eY, hc 0 (by omega), hc 1 (by omega), hc 2 (by omega), hc 3 (by omega), hc 4 (by omega), hc 5 (by omega)]
 grind
theorem wsum_cast {V W : Nat → Int} {D : Rat} {F : Nat → Rat} (h : ∀ k, k < 6 → ((V k : Int) : Rat) = D * F k) : ((wsum V W 6 : Int) : Rat) = D * lsum W F := by
 unfold wsum wsum wsum wsum wsum wsum wsum lsum
 simp only [Rat.intCast_add, Rat.intCast_mul, h 0 (by omega), h 1 (by omega), h 2 (by omega), h 3 (by omega), h 4 (by omega), h 5 (by omega), Rat.intCast_zero]
 grind
def qs (F : Nat → Rat) : Rat := F 0 * lsum (sqW 0) F + F 1 * lsum (sqW 1) F + F 2 * lsum (sqW 2) F + F 3 * lsum (sqW 3) F + F 4 * lsum (sqW 4) F + F 5 * lsum (sqW 5) F
theorem qsum_cast {V : Nat → Int} {D : Rat} {F : Nat → Rat} (h : ∀ k, k < 6 → ((V k : Int) : Rat) = D * F k) : ((qsum V 6 : Int) : Rat) = D * D * qs F := by
 unfold qsum qsum qsum qsum qsum qsum qsum qs
 simp only [Rat.intCast_add, Rat.intCast_mul, wsum_cast h, h 0 (by omega), h 1 (by omega), h 2 (by omega), h 3 (by omega), h 4 (by omega), h 5 (by omega), Rat.intCast_zero]
 generalize lsum (sqW 0) F = l0
 generalize lsum (sqW 1) F = l1
 generalize lsum (sqW 2) F = l2
 generalize lsum (sqW 3) F = l3
 generalize lsum (sqW 4) F = l4
 generalize lsum (sqW 5) F = l5
 grind
theorem rabs_eq (x : Rat) : ((x.num.natAbs : Int) : Rat) = ((x.den : Nat) : Rat) * rabs x := by
 unfold rabs
 have hd : ((x.den : Nat) : Rat) ≠ 0 := fun e => by
  have q : ((x.den : Nat) : Rat) = ((0 : Nat) : Rat) := e
  rw [Rat.natCast_inj] at q
  have := x.den_pos
  omega
 rw [Rat.mkRat_eq_div]
 grind
theorem Bd.one {z : Int} (h1 : -255 ≤ z) (h2 : z ≤ 255) : Bd z 1 := by unfold Bd; omega
theorem wsum_bd {V W : Nat → Int} {A : Nat} : ∀ n, (∀ k, k < n → Bd (V k) A) → (∀ k, k < n → Bd (W k) 1) → Bd (wsum V W n) (A + 1 + n)
 | 0, _, _ => Bd.zero _
 | n + 1, h, hw => ((wsum_bd n (fun k hk => h k (by omega)) (fun k hk => hw k (by omega))).add (((h n (by omega)).mul (hw n (by omega))).mono (by omega))).mono (by omega)
def Smp (r s : Nat → Rat) (A : Rat) (w : World) (g gy _c : Nat) (a2 : Option Addr) (l2 c2 : Nat) (a3 : Option Addr) (l3 c3 : Nat) : Prop := ∃ (N Ny : Nat → Bool) (v vy : Nat → Value), RdN w (some ⟨g, 0, none⟩) 6 N v ∧ NVs w N v (nodeV (zu r 6) (zu s 6) (((um s 6 : Nat) : Int) + ((um s 6 : Nat) : Int))) 700 6 ∧ RdN w (some ⟨gy, 0, none⟩) 3 Ny vy ∧ NVs w Ny vy (tw3 ((um r 6 : Nat) : Int) (((um s 6 : Nat) : Int) + ((um s 6 : Nat) : Int)) (((um s 6 : Nat) : Int) + ((um s 6 : Nat) : Int))) 201 3 ∧ NV w false (.slice a2 l2 c2) ((A.num.natAbs : Nat) : Int) 200 ∧ NV w false (.slice a3 l3 c3) ((A.den : Nat) : Int) 200
theorem Smp.below {r s : Nat → Rat} {A : Rat} (w w' : World) (g gy c : Nat) (a2 : Option Addr) (l2 c2 : Nat) (a3 : Option Addr) (l3 c3 : Nat) (h : Smp r s A w g gy c a2 l2 c2 a3 l3 c3) (b : Below w.heap.size w w') : Smp r s A w' g gy c a2 l2 c2 a3 l3 c3 := by
 obtain ⟨N, Ny, v, vy, h1, h2, h3, h4, h5, h6⟩ := h
 exact ⟨N, Ny, v, vy, h1.below b, h2.below b, h3.below b, h4.below b, h5.below b, h6.below b⟩
structure Lns (r s : Nat → Rat) (A : Rat) : Prop where
 c : ∀ q, q < 6 → Bd (zu r 6 q) 701
 z : ∀ q, q < 6 → Bd (zu s 6 q) 701
 u : Bd ((um r 6 : Nat) : Int) 601
 t : Bd ((um s 6 : Nat) : Int) 601
 a : Bq A 810
theorem Lns.of {r s : Nat → Rat} {A : Rat} {K : Nat} (hK : K ≤ 100) (hr : ∀ k, k < 6 → Bq (r k) K) (hs : ∀ k, k < 6 → Bq (s k) K) (ha : Bq A 810) : Lns r s A :=
 ⟨fun q hq => (zu_bd hr hq).mono (by omega), fun q hq => (zu_bd hs hq).mono (by omega), (um_bd hr).mono (by omega), (um_bd hs).mono (by omega), ha⟩
theorem nd_one (k : Nat) (hk : k < 6) (j : Nat) (hj : j < 3) : Bd (ndW k j) 1 := by
 have : ∀ k, k < 6 → ∀ j, j < 3 → (ndW k j).natAbs < 256 := by decide
 unfold Bd
 rw [Nat.pow_one]
 exact this k hk j hj
theorem Lns.node {r s : Nat → Rat} {A : Rat} (h : Lns r s A) {k : Nat} (hk : k < 6) : Bd (nodeV (zu r 6) (zu s 6) (((um s 6 : Nat) : Int) + ((um s 6 : Nat) : Int)) k) (705 + 705 + 705 + 6) := by
 unfold nodeV
 have hX := wsum_bd (V := zu s 6) (W := ndW k) (A := 701) 3 (fun q hq => h.z q (by omega)) (fun q hq => nd_one k hk q hq)
 have hY := wsum_bd (V := fun q => zu s 6 (3 + q)) (W := ndW k) (A := 701) 3 (fun q hq => h.z (3 + q) (by omega)) (fun q hq => nd_one k hk q hq)
 exact at_bd (A := 705) (B := 705) ((h.c 0 (by omega)).mono (by omega)) ((h.c 1 (by omega)).mono (by omega)) ((h.c 2 (by omega)).mono (by omega)) ((h.c 3 (by omega)).mono (by omega)) ((h.c 4 (by omega)).mono (by omega)) ((h.c 5 (by omega)).mono (by omega)) (hX.mono (by omega)) (hY.mono (by omega)) ((h.t.add h.t).mono (by omega))
theorem Lns.cast {r s : Nat → Rat} (k : Nat) : ((nodeV (zu r 6) (zu s 6) (((um s 6 : Nat) : Int) + ((um s 6 : Nat) : Int)) k : Int) : Rat) = (((um r 6 : Nat) : Int) : Rat) * (((((um s 6 : Nat) : Int) + ((um s 6 : Nat) : Int) : Int) : Rat) * ((((um s 6 : Nat) : Int) + ((um s 6 : Nat) : Int) : Int) : Rat)) * Fn r s k :=
 nodeV_cast (fun _ hq => zu_cast r hq) (fun _ hq => zu_cast s hq) k
theorem frac_one {n : Nat} (h : 0 < n) : ((n : Nat) : Rat) * Rat.divInt 1 (n : Nat) = 1 := by
 have hn : ((n : Nat) : Rat) ≠ 0 := fun e => by
  have q : ((n : Nat) : Rat) = ((0 : Nat) : Rat) := e
  rw [Rat.natCast_inj] at q
  omega
 rw [show Rat.divInt 1 (n : Nat) = mkRat 1 n from rfl, Rat.mkRat_eq_div, show (((1 : Int) : Rat)) = 1 from rfl]
 grind
theorem linI (r s : Nat → Rat) (A : Rat) (W : Nat → Int) (hl : Lns r s A) (hW : ∀ j, j < 6 → -100 ≤ W j ∧ W j ≤ 100) (w : World) (hT : Tab w) (B : Nat) (g gy c : Nat) (a2 : Option Addr) (l2 c2 : Nat) (a3 : Option Addr) (l3 c3 : Nat) (hs : Smp r s A w g gy c a2 l2 c2 a3 l3 c3) (kw : Cel w B [.int .i64 (W 0), .int .i64 (W 1), .int .i64 (W 2), .int .i64 (W 3), .int .i64 (W 4), .int .i64 (W 5)] 62) {x : Rat} (hx : rabs A * lsum W (Fn r s) * Rat.divInt 1 (120 : Nat) = x) :
  Calls Tryz.prog 42 #[.agg #[.slice (some ⟨g, 0, none⟩) 6 c, .slice (some ⟨gy, 0, none⟩) 3 3, .bool false, .slice a2 l2 c2, .bool false, .slice a3 l3 c3], .slice (some ⟨B, 0, none⟩) 6 6] w (Ra w (rq x)) := by
 obtain ⟨N, Ny, v, vy, h1, h2, h3, h4, h5, h6⟩ := hs
 have bV := wsum_bd (V := nodeV (zu r 6) (zu s 6) (((um s 6 : Nat) : Int) + ((um s 6 : Nat) : Int))) (W := W) 6 (fun k hk => hl.node hk) (fun k hk => Bd.one (by have := (hW k hk).1; omega) (by have := (hW k hk).2; omega))
 have pu := upn r 6
 have pt := upn s 6
 have hden := A.den_pos
 refine linear_walk _ _ _ _ _ _ _ _ _ _ _ _ _ _ _ _ _ (wsum (nodeV (zu r 6) (zu s 6) (((um s 6 : Nat) : Int) + ((um s 6 : Nat) : Int))) W 6) 300 _ _ _ w (fun w1 b => ?_) (fun w1 f a l c' b n => ?_)
 ·refine (weighed_walk (some ⟨g, 0, none⟩) (some ⟨B, 0, none⟩) 6 _ 6 6 N v _ W 270 w1 (by omega) (by omega) (by omega) (h1.below b) (fun q hq => ⟨(h2 q hq).1.sharp (hl.node hq) (by omega) |>.below b, (h2 q hq).2⟩) (rdw_6 (kw.below b)) (fun j w2 hj => (psmall_any (W j) (by have := (hW j hj).1; omega) (by have := (hW j hj).2; omega) w2).mono (fun e w' h => by obtain ⟨a, l, c, h⟩ := h; exact ⟨_, a, l, c, h⟩))).mono (fun e w' h => ?_)
  obtain ⟨f, a, l, c', e1, e2, e3⟩ := h
  exact ⟨f, a, l, c', e1, e2.mono (by omega), e3⟩
 ·have bA : Bd ((A.num.natAbs : Nat) : Int) 810 := hl.a.1.abs
  have bD : Bd ((A.den : Nat) : Int) 810 := hl.a.2
  have bT := hl.t.add hl.t
  refine part_any _ _ _ _ _ _ _ _ _ _ _ _ _ _ _ _ _ _ 120 _ _ _ gy 0 3 3 Ny vy _ 300 (705 + 705 + 705 + 6 + 1 + 6 + 810) w1 (hT.below b) (by omega) (by omega) (by omega) (by omega) (by omega) (by omega) n ((h5.below b).mono (by omega)) ((h6.below b).mono (by omega)) (h3.below b) (fun q hq => ⟨((h4 q hq).1.below b).mono (by omega), (h4 q hq).2⟩) (by omega) (fun q hq => ?_) ?_ ?_ ?_
  ·match q, hq with
   | 0, _ => exact pu
   | 1, _ => exact Int.add_pos pt pt
   | 2, _ => exact Int.add_pos pt pt
  ·exact bV.mul bA
  ·rw [tw3_prod, ← Int.natAbs_mul, ← Int.natAbs_mul]
   exact (((Bd.one (z := 120) (by omega) (by omega)).mul (bD.mul (hl.u.mul (bT.mul bT)))).mono (show 1 + (810 + (601 + (601 + 1 + (601 + 1)))) ≤ 705 + 705 + 705 + 6 + 1 + 6 + 810 by omega)).abs
  ·rw [tw3_prod, ← Int.natAbs_mul, ← Int.natAbs_mul]
   have pT := Int.add_pos pt pt
   have pd : (0 : Int) < ((A.den : Nat) : Int) := by omega
   have pp := Int.mul_pos (show (0 : Int) < 120 by omega) (Int.mul_pos pd (Int.mul_pos pu (Int.mul_pos pT pT)))
   refine Dt.mkRat_eq (by omega) ?_
   rw [Gm.natAbs_cast pp, ← hx, Rat.intCast_mul, wsum_cast (fun k _ => Lns.cast k), rabs_eq A]
   have h120 := frac_one (n := 120) (by omega)
   simp only [Rat.intCast_mul, Rat.intCast_natCast]
   generalize Rat.divInt 1 (120 : Nat) = t at *
   generalize lsum W (Fn r s) = y
   generalize rabs A = z
   generalize ((((um s 6 : Nat) : Int) + ((um s 6 : Nat) : Int) : Int) : Rat) = T
   have e120 : (((120 : Int) : Rat)) = ((120 : Nat) : Rat) := rfl
   rw [e120]
   generalize ((120 : Nat) : Rat) = m at *
   grind
structure PTab (w : World) : Prop where
 nodes : ∃ tg fr, w.heap[2]? = some (.cells #[.int .i64 2, .int .i64 0, .int .i64 0, .int .i64 0, .int .i64 2, .int .i64 0, .int .i64 0, .int .i64 0, .int .i64 2, .int .i64 1, .int .i64 1, .int .i64 0, .int .i64 0, .int .i64 1, .int .i64 1, .int .i64 1, .int .i64 0, .int .i64 1] tg fr)
 ints : ∃ tg fr, w.heap[0]? = some (.cells #[.int .i64 0, .int .i64 0, .int .i64 0, .int .i64 20, .int .i64 20, .int .i64 20] tg fr)
 sqs : ∃ tg fr, w.heap[3]? = some (.cells #[.int .i64 6, .int .i64 (-1), .int .i64 (-1), .int .i64 0, .int .i64 (-4), .int .i64 0, .int .i64 (-1), .int .i64 6, .int .i64 (-1), .int .i64 0, .int .i64 0, .int .i64 (-4), .int .i64 (-1), .int .i64 (-1), .int .i64 6, .int .i64 (-4), .int .i64 0, .int .i64 0, .int .i64 0, .int .i64 0, .int .i64 (-4), .int .i64 32, .int .i64 16, .int .i64 16, .int .i64 (-4), .int .i64 0, .int .i64 0, .int .i64 16, .int .i64 32, .int .i64 16, .int .i64 0, .int .i64 (-4), .int .i64 0, .int .i64 16, .int .i64 16, .int .i64 32] tg fr)
theorem hp_lt {w : World} {g : Nat} {o : Obj} (h : w.heap[g]? = some o) : g < w.heap.size := by
 rcases Nat.lt_or_ge g w.heap.size with q | q
 ·exact q
 ·rw [Array.getElem?_eq_none q] at h; cases h
theorem PTab.below {w w' : World} (h : PTab w) (b : Below w.heap.size w w') : PTab w' := by
 obtain ⟨⟨t1, f1, h1⟩, ⟨t2, f2, h2⟩, ⟨t3, f3, h3⟩⟩ := h
 exact ⟨⟨t1, f1, (b.block _ (hp_lt h1)).trans h1⟩, ⟨t2, f2, (b.block _ (hp_lt h2)).trans h2⟩, ⟨t3, f3, (b.block _ (hp_lt h3)).trans h3⟩⟩
theorem qsum_bd {V : Nat → Int} {A : Nat} : ∀ n, n ≤ 6 → (∀ k, k < 6 → Bd (V k) A) → Bd (qsum V n) (A + (A + 1 + 6) + n)
 | 0, _, _ => Bd.zero _
 | n + 1, hn, h => by
  have hw := wsum_bd (V := V) (W := sqW n) 6 h (fun k hk => by
   have : ∀ i, i < 6 → ∀ j, j < 6 → (sqW i j).natAbs < 256 := by decide
   unfold Bd
   rw [Nat.pow_one]
   exact this n (by omega) k hk)
  exact ((qsum_bd n (by omega) h).add (((h n (by omega)).mul hw).mono (by omega))).mono (by omega)
theorem zprod_twice (a b c : Int) : zprod (catn 3 (tw3 a b c) (tw3 a b c)) 6 = ((a * (b * c)) * (a * (b * c))).natAbs := by
 show a.natAbs * (b.natAbs * (c.natAbs * (a.natAbs * (b.natAbs * (c.natAbs * 1))))) = _
 simp only [Int.natAbs_mul, Nat.mul_one]
 ac_rfl
theorem sqrI (r s : Nat → Rat) (A : Rat) (hl : Lns r s A) (w : World) (hT : Tab w) (hP : PTab w) (g gy c : Nat) (a2 : Option Addr) (l2 c2 : Nat) (a3 : Option Addr) (l3 c3 : Nat) (hs : Smp r s A w g gy c a2 l2 c2 a3 l3 c3) {x : Rat} (hx : rabs A * qs (Fn r s) * Rat.divInt 1 (360 : Nat) = x) :
  Calls Tryz.prog 43 #[.agg #[.slice (some ⟨g, 0, none⟩) 6 c, .slice (some ⟨gy, 0, none⟩) 3 3, .bool false, .slice a2 l2 c2, .bool false, .slice a3 l3 c3]] w (Ra w (rq x)) := by
 obtain ⟨N, Ny, v, vy, h1, h2, h3, h4, h5, h6⟩ := hs
 obtain ⟨tg, fr, ht⟩ := hP.sqs
 have h2' : NVs w N v (nodeV (zu r 6) (zu s 6) (((um s 6 : Nat) : Int) + ((um s 6 : Nat) : Int))) 270 6 := fun q hq => ⟨(h2 q hq).1.sharp (hl.node hq) (by omega), (h2 q hq).2⟩
 have pu := upn r 6
 have pt := upn s 6
 have pT := Int.add_pos pt pt
 have hden := A.den_pos
 have h4c : ∀ w1, Below w.heap.size w w1 → NVs w1 (catn 3 Ny Ny) (catn 3 vy vy) (catn 3 (tw3 ((um r 6 : Nat) : Int) (((um s 6 : Nat) : Int) + ((um s 6 : Nat) : Int)) (((um s 6 : Nat) : Int) + ((um s 6 : Nat) : Int))) (tw3 ((um r 6 : Nat) : Int) (((um s 6 : Nat) : Int) + ((um s 6 : Nat) : Int)) (((um s 6 : Nat) : Int) + ((um s 6 : Nat) : Int)))) 600 6 := fun w1 b q hq => by
  unfold catn
  by_cases h : q < 3
  ·rw [if_pos h, if_pos h, if_pos h]
   exact ⟨((h4 q h).1.below b).mono (by omega), (h4 q h).2⟩
  ·rw [if_neg h, if_neg h, if_neg h]
   exact ⟨((h4 (q - 3) (by omega)).1.below b).mono (by omega), (h4 (q - 3) (by omega)).2⟩
 refine square_walk _ _ _ _ _ _ _ _ _ _ _ _ _ N v (nodeV (zu r 6) (zu s 6) (((um s 6 : Nat) : Int) + ((um s 6 : Nat) : Int))) 270 _ _ _ w (by omega) tg fr ht h1 h2' (fun k w1 B hk b kw => ?_) (catn 3 Ny Ny) (catn 3 vy vy) (fun w1 B b kc => ?_) (fun w1 f a l c' g' cap b n hr => ?_)
 ·have hsm : ∀ i, i < 6 → ∀ j, j < 6 → -1000000 ≤ sqW i j ∧ sqW i j ≤ 1000000 := by decide
  refine (weighed_walk (some ⟨g, 0, none⟩) (some ⟨B, 0, none⟩) 6 _ 6 6 N v _ (sqW k) 270 w1 (by omega) (by omega) (by omega) (h1.below b) (h2'.below b) (rdw_6 kw) (fun j w2 hj => (psmall_any (sqW k j) (hsm k hk j hj).1 (hsm k hk j hj).2 w2).mono (fun e w' h => by obtain ⟨a, l, c, h⟩ := h; exact ⟨_, a, l, c, h⟩))).mono (fun e w' h => ?_)
  obtain ⟨f, a, l, c', e1, e2, e3⟩ := h
  exact ⟨f, a, l, c', e1, e2.mono (by omega), e3⟩
 ·refine (concat_num B gy 0 3 3 gy 0 3 3 Ny Ny vy vy w1 kc (h3.below b) (h3.below b) (fun q hq => (h4 q hq).2) (fun q hq => (h4 q hq).2) (by omega) (by omega)).mono (fun e w' h => ?_)
  obtain ⟨g', cap, e1, -, e2, -, e3⟩ := h
  exact ⟨g', cap, e1, e2, e3⟩
 ·have bQ := qsum_bd (V := (nodeV (zu r 6) (zu s 6) (((um s 6 : Nat) : Int) + ((um s 6 : Nat) : Int)))) 6 (by omega) (fun k hk => hl.node hk)
  have bA : Bd ((A.num.natAbs : Nat) : Int) 810 := hl.a.1.abs
  have bD : Bd ((A.den : Nat) : Int) 810 := hl.a.2
  have bT := hl.t.add hl.t
  have b360 : Bd 360 2 := by unfold Bd; decide
  refine part_any _ _ _ _ _ _ _ _ _ _ _ _ _ _ _ _ _ _ 360 _ _ _ g' 0 6 cap _ _ (catn 3 (tw3 ((um r 6 : Nat) : Int) (((um s 6 : Nat) : Int) + ((um s 6 : Nat) : Int)) (((um s 6 : Nat) : Int) + ((um s 6 : Nat) : Int))) (tw3 ((um r 6 : Nat) : Int) (((um s 6 : Nat) : Int) + ((um s 6 : Nat) : Int)) (((um s 6 : Nat) : Int) + ((um s 6 : Nat) : Int)))) 600 (705 + 705 + 705 + 6 + (705 + 705 + 705 + 6 + 1 + 6) + 6 + 810) w1 (hT.below b) (by omega) (by omega) (by omega) (by omega) (by omega) (by omega) (n.mono (by omega)) ((h5.below b).mono (by omega)) ((h6.below b).mono (by omega)) hr (h4c w1 b) (by omega) (fun q hq => ?_) ?_ ?_ ?_
  ·unfold catn
   have : ∀ q, q < 3 → 0 < (tw3 ((um r 6 : Nat) : Int) (((um s 6 : Nat) : Int) + ((um s 6 : Nat) : Int)) (((um s 6 : Nat) : Int) + ((um s 6 : Nat) : Int))) q := fun q hq => by
    match q, hq with
    | 0, _ => exact pu
    | 1, _ => exact pT
    | 2, _ => exact pT
   split
   ·exact this q (by assumption)
   ·exact this (q - 3) (by omega)
  ·exact bQ.mul bA
  ·rw [zprod_twice, ← Int.natAbs_mul, ← Int.natAbs_mul]
   exact ((b360.mul (bD.mul ((hl.u.mul (bT.mul bT)).mul (hl.u.mul (bT.mul bT))))).mono (show 2 + (810 + (601 + (601 + 1 + (601 + 1)) + (601 + (601 + 1 + (601 + 1))))) ≤ 705 + 705 + 705 + 6 + (705 + 705 + 705 + 6 + 1 + 6) + 6 + 810 by omega)).abs
  ·rw [zprod_twice, ← Int.natAbs_mul, ← Int.natAbs_mul]
   have pd : (0 : Int) < ((A.den : Nat) : Int) := by omega
   have p1 := Int.mul_pos pu (Int.mul_pos pT pT)
   have pp := Int.mul_pos (show (0 : Int) < 360 by omega) (Int.mul_pos pd (Int.mul_pos p1 p1))
   refine Dt.mkRat_eq (by omega) ?_
   rw [Gm.natAbs_cast pp, ← hx, Rat.intCast_mul, qsum_cast (fun k _ => Lns.cast k), rabs_eq A]
   have h360 := frac_one (n := 360) (by omega)
   simp only [Rat.intCast_mul, Rat.intCast_natCast]
   generalize Rat.divInt 1 (360 : Nat) = t at *
   generalize qs (Fn r s) = y
   generalize rabs A = z
   generalize ((((um s 6 : Nat) : Int) + ((um s 6 : Nat) : Int) : Int) : Rat) = T
   have e360 : (((360 : Int) : Rat)) = ((360 : Nat) : Rat) := rfl
   rw [e360]
   generalize ((360 : Nat) : Rat) = m at *
   grind
def six6 {α : Type} (a b c d e f : α) (k : Nat) : α := match k with | 0 => a | 1 => b | 2 => c | 3 => d | 4 => e | _ => f
theorem pcheck3 (n0 n1 n2 n3 n4 n5 p0 p1 p2 p3 p4 p5 : Bool) (s0 d0 s1 d1 s2 d2 s3 d3 s4 d4 s5 d5 q0 r0 q1 r1 q2 r2 q3 r3 q4 r4 q5 r5 : ByteArray) (w : World) (hT : Tab w) (B : Nat) (kl : Cel w B [.bool p0, .string q0, .string r0, .bool p1, .string q1, .string r1, .bool p2, .string q2, .string r2, .bool p3, .string q3, .string r3, .bool p4, .string q4, .string r4, .bool p5, .string q5, .string r5] 30) (zs0 : s0.size ≤ 100 ∧ d0.size ≤ 100) (zs1 : s1.size ≤ 100 ∧ d1.size ≤ 100) (zs2 : s2.size ≤ 100 ∧ d2.size ≤ 100) (zs3 : s3.size ≤ 100 ∧ d3.size ≤ 100) (zs4 : s4.size ≤ 100 ∧ d4.size ≤ 100) (zs5 : s5.size ≤ 100 ∧ d5.size ≤ 100) (zq0 : q0.size ≤ 100 ∧ r0.size ≤ 100) (zq1 : q1.size ≤ 100 ∧ r1.size ≤ 100) (zq2 : q2.size ≤ 100 ∧ r2.size ≤ 100) (zq3 : q3.size ≤ 100 ∧ r3.size ≤ 100) (zq4 : q4.size ≤ 100 ∧ r4.size ≤ 100) (zq5 : q5.size ≤ 100 ∧ r5.size ≤ 100) :
  Calls Tryz.prog 32 #[.agg #[.bool n0, .string s0, .string d0, .bool n1, .string s1, .string d1, .bool n2, .string s2, .string d2, .bool n3, .string s3, .string d3, .bool n4, .string s4, .string d4, .bool n5, .string s5, .string d5], .slice (some ⟨B, 0, none⟩) 3 3] w (Re w (.int .i64 ((two (firstE (fun k => chkq (six6 n0 n1 n2 n3 n4 n5 k) (six6 s0 s1 s2 s3 s4 s5 k) (six6 d0 d1 d2 d3 d4 d5 k)) 6) (firstE (fun k => two (chkq (f4 p0 p2 p4 p4 k) (f4 q0 q2 q4 q4 k) (f4 r0 r2 r4 r4 k)) (chkq (f4 p1 p3 p5 p5 k) (f4 q1 q3 q5 q5 k) (f4 r1 r3 r5 r5 k))) 3)) : Nat))) := by
 have := pcheck_any (six6 n0 n1 n2 n3 n4 n5) (six6 s0 s1 s2 s3 s4 s5) (six6 d0 d1 d2 d3 d4 d5) (some ⟨B, 0, none⟩) 3 3 _ _ _ _ _ _ w hT (by omega) (rdpt_3 kl) (fun k hk => by
  match k, hk with
  | 0, _ => exact zs0
  | 1, _ => exact zs1
  | 2, _ => exact zs2
  | 3, _ => exact zs3
  | 4, _ => exact zs4
  | 5, _ => exact zs5) (fun k hk => by
  match k, hk with
  | 0, _ => exact ⟨zq0, zq1⟩
  | 1, _ => exact ⟨zq2, zq3⟩
  | 2, _ => exact ⟨zq4, zq5⟩)
 exact this
theorem chk3 (r : Nat → Rat) (x0 y0 x1 y1 x2 y2 : Rat) {K : Nat} (hK : K ≤ 100) (hb : ∀ k, k < 6 → Bq (r k) K) (b0 : Bq x0 K) (b1 : Bq y0 K) (b2 : Bq x1 K) (b3 : Bq y1 K) (b4 : Bq x2 K) (b5 : Bq y2 K) : two (firstE (fun k => chkq (nfZ (r k).num) (sfZ (r k).num) (strOf (r k).den)) 6) (firstE (fun k => two (chkq (f4 (nfZ x0.num) (nfZ x1.num) (nfZ x2.num) (nfZ x2.num) k) (f4 (sfZ x0.num) (sfZ x1.num) (sfZ x2.num) (sfZ x2.num) k) (f4 (strOf x0.den) (strOf x1.den) (strOf x2.den) (strOf x2.den) k)) (chkq (f4 (nfZ y0.num) (nfZ y1.num) (nfZ y2.num) (nfZ y2.num) k) (f4 (sfZ y0.num) (sfZ y1.num) (sfZ y2.num) (sfZ y2.num) k) (f4 (strOf y0.den) (strOf y1.den) (strOf y2.den) (strOf y2.den) k))) 3) = 0 := by
 rw [chk6 hK hb]
 have e : ∀ k, k < 3 → two (chkq (f4 (nfZ x0.num) (nfZ x1.num) (nfZ x2.num) (nfZ x2.num) k) (f4 (sfZ x0.num) (sfZ x1.num) (sfZ x2.num) (sfZ x2.num) k) (f4 (strOf x0.den) (strOf x1.den) (strOf x2.den) (strOf x2.den) k)) (chkq (f4 (nfZ y0.num) (nfZ y1.num) (nfZ y2.num) (nfZ y2.num) k) (f4 (sfZ y0.num) (sfZ y1.num) (sfZ y2.num) (sfZ y2.num) k) (f4 (strOf y0.den) (strOf y1.den) (strOf y2.den) (strOf y2.den) k)) = 0 := fun k hk => by
  match k, hk with
  | 0, _ => exact two_zero.2 ⟨chk_can8 x0 (by omega) b0, chk_can8 y0 (by omega) b1⟩
  | 1, _ => exact two_zero.2 ⟨chk_can8 x1 (by omega) b2, chk_can8 y1 (by omega) b3⟩
  | 2, _ => exact two_zero.2 ⟨chk_can8 x2 (by omega) b4, chk_can8 y2 (by omega) b5⟩
 refine two_zero.2 ⟨rfl, ?_⟩
 unfold firstE firstE firstE firstE
 simp only [e 0 (by omega), e 1 (by omega), e 2 (by omega), if_true]
theorem chkB (r : Nat → Rat) (x0 y0 x1 y1 x2 y2 : Rat) {K : Nat} (hK : K ≤ 100) (hb : ∀ k, k < 6 → Bq (r k) K) (b0 : Bq x0 K) (b1 : Bq y0 K) (b2 : Bq x1 K) (b3 : Bq y1 K) (b4 : Bq x2 K) (b5 : Bq y2 K) (w : World) (hT : Tab w) : ∀ (w1 : World) (B : Nat), Below w.heap.size w w1 → Cel w1 B [.bool (nfZ x0.num), .string (sfZ x0.num), .string (strOf x0.den), .bool (nfZ y0.num), .string (sfZ y0.num), .string (strOf y0.den), .bool (nfZ x1.num), .string (sfZ x1.num), .string (strOf x1.den), .bool (nfZ y1.num), .string (sfZ y1.num), .string (strOf y1.den), .bool (nfZ x2.num), .string (sfZ x2.num), .string (strOf x2.den), .bool (nfZ y2.num), .string (sfZ y2.num), .string (strOf y2.den)] 30 → Calls Tryz.prog 32 #[fq6 r, .slice (some ⟨B, 0, none⟩) 3 3] w1 (Re w1 (.int .i64 0)) := fun w1 B b kl => by
 have := pcheck3 (nfZ (r 0).num) (nfZ (r 1).num) (nfZ (r 2).num) (nfZ (r 3).num) (nfZ (r 4).num) (nfZ (r 5).num) _ _ _ _ _ _ _ _ _ _ _ _ _ _ _ _ _ _ _ _ _ _ _ _ _ _ _ _ _ _ w1 (hT.below b) B kl (sz2 hK (hb 0 (by omega))) (sz2 hK (hb 1 (by omega))) (sz2 hK (hb 2 (by omega))) (sz2 hK (hb 3 (by omega))) (sz2 hK (hb 4 (by omega))) (sz2 hK (hb 5 (by omega))) (sz2 hK b0) (sz2 hK b1) (sz2 hK b2) (sz2 hK b3) (sz2 hK b4) (sz2 hK b5)
 refine this.mono (fun e w' h => ⟨?_, h.2⟩)
 rw [h.1]
 have hz := chk3 r x0 y0 x1 y1 x2 y2 hK hb b0 b1 b2 b3 b4 b5
 have hq : firstE (fun k => chkq (six6 (nfZ (r 0).num) (nfZ (r 1).num) (nfZ (r 2).num) (nfZ (r 3).num) (nfZ (r 4).num) (nfZ (r 5).num) k) (six6 (sfZ (r 0).num) (sfZ (r 1).num) (sfZ (r 2).num) (sfZ (r 3).num) (sfZ (r 4).num) (sfZ (r 5).num) k) (six6 (strOf (r 0).den) (strOf (r 1).den) (strOf (r 2).den) (strOf (r 3).den) (strOf (r 4).den) (strOf (r 5).den) k)) 6 = firstE (fun k => chkq (nfZ (r k).num) (sfZ (r k).num) (strOf (r k).den)) 6 := rfl
 rw [hq, hz]
 rfl
theorem flat_str {z : Int} (h : z = 0) : sfZ z = { data := #[] } := by
 subst h
 rfl
theorem samp_flat (r : Nat → Rat) (x0 y0 x1 y1 x2 y2 : Rat) {K : Nat} (hK : K ≤ 100) (hb : ∀ k, k < 6 → Bq (r k) K) (b0 : Bq x0 K) (b1 : Bq y0 K) (b2 : Bq x1 K) (b3 : Bq y1 K) (b4 : Bq x2 K) (b5 : Bq y2 K) (w : World) (hT : Tab w) (hA : ((x1 - x0) * (y2 - y0) - (y1 - y0) * (x2 - x0)) = 0) :
  Calls Tryz.prog 41 #[fq6 r, pq x0 y0, pq x1 y1, pq x2 y2] w (Re w (.tuple #[.agg #[.slice none 0 0, .slice none 0 0, .bool false, .slice none 0 0, .bool false, .slice none 0 0], .int .i64 6])) := by
 refine sample_flat _ _ _ _ _ _ _ _ _ _ _ _ _ _ _ _ _ _ _ _ _ _ _ _ _ _ _ _ _ _ _ _ _ _ _ _ (nfZ ((x1 - x0) * (y2 - y0) - (y1 - y0) * (x2 - x0)).num) (strOf ((x1 - x0) * (y2 - y0) - (y1 - y0) * (x2 - x0)).den) w (chkB r x0 y0 x1 y1 x2 y2 hK hb b0 b1 b2 b3 b4 b5 w hT) (fun w1 b => ?_)
 have := areaI x0 y0 x1 y1 x2 y2 hK b0 b1 b2 b3 b4 b5 w1 (hT.below b)
 have e0 : rq ((x1 - x0) * (y2 - y0) - (y1 - y0) * (x2 - x0)) = .agg #[.bool (nfZ ((x1 - x0) * (y2 - y0) - (y1 - y0) * (x2 - x0)).num), .string { data := #[] }, .string (strOf ((x1 - x0) * (y2 - y0) - (y1 - y0) * (x2 - x0)).den)] := by
  show Value.agg #[.bool (nfZ ((x1 - x0) * (y2 - y0) - (y1 - y0) * (x2 - x0)).num), .string (sfZ ((x1 - x0) * (y2 - y0) - (y1 - y0) * (x2 - x0)).num), .string (strOf ((x1 - x0) * (y2 - y0) - (y1 - y0) * (x2 - x0)).den)] = _
  rw [flat_str (show ((x1 - x0) * (y2 - y0) - (y1 - y0) * (x2 - x0)).num = 0 by rw [hA]; rfl)]
 rw [e0] at this
 exact this
theorem area_bq (x0 y0 x1 y1 x2 y2 : Rat) {K : Nat} (hK : K ≤ 100) (b0 : Bq x0 K) (b1 : Bq y0 K) (b2 : Bq x1 K) (b3 : Bq y1 K) (b4 : Bq x2 K) (b5 : Bq y2 K) : Bq ((x1 - x0) * (y2 - y0) - (y1 - y0) * (x2 - x0)) 810 := bq_mono (vqm_sub (vqm_mul (vqm_sub b2 b0) (vqm_sub b5 b1)) (vqm_mul (vqm_sub b3 b1) (vqm_sub b4 b0))) (by omega)
theorem six_bq (x0 y0 x1 y1 x2 y2 : Rat) {K : Nat} (b0 : Bq x0 K) (b1 : Bq y0 K) (b2 : Bq x1 K) (b3 : Bq y1 K) (b4 : Bq x2 K) (b5 : Bq y2 K) : ∀ k, k < 6 → Bq ((six x0 x1 x2 y0 y1 y2) k) K := fun k hk => by
 match k, hk with
 | 0, _ => exact b0
 | 1, _ => exact b2
 | 2, _ => exact b4
 | 3, _ => exact b1
 | 4, _ => exact b3
 | 5, _ => exact b5
theorem emp_sf {z : Int} (h : z ≠ 0) : (sfZ z).toList.isEmpty = false := by
 unfold sfZ
 rw [strOf_empty]
 exact decide_eq_false (by omega)
theorem num_nat (m : Nat) {k : Nat} (hb : Bd ((m : Nat) : Int) k) (hk : k ≤ 8 * 110) (w : World) : Calls Tryz.prog 58 #[.agg #[.bool false, .string (strOf m)]] w fun e w' => ∃ a l c, e = .returned (.agg #[.bool false, .slice a l c]) ∧ NV w' false (.slice a l c) ((m : Nat) : Int) 110 ∧ Below w.heap.size w w' := by
 have hz := szn hb
 have := numOf_any false (strOf m) w (by omega) (okn _).1 110 (natOf_lt8 110 (by omega))
 rw [show sgn false (natOf (strOf m)) = ((m : Nat) : Int) from zon _] at this
 refine this.mono (fun e w' h => ?_)
 obtain ⟨v, h1, h2, h3⟩ := h
 obtain ⟨a, l, c, rfl⟩ := h2.slice
 exact ⟨a, l, c, h1, h2, h3⟩
theorem sampI (r : Nat → Rat) (x0 y0 x1 y1 x2 y2 : Rat) {K : Nat} (hK : K ≤ 100) (hb : ∀ k, k < 6 → Bq (r k) K) (b0 : Bq x0 K) (b1 : Bq y0 K) (b2 : Bq x1 K) (b3 : Bq y1 K) (b4 : Bq x2 K) (b5 : Bq y2 K) (w : World) (hT : Tab w) (hP : PTab w) (hA : ((x1 - x0) * (y2 - y0) - (y1 - y0) * (x2 - x0)) ≠ 0) :
  Calls Tryz.prog 41 #[fq6 r, pq x0 y0, pq x1 y1, pq x2 y2] w fun e w' => ∃ g gy c a2 l2 c2 a3 l3 c3, e = .returned (.tuple #[.agg #[.slice (some ⟨g, 0, none⟩) 6 c, .slice (some ⟨gy, 0, none⟩) 3 3, .bool false, .slice a2 l2 c2, .bool false, .slice a3 l3 c3], .int .i64 0]) ∧ Smp r (six x0 x1 x2 y0 y1 y2) ((x1 - x0) * (y2 - y0) - (y1 - y0) * (x2 - x0)) w' g gy c a2 l2 c2 a3 l3 c3 ∧ Below w.heap.size w w' := by
 obtain ⟨tg, fr, ht⟩ := hP.nodes
 have hbA := area_bq x0 y0 x1 y1 x2 y2 hK b0 b1 b2 b3 b4 b5
 have hsx := six_bq x0 y0 x1 y1 x2 y2 b0 b1 b2 b3 b4 b5
 have hn : ((x1 - x0) * (y2 - y0) - (y1 - y0) * (x2 - x0)).num ≠ 0 := fun e => hA (Rat.num_eq_zero.1 e)
 refine (sample_ok _ _ _ _ _ _ _ _ _ _ _ _ _ _ _ _ _ _ _ _ _ _ _ _ _ _ _ _ _ _ _ _ _ _ _ _ (nfZ ((x1 - x0) * (y2 - y0) - (y1 - y0) * (x2 - x0)).num) (sfZ ((x1 - x0) * (y2 - y0) - (y1 - y0) * (x2 - x0)).num) (strOf ((x1 - x0) * (y2 - y0) - (y1 - y0) * (x2 - x0)).den) (zu r 6) (zu (six x0 x1 x2 y0 y1 y2) 6) ((um r 6 : Nat) : Int) ((um (six x0 x1 x2 y0 y1 y2) 6 : Nat) : Int) ((((x1 - x0) * (y2 - y0) - (y1 - y0) * (x2 - x0)).num.natAbs : Nat) : Int) ((((x1 - x0) * (y2 - y0) - (y1 - y0) * (x2 - x0)).den : Nat) : Int) 160 110 w (by omega) (by omega) (emp_sf hn) tg fr ht (chkB r x0 y0 x1 y1 x2 y2 hK hb b0 b1 b2 b3 b4 b5 w hT) (fun w1 b => areaI x0 y0 x1 y1 x2 y2 hK b0 b1 b2 b3 b4 b5 w1 (hT.below b)) (fun w1 b => ?_) (fun w1 B b kl => ?_) (fun w1 => num_nat _ hbA.1.abs (by omega) w1) (fun w1 => num_nat _ hbA.2 (by omega) w1)).mono (fun e w' h => ?_)
 ·refine (cleared_of r hK w1 (hT.below b) hb).mono (fun e w' h => ?_)
  obtain ⟨g, m, v, a, l, c, h1, h2, h3, h4, h5⟩ := h
  exact ⟨g, m, v, a, l, c, h1, h2, h3, h4.mono (by omega), h5⟩
 ·refine (shared_any (some ⟨B, 0, none⟩) 6 6 (six x0 x1 x2 y0 y1 y2) hK (by omega) w1 (hT.below b) (rdq6 (N := fun k => nfZ ((six x0 x1 x2 y0 y1 y2) k).num) (S := fun k => sfZ ((six x0 x1 x2 y0 y1 y2) k).num) (D := fun k => strOf ((six x0 x1 x2 y0 y1 y2) k).den) kl) hsx).mono (fun e w' h => ?_)
  obtain ⟨g, m, v, a, l, c, h0, h1, h2, h3, h4, h5⟩ := h
  exact ⟨g, m, v, a, l, c, h0, h1, h2, h3, h4.mono (by omega), h5⟩
 ·obtain ⟨g, gy, N, Ny, v, vy, c, a2, a3, l2, c2, l3, c3, h1, h2, h3, h4, h5, h6, h7, h8⟩ := h
  exact ⟨g, gy, c, a2, l2, c2, a3, l3, c3, h1, ⟨N, Ny, v, vy, h2, h3, h4, fun q hq => ⟨(h5 q hq).1.mono (by omega), (h5 q hq).2⟩, h6.mono (by omega), h7.mono (by omega)⟩, h8⟩
theorem intI (r : Nat → Rat) (x0 y0 x1 y1 x2 y2 : Rat) {K : Nat} (hK : K ≤ 100) (hb : ∀ k, k < 6 → Bq (r k) K) (b0 : Bq x0 K) (b1 : Bq y0 K) (b2 : Bq x1 K) (b3 : Bq y1 K) (b4 : Bq x2 K) (b5 : Bq y2 K) (w : World) (hT : Tab w) (hP : PTab w) (hA : ((x1 - x0) * (y2 - y0) - (y1 - y0) * (x2 - x0)) ≠ 0) {x : Rat} (hx : rabs ((x1 - x0) * (y2 - y0) - (y1 - y0) * (x2 - x0)) * lsum inW (Fn r (six x0 x1 x2 y0 y1 y2)) * Rat.divInt 1 (120 : Nat) = x) :
  Calls Tryz.prog 15 #[fq6 r, pq x0 y0, pq x1 y1, pq x2 y2] w (Ra w (.tuple #[rq x, .int .i64 0])) := by
 obtain ⟨tg, fr, ht⟩ := hP.ints
 have hl := Lns.of hK hb (six_bq x0 y0 x1 y1 x2 y2 b0 b1 b2 b3 b4 b5) (area_bq x0 y0 x1 y1 x2 y2 hK b0 b1 b2 b3 b4 b5)
 exact pint_ok _ _ _ _ _ _ _ _ _ _ _ _ _ _ _ _ _ _ _ _ _ _ _ _ _ _ _ _ _ _ _ _ _ _ _ _ _ _ _ w tg fr ht (Smp r (six x0 x1 x2 y0 y1 y2) ((x1 - x0) * (y2 - y0) - (y1 - y0) * (x2 - x0))) Smp.below (fun w1 b => sampI r x0 y0 x1 y1 x2 y2 hK hb b0 b1 b2 b3 b4 b5 w1 (hT.below b) (hP.below b) hA) (fun w1 B g gy c a2 l2 c2 a3 l3 c3 b sp kw => linI r (six x0 x1 x2 y0 y1 y2) ((x1 - x0) * (y2 - y0) - (y1 - y0) * (x2 - x0)) inW hl (by decide) w1 (hT.below b) B g gy c a2 l2 c2 a3 l3 c3 sp kw hx)
theorem squI (r : Nat → Rat) (x0 y0 x1 y1 x2 y2 : Rat) {K : Nat} (hK : K ≤ 100) (hb : ∀ k, k < 6 → Bq (r k) K) (b0 : Bq x0 K) (b1 : Bq y0 K) (b2 : Bq x1 K) (b3 : Bq y1 K) (b4 : Bq x2 K) (b5 : Bq y2 K) (w : World) (hT : Tab w) (hP : PTab w) (hA : ((x1 - x0) * (y2 - y0) - (y1 - y0) * (x2 - x0)) ≠ 0) {x : Rat} (hx : rabs ((x1 - x0) * (y2 - y0) - (y1 - y0) * (x2 - x0)) * qs (Fn r (six x0 x1 x2 y0 y1 y2)) * Rat.divInt 1 (360 : Nat) = x) :
  Calls Tryz.prog 17 #[fq6 r, pq x0 y0, pq x1 y1, pq x2 y2] w (Ra w (.tuple #[rq x, .int .i64 0])) := by
 have hl := Lns.of hK hb (six_bq x0 y0 x1 y1 x2 y2 b0 b1 b2 b3 b4 b5) (area_bq x0 y0 x1 y1 x2 y2 hK b0 b1 b2 b3 b4 b5)
 exact psqu_ok _ _ _ _ _ _ _ _ _ _ _ _ _ _ _ _ _ _ _ _ _ _ _ _ _ _ _ _ _ _ _ _ _ _ _ _ _ _ _ w (Smp r (six x0 x1 x2 y0 y1 y2) ((x1 - x0) * (y2 - y0) - (y1 - y0) * (x2 - x0))) Smp.below (fun w1 b => sampI r x0 y0 x1 y1 x2 y2 hK hb b0 b1 b2 b3 b4 b5 w1 (hT.below b) (hP.below b) hA) (fun w1 g gy c a2 l2 c2 a3 l3 c3 b sp => sqrI r (six x0 x1 x2 y0 y1 y2) ((x1 - x0) * (y2 - y0) - (y1 - y0) * (x2 - x0)) hl w1 (hT.below b) (hP.below b) g gy c a2 l2 c2 a3 l3 c3 sp hx)
theorem int_flat (r : Nat → Rat) (x0 y0 x1 y1 x2 y2 : Rat) {K : Nat} (hK : K ≤ 100) (hb : ∀ k, k < 6 → Bq (r k) K) (b0 : Bq x0 K) (b1 : Bq y0 K) (b2 : Bq x1 K) (b3 : Bq y1 K) (b4 : Bq x2 K) (b5 : Bq y2 K) (w : World) (hT : Tab w) (hA : ((x1 - x0) * (y2 - y0) - (y1 - y0) * (x2 - x0)) = 0) :
  Calls Tryz.prog 15 #[fq6 r, pq x0 y0, pq x1 y1, pq x2 y2] w (Ra w (.tuple #[.agg #[.bool false, .string { data := #[] }, .string { data := #[] }], .int .i64 6])) :=
 pint_bad _ _ _ _ _ _ _ _ _ _ _ _ _ _ _ _ _ _ _ _ _ _ _ _ _ _ _ _ _ _ _ _ _ _ _ _ 6 w (by omega) (fun w1 b => samp_flat r x0 y0 x1 y1 x2 y2 hK hb b0 b1 b2 b3 b4 b5 w1 (hT.below b) hA)
theorem lod_flat (r : Nat → Rat) (x0 y0 x1 y1 x2 y2 : Rat) {K : Nat} (hK : K ≤ 100) (hb : ∀ k, k < 6 → Bq (r k) K) (b0 : Bq x0 K) (b1 : Bq y0 K) (b2 : Bq x1 K) (b3 : Bq y1 K) (b4 : Bq x2 K) (b5 : Bq y2 K) (w : World) (hT : Tab w) (hA : ((x1 - x0) * (y2 - y0) - (y1 - y0) * (x2 - x0)) = 0) :
  Calls Tryz.prog 16 #[fq6 r, pq x0 y0, pq x1 y1, pq x2 y2] w (Ra w (.tuple #[.agg #[.bool false, .string { data := #[] }, .string { data := #[] }, .bool false, .string { data := #[] }, .string { data := #[] }, .bool false, .string { data := #[] }, .string { data := #[] }], .int .i64 6])) :=
 plod_bad _ _ _ _ _ _ _ _ _ _ _ _ _ _ _ _ _ _ _ _ _ _ _ _ _ _ _ _ _ _ _ _ _ _ _ _ 6 w (by omega) (fun w1 b => samp_flat r x0 y0 x1 y1 x2 y2 hK hb b0 b1 b2 b3 b4 b5 w1 (hT.below b) hA)
def LTab (w : World) : Prop := ∃ tg fr, w.heap[1]? = some (.cells #[.int .i64 2, .int .i64 (-1), .int .i64 (-1), .int .i64 8, .int .i64 4, .int .i64 8, .int .i64 (-1), .int .i64 2, .int .i64 (-1), .int .i64 8, .int .i64 8, .int .i64 4, .int .i64 (-1), .int .i64 (-1), .int .i64 2, .int .i64 4, .int .i64 8, .int .i64 8] tg fr)
theorem LTab.below {w w' : World} (h : LTab w) (b : Below w.heap.size w w') : LTab w' := by
 obtain ⟨t1, f1, h1⟩ := h
 exact ⟨t1, f1, (b.block _ (hp_lt h1)).trans h1⟩
theorem lodI (r : Nat → Rat) (x0 y0 x1 y1 x2 y2 : Rat) {K : Nat} (hK : K ≤ 100) (hb : ∀ k, k < 6 → Bq (r k) K) (b0 : Bq x0 K) (b1 : Bq y0 K) (b2 : Bq x1 K) (b3 : Bq y1 K) (b4 : Bq x2 K) (b5 : Bq y2 K) (w : World) (hT : Tab w) (hP : PTab w) (hQ : LTab w) (hA : ((x1 - x0) * (y2 - y0) - (y1 - y0) * (x2 - x0)) ≠ 0) :
  Calls Tryz.prog 16 #[fq6 r, pq x0 y0, pq x1 y1, pq x2 y2] w (Ra w (.tuple #[.agg #[.bool (nfZ (rabs ((x1 - x0) * (y2 - y0) - (y1 - y0) * (x2 - x0)) * lsum (ldW 0) (Fn r (six x0 x1 x2 y0 y1 y2)) * Rat.divInt 1 (120 : Nat)).num), .string (sfZ (rabs ((x1 - x0) * (y2 - y0) - (y1 - y0) * (x2 - x0)) * lsum (ldW 0) (Fn r (six x0 x1 x2 y0 y1 y2)) * Rat.divInt 1 (120 : Nat)).num), .string (strOf (rabs ((x1 - x0) * (y2 - y0) - (y1 - y0) * (x2 - x0)) * lsum (ldW 0) (Fn r (six x0 x1 x2 y0 y1 y2)) * Rat.divInt 1 (120 : Nat)).den), .bool (nfZ (rabs ((x1 - x0) * (y2 - y0) - (y1 - y0) * (x2 - x0)) * lsum (ldW 1) (Fn r (six x0 x1 x2 y0 y1 y2)) * Rat.divInt 1 (120 : Nat)).num), .string (sfZ (rabs ((x1 - x0) * (y2 - y0) - (y1 - y0) * (x2 - x0)) * lsum (ldW 1) (Fn r (six x0 x1 x2 y0 y1 y2)) * Rat.divInt 1 (120 : Nat)).num), .string (strOf (rabs ((x1 - x0) * (y2 - y0) - (y1 - y0) * (x2 - x0)) * lsum (ldW 1) (Fn r (six x0 x1 x2 y0 y1 y2)) * Rat.divInt 1 (120 : Nat)).den), .bool (nfZ (rabs ((x1 - x0) * (y2 - y0) - (y1 - y0) * (x2 - x0)) * lsum (ldW 2) (Fn r (six x0 x1 x2 y0 y1 y2)) * Rat.divInt 1 (120 : Nat)).num), .string (sfZ (rabs ((x1 - x0) * (y2 - y0) - (y1 - y0) * (x2 - x0)) * lsum (ldW 2) (Fn r (six x0 x1 x2 y0 y1 y2)) * Rat.divInt 1 (120 : Nat)).num), .string (strOf (rabs ((x1 - x0) * (y2 - y0) - (y1 - y0) * (x2 - x0)) * lsum (ldW 2) (Fn r (six x0 x1 x2 y0 y1 y2)) * Rat.divInt 1 (120 : Nat)).den)], .int .i64 0])) := by
 obtain ⟨tg, fr, ht⟩ := hQ
 have hl := Lns.of hK hb (six_bq x0 y0 x1 y1 x2 y2 b0 b1 b2 b3 b4 b5) (area_bq x0 y0 x1 y1 x2 y2 hK b0 b1 b2 b3 b4 b5)
 have hw : ∀ k, k < 3 → ∀ j, j < 6 → -100 ≤ ldW k j ∧ ldW k j ≤ 100 := by decide
 exact plod_ok _ _ _ _ _ _ _ _ _ _ _ _ _ _ _ _ _ _ _ _ _ _ _ _ _ _ _ _ _ _ _ _ _ _ _ _ (fun k => nfZ (rabs ((x1 - x0) * (y2 - y0) - (y1 - y0) * (x2 - x0)) * lsum (ldW k) (Fn r (six x0 x1 x2 y0 y1 y2)) * Rat.divInt 1 (120 : Nat)).num) (fun k => sfZ (rabs ((x1 - x0) * (y2 - y0) - (y1 - y0) * (x2 - x0)) * lsum (ldW k) (Fn r (six x0 x1 x2 y0 y1 y2)) * Rat.divInt 1 (120 : Nat)).num) (fun k => strOf (rabs ((x1 - x0) * (y2 - y0) - (y1 - y0) * (x2 - x0)) * lsum (ldW k) (Fn r (six x0 x1 x2 y0 y1 y2)) * Rat.divInt 1 (120 : Nat)).den) w tg fr ht (Smp r (six x0 x1 x2 y0 y1 y2) ((x1 - x0) * (y2 - y0) - (y1 - y0) * (x2 - x0))) Smp.below (fun w1 b => sampI r x0 y0 x1 y1 x2 y2 hK hb b0 b1 b2 b3 b4 b5 w1 (hT.below b) (hP.below b) hA) (fun k w1 B g gy c a2 l2 c2 a3 l3 c3 hk b sp kw => linI r (six x0 x1 x2 y0 y1 y2) ((x1 - x0) * (y2 - y0) - (y1 - y0) * (x2 - x0)) (ldW k) hl (hw k hk) w1 (hT.below b) B g gy c a2 l2 c2 a3 l3 c3 sp kw rfl)
theorem three_e1 (n0 n1 n2 n3 n4 n5 p0 p1 p2 p3 p4 p5 : Bool) (s0 d0 s1 d1 s2 d2 s3 d3 s4 d4 s5 d5 q0 r0 q1 r1 q2 r2 q3 r3 q4 r4 q5 r5 : ByteArray) (E : Int) (hE : ¬ E = 0) (w : World)
  (H1 : Hid (∀ w1, Below w.heap.size w w1 → Calls Tryz.prog 11 #[.agg #[.bool n0, .string s0, .string d0, .bool n1, .string s1, .string d1, .bool n2, .string s2, .string d2, .bool n3, .string s3, .string d3, .bool n4, .string s4, .string d4, .bool n5, .string s5, .string d5]] w1 (Re w1 (.int .i64 E)))) :
  Calls Tryz.prog 18 #[.agg #[.bool n0, .string s0, .string d0, .bool n1, .string s1, .string d1, .bool n2, .string s2, .string d2, .bool n3, .string s3, .string d3, .bool n4, .string s4, .string d4, .bool n5, .string s5, .string d5], .agg #[.bool p0, .string q0, .string r0, .bool p1, .string q1, .string r1, .bool p2, .string q2, .string r2, .bool p3, .string q3, .string r3, .bool p4, .string q4, .string r4, .bool p5, .string q5, .string r5]] w (Re w (.int .i64 E)) := by
 go_enter Tryz.func18, Tryz.ntmps18
 go_upto_region 1 with fail
 obtain ⟨w0, hq, kf, kt, bb⟩ := mk2 w [.bool n0, .string s0, .string d0, .bool n1, .string s1, .string d1, .bool n2, .string s2, .string d2, .bool n3, .string s3, .string d3, .bool n4, .string s4, .string d4, .bool n5, .string s5, .string d5] [.bool p0, .string q0, .string r0, .bool p1, .string q1, .string r1, .bool p2, .string q2, .string r2, .bool p3, .string q3, .string r3, .bool p4, .string q4, .string r4, .bool p5, .string q5, .string r5] 28 32
 rw [← hq]
 clear hq
 go_wp2_with (refine wpList_load_row rfl 28 _ rfl _ rfl 28 _ (0, 0) _ kf Tryz.underlying28 rfl (by kernel_rfl) ?_)
 go_fit (H1.out _ bb)
 rintro e w1 ⟨rfl, b1⟩
 replace kf := kf.below b1
 replace kt := kt.below b1
 replace bb := Below.after bb b1
 clear b1
 clear kf
 clear kt
 go_wp2
 go_ret
 exact ⟨rfl, bb⟩
theorem three_e2 (n0 n1 n2 n3 n4 n5 p0 p1 p2 p3 p4 p5 : Bool) (s0 d0 s1 d1 s2 d2 s3 d3 s4 d4 s5 d5 q0 r0 q1 r1 q2 r2 q3 r3 q4 r4 q5 r5 : ByteArray) (E : Int) (hE : ¬ E = 0) (w : World)
  (H1 : Hid (∀ w1, Below w.heap.size w w1 → Calls Tryz.prog 11 #[.agg #[.bool n0, .string s0, .string d0, .bool n1, .string s1, .string d1, .bool n2, .string s2, .string d2, .bool n3, .string s3, .string d3, .bool n4, .string s4, .string d4, .bool n5, .string s5, .string d5]] w1 (Re w1 (.int .i64 0))))
  (H2 : Hid (∀ w1 B, Below w.heap.size w w1 → Cel w1 B [.bool p0, .string q0, .string r0, .bool p1, .string q1, .string r1, .bool p2, .string q2, .string r2, .bool p3, .string q3, .string r3, .bool p4, .string q4, .string r4, .bool p5, .string q5, .string r5] 30 → Calls Tryz.prog 13 #[.slice (some ⟨B, 0, none⟩) 3 3] w1 (Re w1 (.int .i64 E)))) :
  Calls Tryz.prog 18 #[.agg #[.bool n0, .string s0, .string d0, .bool n1, .string s1, .string d1, .bool n2, .string s2, .string d2, .bool n3, .string s3, .string d3, .bool n4, .string s4, .string d4, .bool n5, .string s5, .string d5], .agg #[.bool p0, .string q0, .string r0, .bool p1, .string q1, .string r1, .bool p2, .string q2, .string r2, .bool p3, .string q3, .string r3, .bool p4, .string q4, .string r4, .bool p5, .string q5, .string r5]] w (Re w (.int .i64 E)) := by
 go_enter Tryz.func18, Tryz.ntmps18
 go_upto_region 1 with fail
 obtain ⟨w0, hq, kf, kt, bb⟩ := mk2 w [.bool n0, .string s0, .string d0, .bool n1, .string s1, .string d1, .bool n2, .string s2, .string d2, .bool n3, .string s3, .string d3, .bool n4, .string s4, .string d4, .bool n5, .string s5, .string d5] [.bool p0, .string q0, .string r0, .bool p1, .string q1, .string r1, .bool p2, .string q2, .string r2, .bool p3, .string q3, .string r3, .bool p4, .string q4, .string r4, .bool p5, .string q5, .string r5] 28 32
 rw [← hq]
 clear hq
 go_wp2_with (refine wpList_load_row rfl 28 _ rfl _ rfl 28 _ (0, 0) _ kf Tryz.underlying28 rfl (by kernel_rfl) ?_)
 go_fit (H1.out _ bb)
 rintro e w1 ⟨rfl, b1⟩
 replace kf := kf.below b1
 replace kt := kt.below b1
 replace bb := Below.after bb b1
 clear b1
 clear kf
 have x0 := kt.cell 0
 have x1 := kt.cell 1
 have x2 := kt.cell 2
 have x3 := kt.cell 3
 have x4 := kt.cell 4
 have x5 := kt.cell 5
 have x6 := kt.cell 6
 have x7 := kt.cell 7
 have x8 := kt.cell 8
 have x9 := kt.cell 9
 have x10 := kt.cell 10
 have x11 := kt.cell 11
 have x12 := kt.cell 12
 have x13 := kt.cell 13
 have x14 := kt.cell 14
 have x15 := kt.cell 15
 have x16 := kt.cell 16
 have x17 := kt.cell 17
 simp only [List.getElem?_cons_zero, List.getElem?_cons_succ] at x0 x1 x2 x3 x4 x5 x6 x7 x8 x9 x10 x11 x12 x13 x14 x15 x16 x17
 go_wp2_with fail
 clear x0 x1 x2 x3 x4 x5 x6 x7 x8 x9 x10 x11 x12 x13 x14 x15 x16 x17
 obtain ⟨w2, hq, kl, b1⟩ := mk1 w1 [.bool p0, .string q0, .string r0, .bool p1, .string q1, .string r1, .bool p2, .string q2, .string r2, .bool p3, .string q3, .string r3, .bool p4, .string q4, .string r4, .bool p5, .string q5, .string r5] 30
 rw [← hq]
 clear hq
 replace kt := kt.below b1
 replace bb := Below.after bb b1
 clear b1
 go_fit (H2.out _ _ bb kl)
 rintro e w3 ⟨rfl, b1⟩
 clear kl
 replace kt := kt.below b1
 replace bb := Below.after bb b1
 clear b1
 clear kt
 go_wp2
 go_ret
 exact ⟨rfl, bb⟩
theorem three_fl (n0 n1 n2 n3 n4 n5 p0 p1 p2 p3 p4 p5 : Bool) (s0 d0 s1 d1 s2 d2 s3 d3 s4 d4 s5 d5 q0 r0 q1 r1 q2 r2 q3 r3 q4 r4 q5 r5 : ByteArray) (w : World)
  (H1 : Hid (∀ w1, Below w.heap.size w w1 → Calls Tryz.prog 11 #[.agg #[.bool n0, .string s0, .string d0, .bool n1, .string s1, .string d1, .bool n2, .string s2, .string d2, .bool n3, .string s3, .string d3, .bool n4, .string s4, .string d4, .bool n5, .string s5, .string d5]] w1 (Re w1 (.int .i64 0))))
  (H2 : Hid (∀ w1 B, Below w.heap.size w w1 → Cel w1 B [.bool p0, .string q0, .string r0, .bool p1, .string q1, .string r1, .bool p2, .string q2, .string r2, .bool p3, .string q3, .string r3, .bool p4, .string q4, .string r4, .bool p5, .string q5, .string r5] 30 → Calls Tryz.prog 13 #[.slice (some ⟨B, 0, none⟩) 3 3] w1 (Re w1 (.int .i64 0))))
  (H3 : Hid (∀ w1, Below w.heap.size w w1 → Calls Tryz.prog 44 #[.agg #[.bool p0, .string q0, .string r0, .bool p1, .string q1, .string r1], .agg #[.bool p2, .string q2, .string r2, .bool p3, .string q3, .string r3], .agg #[.bool p4, .string q4, .string r4, .bool p5, .string q5, .string r5]] w1 (Re w1 (.int .i64 0)))) :
  Calls Tryz.prog 18 #[.agg #[.bool n0, .string s0, .string d0, .bool n1, .string s1, .string d1, .bool n2, .string s2, .string d2, .bool n3, .string s3, .string d3, .bool n4, .string s4, .string d4, .bool n5, .string s5, .string d5], .agg #[.bool p0, .string q0, .string r0, .bool p1, .string q1, .string r1, .bool p2, .string q2, .string r2, .bool p3, .string q3, .string r3, .bool p4, .string q4, .string r4, .bool p5, .string q5, .string r5]] w (Re w (.int .i64 6)) := by
 go_enter Tryz.func18, Tryz.ntmps18
 go_upto_region 1 with fail
 obtain ⟨w0, hq, kf, kt, bb⟩ := mk2 w [.bool n0, .string s0, .string d0, .bool n1, .string s1, .string d1, .bool n2, .string s2, .string d2, .bool n3, .string s3, .string d3, .bool n4, .string s4, .string d4, .bool n5, .string s5, .string d5] [.bool p0, .string q0, .string r0, .bool p1, .string q1, .string r1, .bool p2, .string q2, .string r2, .bool p3, .string q3, .string r3, .bool p4, .string q4, .string r4, .bool p5, .string q5, .string r5] 28 32
 rw [← hq]
 clear hq
 go_wp2_with (refine wpList_load_row rfl 28 _ rfl _ rfl 28 _ (0, 0) _ kf Tryz.underlying28 rfl (by kernel_rfl) ?_)
 go_fit (H1.out _ bb)
 rintro e w1 ⟨rfl, b1⟩
 replace kf := kf.below b1
 replace kt := kt.below b1
 replace bb := Below.after bb b1
 clear b1
 clear kf
 have x0 := kt.cell 0
 have x1 := kt.cell 1
 have x2 := kt.cell 2
 have x3 := kt.cell 3
 have x4 := kt.cell 4
 have x5 := kt.cell 5
 have x6 := kt.cell 6
 have x7 := kt.cell 7
 have x8 := kt.cell 8
 have x9 := kt.cell 9
 have x10 := kt.cell 10
 have x11 := kt.cell 11
 have x12 := kt.cell 12
 have x13 := kt.cell 13
 have x14 := kt.cell 14
 have x15 := kt.cell 15
 have x16 := kt.cell 16
 have x17 := kt.cell 17
 simp only [List.getElem?_cons_zero, List.getElem?_cons_succ] at x0 x1 x2 x3 x4 x5 x6 x7 x8 x9 x10 x11 x12 x13 x14 x15 x16 x17
 go_wp2_with fail
 clear x0 x1 x2 x3 x4 x5 x6 x7 x8 x9 x10 x11 x12 x13 x14 x15 x16 x17
 obtain ⟨w2, hq, kl, b1⟩ := mk1 w1 [.bool p0, .string q0, .string r0, .bool p1, .string q1, .string r1, .bool p2, .string q2, .string r2, .bool p3, .string q3, .string r3, .bool p4, .string q4, .string r4, .bool p5, .string q5, .string r5] 30
 rw [← hq]
 clear hq
 replace kt := kt.below b1
 replace bb := Below.after bb b1
 clear b1
 go_fit (H2.out _ _ bb kl)
 rintro e w3 ⟨rfl, b1⟩
 clear kl
 replace kt := kt.below b1
 replace bb := Below.after bb b1
 clear b1
 have x0 := kt.cell 0
 have x1 := kt.cell 1
 have x2 := kt.cell 2
 have x3 := kt.cell 3
 have x4 := kt.cell 4
 have x5 := kt.cell 5
 have x6 := kt.cell 6
 have x7 := kt.cell 7
 have x8 := kt.cell 8
 have x9 := kt.cell 9
 have x10 := kt.cell 10
 have x11 := kt.cell 11
 have x12 := kt.cell 12
 have x13 := kt.cell 13
 have x14 := kt.cell 14
 have x15 := kt.cell 15
 have x16 := kt.cell 16
 have x17 := kt.cell 17
 simp only [List.getElem?_cons_zero, List.getElem?_cons_succ] at x0 x1 x2 x3 x4 x5 x6 x7 x8 x9 x10 x11 x12 x13 x14 x15 x16 x17
 go_wp2_with fail
 clear x0 x1 x2 x3 x4 x5 x6 x7 x8 x9 x10 x11 x12 x13 x14 x15 x16 x17
 clear kt
 go_fit (H3.out _ bb)
 rintro e w4 ⟨rfl, b1⟩
 replace bb := Below.after bb b1
 clear b1
 go_wp2
 go_ret
 exact ⟨rfl, bb⟩
theorem three_ok (n0 n1 n2 n3 n4 n5 p0 p1 p2 p3 p4 p5 : Bool) (s0 d0 s1 d1 s2 d2 s3 d3 s4 d4 s5 d5 q0 r0 q1 r1 q2 r2 q3 r3 q4 r4 q5 r5 : ByteArray) (E : Int) (hE : ¬ E = 0) (w : World)
  (H1 : Hid (∀ w1, Below w.heap.size w w1 → Calls Tryz.prog 11 #[.agg #[.bool n0, .string s0, .string d0, .bool n1, .string s1, .string d1, .bool n2, .string s2, .string d2, .bool n3, .string s3, .string d3, .bool n4, .string s4, .string d4, .bool n5, .string s5, .string d5]] w1 (Re w1 (.int .i64 0))))
  (H2 : Hid (∀ w1 B, Below w.heap.size w w1 → Cel w1 B [.bool p0, .string q0, .string r0, .bool p1, .string q1, .string r1, .bool p2, .string q2, .string r2, .bool p3, .string q3, .string r3, .bool p4, .string q4, .string r4, .bool p5, .string q5, .string r5] 30 → Calls Tryz.prog 13 #[.slice (some ⟨B, 0, none⟩) 3 3] w1 (Re w1 (.int .i64 0))))
  (H3 : Hid (∀ w1, Below w.heap.size w w1 → Calls Tryz.prog 44 #[.agg #[.bool p0, .string q0, .string r0, .bool p1, .string q1, .string r1], .agg #[.bool p2, .string q2, .string r2, .bool p3, .string q3, .string r3], .agg #[.bool p4, .string q4, .string r4, .bool p5, .string q5, .string r5]] w1 (Re w1 (.int .i64 E)))) :
  Calls Tryz.prog 18 #[.agg #[.bool n0, .string s0, .string d0, .bool n1, .string s1, .string d1, .bool n2, .string s2, .string d2, .bool n3, .string s3, .string d3, .bool n4, .string s4, .string d4, .bool n5, .string s5, .string d5], .agg #[.bool p0, .string q0, .string r0, .bool p1, .string q1, .string r1, .bool p2, .string q2, .string r2, .bool p3, .string q3, .string r3, .bool p4, .string q4, .string r4, .bool p5, .string q5, .string r5]] w (Re w (.int .i64 0)) := by
 go_enter Tryz.func18, Tryz.ntmps18
 go_upto_region 1 with fail
 obtain ⟨w0, hq, kf, kt, bb⟩ := mk2 w [.bool n0, .string s0, .string d0, .bool n1, .string s1, .string d1, .bool n2, .string s2, .string d2, .bool n3, .string s3, .string d3, .bool n4, .string s4, .string d4, .bool n5, .string s5, .string d5] [.bool p0, .string q0, .string r0, .bool p1, .string q1, .string r1, .bool p2, .string q2, .string r2, .bool p3, .string q3, .string r3, .bool p4, .string q4, .string r4, .bool p5, .string q5, .string r5] 28 32
 rw [← hq]
 clear hq
 go_wp2_with (refine wpList_load_row rfl 28 _ rfl _ rfl 28 _ (0, 0) _ kf Tryz.underlying28 rfl (by kernel_rfl) ?_)
 go_fit (H1.out _ bb)
 rintro e w1 ⟨rfl, b1⟩
 replace kf := kf.below b1
 replace kt := kt.below b1
 replace bb := Below.after bb b1
 clear b1
 clear kf
 have x0 := kt.cell 0
 have x1 := kt.cell 1
 have x2 := kt.cell 2
 have x3 := kt.cell 3
 have x4 := kt.cell 4
 have x5 := kt.cell 5
 have x6 := kt.cell 6
 have x7 := kt.cell 7
 have x8 := kt.cell 8
 have x9 := kt.cell 9
 have x10 := kt.cell 10
 have x11 := kt.cell 11
 have x12 := kt.cell 12
 have x13 := kt.cell 13
 have x14 := kt.cell 14
 have x15 := kt.cell 15
 have x16 := kt.cell 16
 have x17 := kt.cell 17
 simp only [List.getElem?_cons_zero, List.getElem?_cons_succ] at x0 x1 x2 x3 x4 x5 x6 x7 x8 x9 x10 x11 x12 x13 x14 x15 x16 x17
 go_wp2_with fail
 clear x0 x1 x2 x3 x4 x5 x6 x7 x8 x9 x10 x11 x12 x13 x14 x15 x16 x17
 obtain ⟨w2, hq, kl, b1⟩ := mk1 w1 [.bool p0, .string q0, .string r0, .bool p1, .string q1, .string r1, .bool p2, .string q2, .string r2, .bool p3, .string q3, .string r3, .bool p4, .string q4, .string r4, .bool p5, .string q5, .string r5] 30
 rw [← hq]
 clear hq
 replace kt := kt.below b1
 replace bb := Below.after bb b1
 clear b1
 go_fit (H2.out _ _ bb kl)
 rintro e w3 ⟨rfl, b1⟩
 clear kl
 replace kt := kt.below b1
 replace bb := Below.after bb b1
 clear b1
 have x0 := kt.cell 0
 have x1 := kt.cell 1
 have x2 := kt.cell 2
 have x3 := kt.cell 3
 have x4 := kt.cell 4
 have x5 := kt.cell 5
 have x6 := kt.cell 6
 have x7 := kt.cell 7
 have x8 := kt.cell 8
 have x9 := kt.cell 9
 have x10 := kt.cell 10
 have x11 := kt.cell 11
 have x12 := kt.cell 12
 have x13 := kt.cell 13
 have x14 := kt.cell 14
 have x15 := kt.cell 15
 have x16 := kt.cell 16
 have x17 := kt.cell 17
 simp only [List.getElem?_cons_zero, List.getElem?_cons_succ] at x0 x1 x2 x3 x4 x5 x6 x7 x8 x9 x10 x11 x12 x13 x14 x15 x16 x17
 go_wp2_with fail
 clear x0 x1 x2 x3 x4 x5 x6 x7 x8 x9 x10 x11 x12 x13 x14 x15 x16 x17
 clear kt
 go_fit (H3.out _ bb)
 rintro e w4 ⟨rfl, b1⟩
 replace bb := Below.after bb b1
 clear b1
 go_wp2
 go_ret
 exact ⟨rfl, bb⟩
theorem sh7_sz {s d : ByteArray} (h : sh7 s d = true) : s.size ≤ 30 ∧ d.size ≤ 30 := by
 unfold sh7 at h
 exact of_decide_eq_true h
theorem wpList_load_rowG {P : Program} {ops : Array Oper} {rest : List Oper} {o : Oper} {a : Act} {w : World} {Q : Exit → Act → World → Prop} (hw : Region.wanted o (yielded ops a.tmps) = true) (ty : TypeId) (x : Operand) (ho : o.op = .load ty x)
  (g : Nat) (hx : a.eval x = .pointer (some ⟨g, 0, none⟩)) (t : TypeId) (cs : Array Value) (fr : Nat × Nat) (d : TypeDesc) (hg : w.heap[g]? = some (.cells cs t fr))
  (hu : P.underlying ty = some d) (hd : (match d with | .struct _ | .array _ _ => true | _ => false) = true) (hi : (P.info? ty).map (·.size) = some cs.size)
  (h : wpList P ops Q rest (a.put o.dst (.agg cs)) w) : wpList P ops Q (o :: rest) a w :=
 wpList_step fun K hK => by rw [if_pos hw]; exact wp_load_row ty x ho g hx t cs fr d hg hu hd hi (hK _ _ h)
abbrev t18 (x0 z0 x1 z1 x2 z2 : Rat) : Value := .agg #[.bool (nfZ x0.num), .string (sfZ x0.num), .string (strOf x0.den), .bool (nfZ z0.num), .string (sfZ z0.num), .string (strOf z0.den), .bool (nfZ x1.num), .string (sfZ x1.num), .string (strOf x1.den), .bool (nfZ z1.num), .string (sfZ z1.num), .string (strOf z1.den), .bool (nfZ x2.num), .string (sfZ x2.num), .string (strOf x2.den), .bool (nfZ z2.num), .string (sfZ z2.num), .string (strOf z2.den)]
theorem firstE_zero {c : Nat → Nat} : ∀ {n : Nat}, firstE c n = 0 → ∀ k, k < n → c k = 0
 | 0, _, k, hk => absurd hk (by omega)
 | n + 1, h, k, hk => by
  unfold firstE at h
  split at h
  ·rename_i hz
   rcases Nat.lt_or_ge k n with q | q
   ·exact firstE_zero hz k q
   ·obtain rfl : k = n := by omega
    exact h
  ·rename_i hz
   exact absurd h hz
theorem few7E (n0 n1 n2 n3 n4 n5 p0 p1 p2 p3 p4 p5 : Bool) (s0 d0 s1 d1 s2 d2 s3 d3 s4 d4 s5 d5 q0 r0 q1 r1 q2 r2 q3 r3 q4 r4 q5 r5 : ByteArray) (w : World) : Calls Tryz.prog 8 #[.agg #[.bool n0, .string s0, .string d0, .bool n1, .string s1, .string d1, .bool n2, .string s2, .string d2, .bool n3, .string s3, .string d3, .bool n4, .string s4, .string d4, .bool n5, .string s5, .string d5], .agg #[.bool p0, .string q0, .string r0, .bool p1, .string q1, .string r1, .bool p2, .string q2, .string r2, .bool p3, .string q3, .string r3, .bool p4, .string q4, .string r4, .bool p5, .string q5, .string r5]] w (Re w (.bool (allB (fun k => sh7 (six6 s0 s1 s2 s3 s4 s5 k) (six6 d0 d1 d2 d3 d4 d5 k)) 6 && allB (fun k => sh7 (f4 q0 q2 q4 q4 k) (f4 r0 r2 r4 r4 k) && sh7 (f4 q1 q3 q5 q5 k) (f4 r1 r3 r5 r5 k)) 3))) :=
 few7_any (six6 n0 n1 n2 n3 n4 n5) (f4 p0 p2 p4 p4) (f4 p1 p3 p5 p5) (six6 s0 s1 s2 s3 s4 s5) (six6 d0 d1 d2 d3 d4 d5) (f4 q0 q2 q4 q4) (f4 r0 r2 r4 r4) (f4 q1 q3 q5 q5) (f4 r1 r3 r5 r5) w
theorem tri7 (n0 n1 n2 n3 n4 n5 p0 p1 p2 p3 p4 p5 : Bool) (s0 d0 s1 d1 s2 d2 s3 d3 s4 d4 s5 d5 q0 r0 q1 r1 q2 r2 q3 r3 q4 r4 q5 r5 : ByteArray) (h : (allB (fun k => sh7 (six6 s0 s1 s2 s3 s4 s5 k) (six6 d0 d1 d2 d3 d4 d5 k)) 6 && allB (fun k => sh7 (f4 q0 q2 q4 q4 k) (f4 r0 r2 r4 r4 k) && sh7 (f4 q1 q3 q5 q5 k) (f4 r1 r3 r5 r5 k)) 3) = true) :
  (∃ E : Int, ¬ E = 0 ∧ ∀ w1, Calls Tryz.prog 18 #[.agg #[.bool n0, .string s0, .string d0, .bool n1, .string s1, .string d1, .bool n2, .string s2, .string d2, .bool n3, .string s3, .string d3, .bool n4, .string s4, .string d4, .bool n5, .string s5, .string d5], .agg #[.bool p0, .string q0, .string r0, .bool p1, .string q1, .string r1, .bool p2, .string q2, .string r2, .bool p3, .string q3, .string r3, .bool p4, .string q4, .string r4, .bool p5, .string q5, .string r5]] w1 (Re w1 (.int .i64 E))) ∨
  (∃ y0 y1 y2 y3 y4 y5 x0 z0 x1 z1 x2 z2 : Rat, .agg #[.bool n0, .string s0, .string d0, .bool n1, .string s1, .string d1, .bool n2, .string s2, .string d2, .bool n3, .string s3, .string d3, .bool n4, .string s4, .string d4, .bool n5, .string s5, .string d5] = fq6 (six y0 y1 y2 y3 y4 y5) ∧ .agg #[.bool p0, .string q0, .string r0, .bool p1, .string q1, .string r1, .bool p2, .string q2, .string r2, .bool p3, .string q3, .string r3, .bool p4, .string q4, .string r4, .bool p5, .string q5, .string r5] = t18 x0 z0 x1 z1 x2 z2 ∧ (∀ k, k < 6 → Bq (six y0 y1 y2 y3 y4 y5 k) 30) ∧ (Bq x0 30 ∧ Bq z0 30 ∧ Bq x1 30 ∧ Bq z1 30 ∧ Bq x2 30 ∧ Bq z2 30) ∧ ((x1 - x0) * (z2 - z0) - (z1 - z0) * (x2 - x0)) ≠ 0 ∧
   ∀ w1, Calls Tryz.prog 18 #[fq6 (six y0 y1 y2 y3 y4 y5), t18 x0 z0 x1 z1 x2 z2] w1 (Re w1 (.int .i64 0))) := by
 rw [Bool.and_eq_true] at h
 have zf : ∀ k, k < 6 → (six6 s0 s1 s2 s3 s4 s5 k).size ≤ 30 ∧ (six6 d0 d1 d2 d3 d4 d5 k).size ≤ 30 := fun k hk => sh7_sz (allB_all h.1 k hk)
 have zp : ∀ k, k < 3 → ((f4 q0 q2 q4 q4 k).size ≤ 30 ∧ (f4 r0 r2 r4 r4 k).size ≤ 30) ∧ ((f4 q1 q3 q5 q5 k).size ≤ 30 ∧ (f4 r1 r3 r5 r5 k).size ≤ 30) := fun k hk => by
  have := allB_all h.2 k hk
  rw [Bool.and_eq_true] at this
  exact ⟨sh7_sz this.1, sh7_sz this.2⟩
 clear h
 have HC : ∀ w1, Calls Tryz.prog 11 #[.agg #[.bool n0, .string s0, .string d0, .bool n1, .string s1, .string d1, .bool n2, .string s2, .string d2, .bool n3, .string s3, .string d3, .bool n4, .string s4, .string d4, .bool n5, .string s5, .string d5]] w1 (Re w1 (.int .i64 (firstE (fun k => chkq (six6 n0 n1 n2 n3 n4 n5 k) (six6 s0 s1 s2 s3 s4 s5 k) (six6 d0 d1 d2 d3 d4 d5 k)) 6 : Nat))) := fun w1 =>
  rcheck7 (six6 n0 n1 n2 n3 n4 n5) (six6 s0 s1 s2 s3 s4 s5) (six6 d0 d1 d2 d3 d4 d5) w1 (fun k hk => ⟨by have := (zf k hk).1; omega, by have := (zf k hk).2; omega⟩)
 have HA : ∀ w1 B, Cel w1 B [.bool p0, .string q0, .string r0, .bool p1, .string q1, .string r1, .bool p2, .string q2, .string r2, .bool p3, .string q3, .string r3, .bool p4, .string q4, .string r4, .bool p5, .string q5, .string r5] 30 → Calls Tryz.prog 13 #[.slice (some ⟨B, 0, none⟩) 3 3] w1 (Re w1 (.int .i64 (firstE (fun k => two (chkq (f4 p0 p2 p4 p4 k) (f4 q0 q2 q4 q4 k) (f4 r0 r2 r4 r4 k)) (chkq (f4 p1 p3 p5 p5 k) (f4 q1 q3 q5 q5 k) (f4 r1 r3 r5 r5 k))) 3 : Nat))) := fun w1 B kl =>
  asked7 (some ⟨B, 0, none⟩) 3 3 (f4 p0 p2 p4 p4) (f4 p1 p3 p5 p5) (f4 q0 q2 q4 q4) (f4 r0 r2 r4 r4) (f4 q1 q3 q5 q5) (f4 r1 r3 r5 r5) w1 (by omega) (rdpt_f (P := f4 p0 p2 p4 p4) (P' := f4 p1 p3 p5 p5) (Q := f4 q0 q2 q4 q4) (R := f4 r0 r2 r4 r4) (Q' := f4 q1 q3 q5 q5) (R' := f4 r1 r3 r5 r5) kl) (fun k hk => ⟨⟨by have := (zp k hk).1.1; omega, by have := (zp k hk).1.2; omega⟩, ⟨by have := (zp k hk).2.1; omega, by have := (zp k hk).2.2; omega⟩⟩)
 by_cases h1 : firstE (fun k => chkq (six6 n0 n1 n2 n3 n4 n5 k) (six6 s0 s1 s2 s3 s4 s5 k) (six6 d0 d1 d2 d3 d4 d5 k)) 6 = 0
 ·rw [h1] at HC
  by_cases h2 : firstE (fun k => two (chkq (f4 p0 p2 p4 p4 k) (f4 q0 q2 q4 q4 k) (f4 r0 r2 r4 r4 k)) (chkq (f4 p1 p3 p5 p5 k) (f4 q1 q3 q5 q5 k) (f4 r1 r3 r5 r5 k))) 3 = 0
  ·rw [h2] at HA
   have a := firstE_zero h1
   have b := firstE_zero h2
   clear h1 h2
   obtain ⟨y0, c0, rfl, rfl, rfl⟩ := canon (a 0 (by omega)) (zf 0 (by omega))
   obtain ⟨y1, c1, rfl, rfl, rfl⟩ := canon (a 1 (by omega)) (zf 1 (by omega))
   obtain ⟨y2, c2, rfl, rfl, rfl⟩ := canon (a 2 (by omega)) (zf 2 (by omega))
   obtain ⟨y3, c3, rfl, rfl, rfl⟩ := canon (a 3 (by omega)) (zf 3 (by omega))
   obtain ⟨y4, c4, rfl, rfl, rfl⟩ := canon (a 4 (by omega)) (zf 4 (by omega))
   obtain ⟨y5, c5, rfl, rfl, rfl⟩ := canon (a 5 (by omega)) (zf 5 (by omega))
   obtain ⟨x0, bx0, rfl, rfl, rfl⟩ := canon (two_zero.1 (b 0 (by omega))).1 (zp 0 (by omega)).1
   obtain ⟨z0, bz0, rfl, rfl, rfl⟩ := canon (two_zero.1 (b 0 (by omega))).2 (zp 0 (by omega)).2
   obtain ⟨x1, bx1, rfl, rfl, rfl⟩ := canon (two_zero.1 (b 1 (by omega))).1 (zp 1 (by omega)).1
   obtain ⟨z1, bz1, rfl, rfl, rfl⟩ := canon (two_zero.1 (b 1 (by omega))).2 (zp 1 (by omega)).2
   obtain ⟨x2, bx2, rfl, rfl, rfl⟩ := canon (two_zero.1 (b 2 (by omega))).1 (zp 2 (by omega)).1
   obtain ⟨z2, bz2, rfl, rfl, rfl⟩ := canon (two_zero.1 (b 2 (by omega))).2 (zp 2 (by omega)).2
   clear a b zf zp
   have hr : ∀ k, k < 6 → Bq (six y0 y1 y2 y3 y4 y5 k) 30 := fun k hk => by
    match k, hk with
    | 0, _ => exact c0
    | 1, _ => exact c1
    | 2, _ => exact c2
    | 3, _ => exact c3
    | 4, _ => exact c4
    | 5, _ => exact c5
   have HO : ∀ w1, Calls Tryz.prog 44 #[pq x0 z0, pq x1 z1, pq x2 z2] w1 (Re w1 (.int .i64 (Gm.sg (Gm.cr x0 z0 x1 z1 x2 z2)))) := fun w1 => rorientI x0 z0 x1 z1 x2 z2 (K := 30) (by omega) bx0 bz0 bx1 bz1 bx2 bz2 w1
   by_cases hA : ((x1 - x0) * (z2 - z0) - (z1 - z0) * (x2 - x0)) = 0
   ·refine Or.inl ⟨6, by omega, fun w1 => ?_⟩
    exact three_fl _ _ _ _ _ _ _ _ _ _ _ _ _ _ _ _ _ _ _ _ _ _ _ _ _ _ _ _ _ _ _ _ _ _ _ _ w1 (fun w2 _ => HC w2) (fun w2 B _ kl => HA w2 B kl) (fun w2 _ => by
     have := HO w2
     rw [show Gm.sg (Gm.cr x0 z0 x1 z1 x2 z2) = 0 from Gm.sg_eq_zero.2 hA] at this
     exact this)
   ·refine Or.inr ⟨y0, y1, y2, y3, y4, y5, x0, z0, x1, z1, x2, z2, rfl, rfl, hr, ⟨bx0, bz0, bx1, bz1, bx2, bz2⟩, hA, fun w1 => ?_⟩
    exact three_ok _ _ _ _ _ _ _ _ _ _ _ _ _ _ _ _ _ _ _ _ _ _ _ _ _ _ _ _ _ _ _ _ _ _ _ _ (Gm.sg (Gm.cr x0 z0 x1 z1 x2 z2)) (fun q => hA (Gm.sg_eq_zero.1 q)) w1 (fun w2 _ => HC w2) (fun w2 B _ kl => HA w2 B kl) (fun w2 _ => HO w2)
  ·exact Or.inl ⟨_, fun q => h2 (by omega), fun w1 => three_e2 _ _ _ _ _ _ _ _ _ _ _ _ _ _ _ _ _ _ _ _ _ _ _ _ _ _ _ _ _ _ _ _ _ _ _ _ _ (fun q => h2 (by omega)) w1 (fun w2 _ => HC w2) (fun w2 B _ kl => HA w2 B kl)⟩
 ·exact Or.inl ⟨_, fun q => h1 (by omega), fun w1 => three_e1 _ _ _ _ _ _ _ _ _ _ _ _ _ _ _ _ _ _ _ _ _ _ _ _ _ _ _ _ _ _ _ _ _ _ _ _ _ (fun q => h1 (by omega)) w1 (fun w2 _ => HC w2)⟩
theorem node_bd {r s : Nat → Rat} {K : Nat} (hr : ∀ k, k < 6 → Bq (r k) K) (hs : ∀ k, k < 6 → Bq (s k) K) {k : Nat} (hk : k < 6) : Bd (nodeV (zu r 6) (zu s 6) (((um s 6 : Nat) : Int) + ((um s 6 : Nat) : Int)) k) (K * 21 + 21) := by
 unfold nodeV
 have hz : ∀ q, q < 6 → Bd (zu s 6 q) (K + (K * 6 + 1)) := fun q hq => zu_bd hs hq
 have hc : ∀ q, q < 6 → Bd (zu r 6 q) (K * 7 + 5) := fun q hq => (zu_bd hr hq).mono (by omega)
 have hX := wsum_bd (V := zu s 6) (W := ndW k) 3 (fun q hq => hz q (by omega)) (fun q hq => nd_one k hk q hq)
 have hY := wsum_bd (V := fun q => zu s 6 (3 + q)) (W := ndW k) 3 (fun q hq => hz (3 + q) (by omega)) (fun q hq => nd_one k hk q hq)
 have ht : Bd ((um s 6 : Nat) : Int) (K * 6 + 1) := um_bd hs
 exact (at_bd (A := K * 7 + 5) (B := K * 7 + 5) (hc 0 (by omega)) (hc 1 (by omega)) (hc 2 (by omega)) (hc 3 (by omega)) (hc 4 (by omega)) (hc 5 (by omega)) (hX.mono (by omega)) (hY.mono (by omega)) ((ht.add ht).mono (by omega))).mono (by omega)
theorem unit_bd {r s : Nat → Rat} {K : Nat} (hr : ∀ k, k < 6 → Bq (r k) K) (hs : ∀ k, k < 6 → Bq (s k) K) : Bd (((um r 6 : Nat) : Int) * ((((um s 6 : Nat) : Int) + ((um s 6 : Nat) : Int)) * (((um s 6 : Nat) : Int) + ((um s 6 : Nat) : Int)))) (K * 18 + 5) := by
 have ht : Bd ((um s 6 : Nat) : Int) (K * 6 + 1) := um_bd hs
 exact ((um_bd hr).mul ((ht.add ht).mul (ht.add ht))).mono (by omega)
theorem unit_ne (r s : Nat → Rat) : ((um r 6 : Nat) : Int) * ((((um s 6 : Nat) : Int) + ((um s 6 : Nat) : Int)) * (((um s 6 : Nat) : Int) + ((um s 6 : Nat) : Int))) ≠ 0 := by
 have h1 := upn r 6
 have h2 := upn s 6
 have h3 : 0 < ((um s 6 : Nat) : Int) + ((um s 6 : Nat) : Int) := by omega
 exact Int.ne_of_gt (Int.mul_pos h1 (Int.mul_pos h3 h3))
theorem lsum_bq {r s : Nat → Rat} {K : Nat} (hr : ∀ k, k < 6 → Bq (r k) K) (hs : ∀ k, k < 6 → Bq (s k) K) {W : Nat → Int} (hW : ∀ j, j < 6 → -100 ≤ W j ∧ W j ≤ 100) : Bq (lsum W (Fn r s)) (K * 21 + 28) := by
 have bV := wsum_bd (V := nodeV (zu r 6) (zu s 6) (((um s 6 : Nat) : Int) + ((um s 6 : Nat) : Int))) (W := W) 6 (fun k hk => node_bd hr hs hk) (fun k hk => Bd.one (by have := (hW k hk).1; omega) (by have := (hW k hk).2; omega))
 have c := wsum_cast (W := W) (F := Fn r s) (fun k _ => Lns.cast (r := r) (s := s) k)
 rw [← Rat.intCast_mul, ← Rat.intCast_mul] at c
 exact bq_ratio (unit_ne r s) c (bV.mono (by omega)) ((unit_bd hr hs).mono (by omega))
theorem rabs_bq {x : Rat} {K : Nat} (h : Bq x K) : Bq (rabs x) K := by
 unfold rabs
 exact vq_mk x.den_pos h.1.abs h.2
theorem area_bqK (x0 y0 x1 y1 x2 y2 : Rat) {K : Nat} (b0 : Bq x0 K) (b1 : Bq y0 K) (b2 : Bq x1 K) (b3 : Bq y1 K) (b4 : Bq x2 K) (b5 : Bq y2 K) : Bq ((x1 - x0) * (y2 - y0) - (y1 - y0) * (x2 - x0)) (K * 8 + 5) := bq_mono (vqm_sub (vqm_mul (vqm_sub b2 b0) (vqm_sub b5 b1)) (vqm_mul (vqm_sub b3 b1) (vqm_sub b4 b0))) (by omega)
theorem bq_unit (n : Nat) (h : 0 < n) (h2 : n ≤ 1000) : Bq (Rat.divInt 1 (n : Nat)) 2 := by
 refine bq_divI (by omega) ?_ ?_ <;> unfold Bd <;> omega
theorem live7_walk (n10 n11 n12 n13 n14 n15 n16 n17 n18 n19 n30 n31 n32 n33 n34 n35 n40 n41 n42 n43 n44 n45 : Bool) (s10 d10 s11 d11 s12 d12 s13 d13 s14 d14 s15 d15 s16 d16 s17 d17 s18 d18 s19 d19 s30 d30 s31 d31 s32 d32 s33 d33 s34 d34 s35 d35 s40 d40 s41 d41 s42 d42 s43 d43 s44 d44 s45 d45 : ByteArray) (xN yN : Bool) (xS xD yS yD : ByteArray) (w : World)
  (A00 : Hid (∀ w1, Calls Tryz.prog 31 #[.int .i64 0, .int .i64 0] w1 (Re w1 (.agg #[.bool n10, .string s10, .string d10, .bool n11, .string s11, .string d11]))))
  (A20 : Hid (∀ w1, Calls Tryz.prog 31 #[.int .i64 2, .int .i64 0] w1 (Re w1 (.agg #[.bool n12, .string s12, .string d12, .bool n13, .string s13, .string d13]))))
  (A02 : Hid (∀ w1, Calls Tryz.prog 31 #[.int .i64 0, .int .i64 2] w1 (Re w1 (.agg #[.bool n14, .string s14, .string d14, .bool n15, .string s15, .string d15]))))
  (A10 : Hid (∀ w1, Calls Tryz.prog 31 #[.int .i64 1, .int .i64 0] w1 (Re w1 (.agg #[.bool n16, .string s16, .string d16, .bool n17, .string s17, .string d17]))))
  (A01 : Hid (∀ w1, Calls Tryz.prog 31 #[.int .i64 0, .int .i64 1] w1 (Re w1 (.agg #[.bool n18, .string s18, .string d18, .bool n19, .string s19, .string d19]))))
  (S1 : Hid (∀ w1, Calls Tryz.prog 30 #[.agg #[.int .i64 0, .int .i64 1, .int .i64 0, .int .i64 0, .int .i64 0, .int .i64 0]] w1 (Re w1 (.agg #[.bool n30, .string s30, .string d30, .bool n31, .string s31, .string d31, .bool n32, .string s32, .string d32, .bool n33, .string s33, .string d33, .bool n34, .string s34, .string d34, .bool n35, .string s35, .string d35]))))
  (S2 : Hid (∀ w1, Calls Tryz.prog 30 #[.agg #[.int .i64 1, .int .i64 0, .int .i64 0, .int .i64 0, .int .i64 0, .int .i64 0]] w1 (Re w1 (.agg #[.bool n40, .string s40, .string d40, .bool n41, .string s41, .string d41, .bool n42, .string s42, .string d42, .bool n43, .string s43, .string d43, .bool n44, .string s44, .string d44, .bool n45, .string s45, .string d45]))))
  (F1 : Hid (∀ w1, Calls Tryz.prog 27 #[.int .i64 4, .int .i64 3] w1 (Re w1 (.agg #[.bool xN, .string xS, .string xD]))))
  (F2 : Hid (∀ w1, Calls Tryz.prog 27 #[.int .i64 1, .int .i64 12] w1 (Re w1 (.agg #[.bool yN, .string yS, .string yD]))))
  (C1 : Hid (∀ w1, Below w.heap.size w w1 → Calls Tryz.prog 15 #[.agg #[.bool n30, .string s30, .string d30, .bool n31, .string s31, .string d31, .bool n32, .string s32, .string d32, .bool n33, .string s33, .string d33, .bool n34, .string s34, .string d34, .bool n35, .string s35, .string d35], .agg #[.bool n10, .string s10, .string d10, .bool n11, .string s11, .string d11], .agg #[.bool n12, .string s12, .string d12, .bool n13, .string s13, .string d13], .agg #[.bool n14, .string s14, .string d14, .bool n15, .string s15, .string d15]] w1 (Re w1 (.tuple #[.agg #[.bool xN, .string xS, .string xD], .int .i64 0]))))
  (C2 : Hid (∀ w1, Below w.heap.size w w1 → Calls Tryz.prog 17 #[.agg #[.bool n30, .string s30, .string d30, .bool n31, .string s31, .string d31, .bool n32, .string s32, .string d32, .bool n33, .string s33, .string d33, .bool n34, .string s34, .string d34, .bool n35, .string s35, .string d35], .agg #[.bool n10, .string s10, .string d10, .bool n11, .string s11, .string d11], .agg #[.bool n16, .string s16, .string d16, .bool n17, .string s17, .string d17], .agg #[.bool n18, .string s18, .string d18, .bool n19, .string s19, .string d19]] w1 (Re w1 (.tuple #[.agg #[.bool yN, .string yS, .string yD], .int .i64 0]))))
  (C3 : Hid (∀ w1, Below w.heap.size w w1 → Calls Tryz.prog 16 #[.agg #[.bool n40, .string s40, .string d40, .bool n41, .string s41, .string d41, .bool n42, .string s42, .string d42, .bool n43, .string s43, .string d43, .bool n44, .string s44, .string d44, .bool n45, .string s45, .string d45], .agg #[.bool n10, .string s10, .string d10, .bool n11, .string s11, .string d11], .agg #[.bool n16, .string s16, .string d16, .bool n17, .string s17, .string d17], .agg #[.bool n12, .string s12, .string d12, .bool n13, .string s13, .string d13]] w1 (Re w1 (.tuple #[.agg #[.bool false, .string { data := #[] }, .string { data := #[] }, .bool false, .string { data := #[] }, .string { data := #[] }, .bool false, .string { data := #[] }, .string { data := #[] }], .int .i64 6])))) :
  Calls Tryz.prog 9 #[] w (Re w (.bool true)) := by
 go_enter Tryz.func9, Tryz.ntmps9
 have bb := Below.refl w.heap.size w
 go_wp2_with fail
 go_fit (S1.out _)
 rintro e w1 ⟨rfl, b1⟩
 replace bb := Below.after bb b1
 clear b1
 go_wp2_with fail
 go_fit (A00.out _)
 rintro e w2 ⟨rfl, b1⟩
 replace bb := Below.after bb b1
 clear b1
 go_wp2_with fail
 go_fit (A20.out _)
 rintro e w3 ⟨rfl, b1⟩
 replace bb := Below.after bb b1
 clear b1
 go_wp2_with fail
 go_fit (A02.out _)
 rintro e w4 ⟨rfl, b1⟩
 replace bb := Below.after bb b1
 clear b1
 go_wp2_with fail
 go_fit (C1.out _ bb)
 rintro e w5 ⟨rfl, b1⟩
 replace bb := Below.after bb b1
 clear b1
 go_wp2_with fail
 obtain ⟨x5, hw, kc, b1⟩ := mk1 w5 [.bool xN, .string xS, .string xD] 26
 rw [← hw]
 clear hw
 replace bb := Below.after bb b1
 clear b1
 go_wp2_with fail
 go_fit (S1.out _)
 rintro e w6 ⟨rfl, b1⟩
 replace kc := kc.below b1
 replace bb := Below.after bb b1
 clear b1
 go_wp2_with fail
 go_fit (A00.out _)
 rintro e w7 ⟨rfl, b1⟩
 replace kc := kc.below b1
 replace bb := Below.after bb b1
 clear b1
 go_wp2_with fail
 go_fit (A10.out _)
 rintro e w8 ⟨rfl, b1⟩
 replace kc := kc.below b1
 replace bb := Below.after bb b1
 clear b1
 go_wp2_with fail
 go_fit (A01.out _)
 rintro e w9 ⟨rfl, b1⟩
 replace kc := kc.below b1
 replace bb := Below.after bb b1
 clear b1
 go_wp2_with fail
 go_fit (C2.out _ bb)
 rintro e w10 ⟨rfl, b1⟩
 replace kc := kc.below b1
 replace bb := Below.after bb b1
 clear b1
 go_wp2_with fail
 obtain ⟨x10, hw, kn, b1⟩ := mk1 w10 [.bool yN, .string yS, .string yD] 26
 rw [← hw]
 clear hw
 replace kc := kc.below b1
 replace bb := Below.after bb b1
 clear b1
 go_wp2_with fail
 go_fit (S2.out _)
 rintro e w11 ⟨rfl, b1⟩
 replace kc := kc.below b1
 replace kn := kn.below b1
 replace bb := Below.after bb b1
 clear b1
 go_wp2_with fail
 go_fit (A00.out _)
 rintro e w12 ⟨rfl, b1⟩
 replace kc := kc.below b1
 replace kn := kn.below b1
 replace bb := Below.after bb b1
 clear b1
 go_wp2_with fail
 go_fit (A10.out _)
 rintro e w13 ⟨rfl, b1⟩
 replace kc := kc.below b1
 replace kn := kn.below b1
 replace bb := Below.after bb b1
 clear b1
 go_wp2_with fail
 go_fit (A20.out _)
 rintro e w14 ⟨rfl, b1⟩
 replace kc := kc.below b1
 replace kn := kn.below b1
 replace bb := Below.after bb b1
 clear b1
 go_wp2_with fail
 go_fit (C3.out _ bb)
 rintro e w15 ⟨rfl, b1⟩
 replace kc := kc.below b1
 replace kn := kn.below b1
 replace bb := Below.after bb b1
 clear b1
 go_wp2_with fail
 obtain ⟨x15, hw, kz, b1⟩ := mk1 w15 [.bool false, .string { data := #[] }, .string { data := #[] }, .bool false, .string { data := #[] }, .string { data := #[] }, .bool false, .string { data := #[] }, .string { data := #[] }] 43
 rw [← hw]
 clear hw
 replace kc := kc.below b1
 replace kn := kn.below b1
 replace bb := Below.after bb b1
 clear b1
 clear kz
 have bd := bdrew x15
 replace kc := kc.below bd
 replace kn := kn.below bd
 replace bb := Below.after bb bd
 clear bd
 refine wp_region_held_drew (S := fun w' => xc3 w' w5.heap.size (.bool xN) (.string xS) (.string xD) ∧ xc3 w' w10.heap.size (.bool yN) (.string yS) (.string yD)) (by kernel_rfl) ⟨xk3 kc, xk3 kn⟩ (fun hS => ?_)
 refine WA.start (n := 21) (by kernel_rfl) ?_
 refine WA.tp 0 rfl ?_
 refine WA.cal 1 rfl (fun K hK => ?_)
 simp only [List.getElem_toArray, List.getElem_cons_succ, List.getElem_cons_zero]
 go_simp
 go_fit (F1.out _)
 rintro e wn ⟨rfl, bn⟩
 replace kc := kc.below bn
 replace kn := kn.below bn
 replace bb := Below.after bb bn
 try go_wp2_with fail
 clear hS
 refine hK.out _ _ ⟨xk3 kc, xk3 kn⟩ (fun hS => ?_)
 clear hK K bn
 refine WA.tp 2 rfl ?_
 refine WA.tp 3 rfl ?_
 refine WA.tp 4 rfl ?_
 refine WA.tp 5 rfl ?_
 refine WA.tp 6 rfl ?_
 refine WA.tp 7 rfl ?_
 refine WA.tp 8 rfl ?_
 refine WA.cal 9 rfl (fun K hK => ?_)
 simp only [List.getElem_toArray, List.getElem_cons_succ, List.getElem_cons_zero]
 go_simp
 go_fit (F2.out _)
 rintro e wn ⟨rfl, bn⟩
 replace kc := kc.below bn
 replace kn := kn.below bn
 replace bb := Below.after bb bn
 try go_wp2_with fail
 clear hS
 refine hK.out _ _ ⟨xk3 kc, xk3 kn⟩ (fun hS => ?_)
 clear hK K bn
 refine WA.tp 10 rfl ?_
 refine WA.tp 11 rfl ?_
 refine WA.tp 12 rfl ?_
 refine WA.tp 13 rfl ?_
 refine WA.tp 14 rfl ?_
 refine WA.tp 15 rfl ?_
 refine WA.tp 16 rfl ?_
 refine WA.tp 17 rfl ?_
 refine WA.tp 18 rfl ?_
 refine WA.tp 19 rfl ?_
 refine WA.tp 20 rfl ?_
 refine WA.done (by kernel_rfl) ?_
 clear hS
 go_wp2
 go_ret
 exact ⟨rfl, bb⟩
theorem fq6_int (l : Nat → Int) : fq6 (fun k => ((l k : Int) : Rat)) = .agg #[.bool (nfZ (l 0)), .string (sfZ (l 0)), .string ⟨#[1]⟩, .bool (nfZ (l 1)), .string (sfZ (l 1)), .string ⟨#[1]⟩, .bool (nfZ (l 2)), .string (sfZ (l 2)), .string ⟨#[1]⟩, .bool (nfZ (l 3)), .string (sfZ (l 3)), .string ⟨#[1]⟩, .bool (nfZ (l 4)), .string (sfZ (l 4)), .string ⟨#[1]⟩, .bool (nfZ (l 5)), .string (sfZ (l 5)), .string ⟨#[1]⟩] := by
 have e : strOf 1 = ⟨#[1]⟩ := by decide +kernel
 simp only [fq6, Rat.num_intCast, Rat.den_intCast, e]
def l1 (k : Nat) : Int := match k with | 1 => 1 | _ => 0
def l2 (k : Nat) : Int := match k with | 0 => 1 | _ => 0
theorem bl_l1 : ∀ k, k < 6 → Bq ((l1 k : Int) : Rat) 1 := fun k _ => bq_int _ (by unfold l1; split <;> omega) (by unfold l1; split <;> omega)
theorem bl_l2 : ∀ k, k < 6 → Bq ((l2 k : Int) : Rat) 1 := fun k _ => bq_int _ (by unfold l2; split <;> omega) (by unfold l2; split <;> omega)
theorem frac7I (N M : Int) (h1 : 0 < M) (h2 : M ≤ 1000) (h3 : 0 ≤ N) (h4 : N ≤ 1000) (w : World) : Calls Tryz.prog 27 #[.int .i64 N, .int .i64 M] w (Re w (rq (Rat.divInt N M))) := by
 have bb : ∀ z : Int, 0 ≤ z → z ≤ 1000 → Bd z 2 := fun z a b => by unfold Bd; omega
 refine frac6_walk N M (nfZ N) (nfZ M) (sfZ N) (sfZ M) _ _ _ w (fun w1 _ => rof_any N (by omega) (by omega) w1) (fun w1 _ => rof_any M (by omega) (by omega) w1) (fun w1 _ => ?_)
 have := low_any (nfZ N) (nfZ M) (sfZ N) (sfZ M) w1 (okZ_nz N) (okZ_nz M) (Nat.le_trans (bd_sf (bb N h3 (by omega))) (by omega)) (Nat.le_trans (bd_sf (bb M (by omega) h2)) (by omega)) (by rw [natOf_sfZ]; omega)
 rw [zOf_nz, zOf_nz] at this
 exact this
theorem live7_any (w : World) (hT : Tab w) (hP : PTab w) : Calls Tryz.prog 9 #[] w (Re w (.bool true)) := by
 refine live7_walk (nfZ 0) (nfZ 0) (nfZ 2) (nfZ 0) (nfZ 0) (nfZ 2) (nfZ 1) (nfZ 0) (nfZ 0) (nfZ 1) (nfZ (l1 0)) (nfZ (l1 1)) (nfZ (l1 2)) (nfZ (l1 3)) (nfZ (l1 4)) (nfZ (l1 5)) (nfZ (l2 0)) (nfZ (l2 1)) (nfZ (l2 2)) (nfZ (l2 3)) (nfZ (l2 4)) (nfZ (l2 5)) (sfZ 0) ⟨#[1]⟩ (sfZ 0) ⟨#[1]⟩ (sfZ 2) ⟨#[1]⟩ (sfZ 0) ⟨#[1]⟩ (sfZ 0) ⟨#[1]⟩ (sfZ 2) ⟨#[1]⟩ (sfZ 1) ⟨#[1]⟩ (sfZ 0) ⟨#[1]⟩ (sfZ 0) ⟨#[1]⟩ (sfZ 1) ⟨#[1]⟩ (sfZ (l1 0)) ⟨#[1]⟩ (sfZ (l1 1)) ⟨#[1]⟩ (sfZ (l1 2)) ⟨#[1]⟩ (sfZ (l1 3)) ⟨#[1]⟩ (sfZ (l1 4)) ⟨#[1]⟩ (sfZ (l1 5)) ⟨#[1]⟩ (sfZ (l2 0)) ⟨#[1]⟩ (sfZ (l2 1)) ⟨#[1]⟩ (sfZ (l2 2)) ⟨#[1]⟩ (sfZ (l2 3)) ⟨#[1]⟩ (sfZ (l2 4)) ⟨#[1]⟩ (sfZ (l2 5)) ⟨#[1]⟩ (nfZ (Rat.divInt 4 3).num) (nfZ (Rat.divInt 1 12).num) (sfZ (Rat.divInt 4 3).num) (strOf (Rat.divInt 4 3).den) (sfZ (Rat.divInt 1 12).num) (strOf (Rat.divInt 1 12).den) w ?_ ?_ ?_ ?_ ?_ ?_ ?_ ?_ ?_ ?_ ?_ ?_
 ·exact fun w1 => lat7_any 0 0 (by omega) (by omega) (by omega) (by omega) w1
 ·exact fun w1 => lat7_any 2 0 (by omega) (by omega) (by omega) (by omega) w1
 ·exact fun w1 => lat7_any 0 2 (by omega) (by omega) (by omega) (by omega) w1
 ·exact fun w1 => lat7_any 1 0 (by omega) (by omega) (by omega) (by omega) w1
 ·exact fun w1 => lat7_any 0 1 (by omega) (by omega) (by omega) (by omega) w1
 ·exact fun w1 => small7_walk l1 w1 (fun k w2 hk => roq_any _ (by unfold l1; split <;> omega) (by unfold l1; split <;> omega) w2)
 ·exact fun w1 => small7_walk l2 w1 (fun k w2 hk => roq_any _ (by unfold l2; split <;> omega) (by unfold l2; split <;> omega) w2)
 ·exact fun w1 => frac7I 4 3 (by omega) (by omega) (by omega) (by omega) w1
 ·exact fun w1 => frac7I 1 12 (by omega) (by omega) (by omega) (by omega) w1
 ·intro w1 b
  have := intI (fun k => ((l1 k : Int) : Rat)) ((0 : Int) : Rat) ((0 : Int) : Rat) ((2 : Int) : Rat) ((0 : Int) : Rat) ((0 : Int) : Rat) ((2 : Int) : Rat) (by omega : 1 ≤ 100) (bl_l1) (bq_int 0 (by omega) (by omega)) (bq_int 0 (by omega) (by omega)) (bq_int 2 (by omega) (by omega)) (bq_int 0 (by omega) (by omega)) (bq_int 0 (by omega) (by omega)) (bq_int 2 (by omega) (by omega)) w1 (hT.below b) (hP.below b) (by decide +kernel) (x := (Rat.divInt 4 3)) (by decide +kernel)
  simp only [pq_int, fq6_int] at this
  exact this
 ·intro w1 b
  have := squI (fun k => ((l1 k : Int) : Rat)) ((0 : Int) : Rat) ((0 : Int) : Rat) ((1 : Int) : Rat) ((0 : Int) : Rat) ((0 : Int) : Rat) ((1 : Int) : Rat) (by omega : 1 ≤ 100) (bl_l1) (bq_int 0 (by omega) (by omega)) (bq_int 0 (by omega) (by omega)) (bq_int 1 (by omega) (by omega)) (bq_int 0 (by omega) (by omega)) (bq_int 0 (by omega) (by omega)) (bq_int 1 (by omega) (by omega)) w1 (hT.below b) (hP.below b) (by decide +kernel) (x := (Rat.divInt 1 12)) (by decide +kernel)
  simp only [pq_int, fq6_int] at this
  exact this
 ·intro w1 b
  have := lod_flat (fun k => ((l2 k : Int) : Rat)) ((0 : Int) : Rat) ((0 : Int) : Rat) ((1 : Int) : Rat) ((0 : Int) : Rat) ((2 : Int) : Rat) ((0 : Int) : Rat) (by omega : 1 ≤ 100) (bl_l2) (bq_int 0 (by omega) (by omega)) (bq_int 0 (by omega) (by omega)) (bq_int 1 (by omega) (by omega)) (bq_int 0 (by omega) (by omega)) (bq_int 2 (by omega) (by omega)) (bq_int 0 (by omega) (by omega)) w1 (hT.below b) (by decide +kernel)
  simp only [pq_int, fq6_int] at this
  exact this
end Go.Proofs.YtbafjmjcepcckaaGreatDoor
