/-
  Package poly: Eval, in its one form.
  Package poly: samples in their one form.
  Package poly: sampleOf, Integral, Square in their one form.
-/
import Derived.Deep.CutBlock
import Derived.Test.YtphpoknionnnfaaGreatDoorL41
import Derived.Test.YtphpoknionnnfaaGreatDoorL42
namespace Go.Proofs.YtphpoknionnnfaaGreatDoor
open Go.RowKit
abbrev fq6 (r : Nat → Rat) : Value := .agg #[.bool (nfZ (r 0).num), .string (sfZ (r 0).num), .string (strOf (r 0).den), .bool (nfZ (r 1).num), .string (sfZ (r 1).num), .string (strOf (r 1).den), .bool (nfZ (r 2).num), .string (sfZ (r 2).num), .string (strOf (r 2).den), .bool (nfZ (r 3).num), .string (sfZ (r 3).num), .string (strOf (r 3).den), .bool (nfZ (r 4).num), .string (sfZ (r 4).num), .string (strOf (r 4).den), .bool (nfZ (r 5).num), .string (sfZ (r 5).num), .string (strOf (r 5).den)]
def ev (r : Nat → Rat) (x y : Rat) : Rat := (r 0 + r 1 * x + r 2 * y) + (r 3 * x + r 4 * y) * x + r 5 * y * y
def zu (r : Nat → Rat) (n q : Nat) : Int := (r q).num * ((um r n / (r q).den : Nat) : Int)
theorem zu_cast (r : Nat → Rat) {n q : Nat} (h : q < n) : ((zu r n q : Int) : Rat) = ((um r n : Nat) : Rat) * r q := um_num r h
theorem zu_bd {r : Nat → Rat} {K n q : Nat} (hb : ∀ k, k < n → Bq (r k) K) (h : q < n) : Bd (zu r n q) (K + (K * n + 1)) := (hb q h).1.mul ((um_bd hb).nat (Nat.div_le_self _ _))
theorem upn (r : Nat → Rat) (n : Nat) : (0 : Int) < ((um r n : Nat) : Int) := by have := um_pos r n; omega
theorem tw3_prod (a b c : Int) : zprod (tw3 a b c) 3 = (a * (b * c)).natAbs := by
 rw [Int.natAbs_mul, Int.natAbs_mul]
 show a.natAbs * (b.natAbs * (c.natAbs * 1)) = _
 rw [Nat.mul_one]
theorem chk6 {r : Nat → Rat} {K : Nat} (hK : K ≤ 100) (hb : ∀ k, k < 6 → Bq (r k) K) : firstE (fun k => chkq (nfZ (r k).num) (sfZ (r k).num) (strOf (r k).den)) 6 = 0 := by
 have h : ∀ k, k < 6 → chkq (nfZ (r k).num) (sfZ (r k).num) (strOf (r k).den) = 0 := fun k hk => chk_can8 (r k) (by omega) (hb k hk)
 have : ∀ n, n ≤ 6 → firstE (fun k => chkq (nfZ (r k).num) (sfZ (r k).num) (strOf (r k).den)) n = 0 := fun n => by
  induction n with
  | zero => intro _; rfl
  | succ n ih => intro hn; unfold firstE; rw [if_pos (ih (by omega))]; exact h n (by omega)
 exact this 6 (Nat.le_refl _)
theorem rdpt_1p {w : World} {B : Nat} {t : TypeId} {n0 n1 : Bool} {s0 d0 s1 d1 : ByteArray} (h : Cel w B [.bool n0, .string s0, .string d0, .bool n1, .string s1, .string d1] t) : RdPt w (some ⟨B, 0, none⟩) 1 (fun _ => n0) (fun _ => s0) (fun _ => d0) (fun _ => n1) (fun _ => s1) (fun _ => d1) := fun j hj => by
 obtain rfl : j = 0 := by omega
 exact ⟨B, 0, rfl, h.cell 0, h.cell 1, h.cell 2, h.cell 3, h.cell 4, h.cell 5⟩
theorem sz2 {x : Rat} {K : Nat} (hK : K ≤ 100) (b : Bq x K) : (sfZ x.num).size ≤ 100 ∧ (strOf x.den).size ≤ 100 := ⟨Nat.le_trans (bd_sf b.1) hK, by have := b.2.size; simp at this; omega⟩
theorem at_bd {c0 c1 c2 c3 c4 c5 X Y T : Int} {A B : Nat} (h0 : Bd c0 A) (h1 : Bd c1 A) (h2 : Bd c2 A) (h3 : Bd c3 A) (h4 : Bd c4 A) (h5 : Bd c5 A) (hX : Bd X B) (hY : Bd Y B) (hT : Bd T B) : Bd ((c0 * T + c1 * X + c2 * Y) * T + (c3 * X + c4 * Y) * X + c5 * Y * Y) (A + B + B + 6) := by
 have t0 := (((h0.mul hT).add (h1.mul hX)).add ((h2.mul hY).mono (show A + B ≤ A + B + 1 by omega))).mul hT
 have t1 := ((h3.mul hX).add (h4.mul hY)).mul hX
 have t2 := (h5.mul hY).mul hY
 exact (((t0.mono (show A + B + 1 + 1 + B ≤ A + B + B + 4 by omega)).add (t1.mono (show A + B + 1 + B ≤ A + B + B + 4 by omega))).add (t2.mono (show A + B + B ≤ A + B + B + 4 + 1 by omega))).mono (by omega)
theorem evalI (r : Nat → Rat) (x y : Rat) {K : Nat} (hK : K ≤ 100) (hb : ∀ k, k < 6 → Bq (r k) K) (bx : Bq x K) (bY : Bq y K) (w : World) (hT : Tab w) :
  Calls Tryz.prog 10 #[fq6 r, pq x y] w (Ra w (.tuple #[rq (ev r x y), .int .i64 0])) := by
 have hp : ∀ k, k < 2 → Bq (f2 x y k) K := fun k hk => by
  match k, hk with
  | 0, _ => exact bx
  | 1, _ => exact bY
 refine pevl_ok _ _ _ _ _ _ _ _ _ _ _ _ _ _ _ _ _ _ _ _ _ _ _ _ (zu r 6) (zu (f2 x y) 2) ((um r 6 : Nat) : Int) ((um (f2 x y) 2 : Nat) : Int) 160 80 _ _ _ w (by omega) (by omega) (fun w1 B b1 kl => ?_) (fun w1 b1 => cleared_of r hK w1 (hT.below b1) hb) (fun w1 B b1 kl => ?_) (fun w1 f a l c B a1 l1 c1 a2 l2 c2 b1 h0 hc h1 h2 => ?_)
 ·have := pcheck_any (fun k => nfZ (r k).num) (fun k => sfZ (r k).num) (fun k => strOf (r k).den) (some ⟨B, 0, none⟩) 1 1 _ _ _ _ _ _ w1 (hT.below b1) (by omega) (rdpt_1p kl) (fun k hk => sz2 hK (hb k hk)) (fun k hk => ⟨sz2 hK bx, sz2 hK bY⟩)
  refine this.mono (fun e w' h => ⟨?_, h.2⟩)
  rw [h.1, chk6 hK hb]
  have e1 : firstE (fun _ : Nat => two (chkq (nfZ x.num) (sfZ x.num) (strOf x.den)) (chkq (nfZ y.num) (sfZ y.num) (strOf y.den))) 1 = 0 := by
   unfold firstE
   rw [if_pos (show firstE _ 0 = 0 from rfl), chk_can8 x (by omega) bx, chk_can8 y (by omega) bY]
   rfl
  rw [e1]
  rfl
 ·have := shared_any (some ⟨B, 0, none⟩) 2 2 (f2 x y) hK (by omega) w1 (hT.below b1) (by
   have := rdq_2 kl
   intro j hj
   have h := this j hj
   match j, hj with
   | 0, _ => exact h
   | 1, _ => exact h) hp
  exact this
 ·have hT1 := hT.below b1
  have pu := upn r 6
  have pt := upn (f2 x y) 2
  have bu : Bd ((um r 6 : Nat) : Int) 601 := (um_bd hb).mono (by omega)
  have bt : Bd ((um (f2 x y) 2 : Nat) : Int) 601 := (um_bd hp).mono (by omega)
  have bc : ∀ q, q < 6 → Bd (zu r 6 q) 701 := fun q hq => (zu_bd hb hq).mono (by omega)
  have bs : ∀ q, q < 2 → Bd (zu (f2 x y) 2 q) 701 := fun q hq => (zu_bd hp hq).mono (by omega)
  refine nover_big f (.slice a l c) (some ⟨B, 0, none⟩) 3 3 (tw3 false false false) (fun j => .slice (tw3 a1 a2 a2 j) (tw3 l1 l2 l2 j) (tw3 c1 c2 c2 j)) _ (tw3 ((um r 6 : Nat) : Int) ((um (f2 x y) 2 : Nat) : Int) ((um (f2 x y) 2 : Nat) : Int)) 700 (701 + 701 + 701 + 6) w1 hT1 (by omega) (by omega) h0 (rdn_three hc) (fun q hq => ?_) (fun q hq => ?_) ?_ ?_ ?_
  ·match q, hq with
   | 0, _ => exact ⟨h1.mono (by omega), _, _, _, rfl⟩
   | 1, _ => exact ⟨h2.mono (by omega), _, _, _, rfl⟩
   | 2, _ => exact ⟨h2.mono (by omega), _, _, _, rfl⟩
  ·match q, hq with
   | 0, _ => exact pu
   | 1, _ => exact pt
   | 2, _ => exact pt
  ·exact (at_bd (A := 701) (B := 701) (bc 0 (by omega)) (bc 1 (by omega)) (bc 2 (by omega)) (bc 3 (by omega)) (bc 4 (by omega)) (bc 5 (by omega)) (bs 0 (by omega)) (bs 1 (by omega)) (bt.mono (by omega)))
  ·rw [tw3_prod]
   exact ((bu.mul (bt.mul bt)).mono (show 601 + (601 + 601) ≤ 701 + 701 + 701 + 6 by omega)).abs
  ·rw [tw3_prod]
   refine Dt.mkRat_eq (by have h := Int.mul_pos pu (Int.mul_pos pt pt); omega) ?_
   have e0 := zu_cast r (n := 6) (q := 0) (by omega)
   have e1 := zu_cast r (n := 6) (q := 1) (by omega)
   have e2 := zu_cast r (n := 6) (q := 2) (by omega)
   have e3 := zu_cast r (n := 6) (q := 3) (by omega)
   have e4 := zu_cast r (n := 6) (q := 4) (by omega)
   have e5 := zu_cast r (n := 6) (q := 5) (by omega)
   have ex : ((zu (f2 x y) 2 0 : Int) : Rat) = ((um (f2 x y) 2 : Nat) : Rat) * x := zu_cast (f2 x y) (n := 2) (q := 0) (by omega)
   have ey : ((zu (f2 x y) 2 1 : Int) : Rat) = ((um (f2 x y) 2 : Nat) : Rat) * y := zu_cast (f2 x y) (n := 2) (q := 1) (by omega)
   have ep : (((((um r 6 : Nat) : Int) * (((um (f2 x y) 2 : Nat) : Int) * ((um (f2 x y) 2 : Nat) : Int))).natAbs : Nat) : Rat) = ((um r 6 : Nat) : Rat) * (((um (f2 x y) 2 : Nat) : Rat) * ((um (f2 x y) 2 : Nat) : Rat)) := by
    rw [← Int.natCast_mul, ← Int.natCast_mul, Int.natAbs_natCast, Rat.natCast_mul, Rat.natCast_mul]
   rw [ep]
   simp only [Rat.intCast_add, Rat.intCast_mul, e0, e1, e2, e3, e4, e5, ex, ey, Rat.intCast_natCast]
   unfold ev
   grind
def six (a b c d e f : Rat) (k : Nat) : Rat := match k with | 0 => a | 1 => b | 2 => c | 3 => d | 4 => e | _ => f
def nx (s : Nat → Rat) (k : Nat) : Rat := (s 0 * (ndW k 0 : Int) + s 1 * (ndW k 1 : Int) + s 2 * (ndW k 2 : Int)) * Rat.divInt 1 2
def ny (s : Nat → Rat) (k : Nat) : Rat := (s 3 * (ndW k 0 : Int) + s 4 * (ndW k 1 : Int) + s 5 * (ndW k 2 : Int)) * Rat.divInt 1 2
def Fn (r s : Nat → Rat) (k : Nat) : Rat := ev r (nx s k) (ny s k)
def lsum (W : Nat → Int) (F : Nat → Rat) : Rat := F 0 * (W 0 : Int) + F 1 * (W 1 : Int) + F 2 * (W 2 : Int) + F 3 * (W 3 : Int) + F 4 * (W 4 : Int) + F 5 * (W 5 : Int)
def rabs (x : Rat) : Rat := mkRat (x.num.natAbs : Int) x.den
theorem half_eq : Rat.divInt 1 2 + Rat.divInt 1 2 = 1 := by
 rw [show Rat.divInt 1 2 = mkRat 1 2 from rfl, Rat.mkRat_eq_div]
 have : (((1 : Int) : Rat)) = 1 := rfl
 have h2 : (((2 : Nat) : Rat)) = 2 := rfl
 rw [this, h2]
 grind
theorem nodeV_cast {Zc Zs : Nat → Int} {u U : Int} {r s : Nat → Rat} (hc : ∀ q, q < 6 → ((Zc q : Int) : Rat) = (u : Rat) * r q) (hs : ∀ q, q < 6 → ((Zs q : Int) : Rat) = (U : Rat) * s q) (k : Nat) : ((nodeV Zc Zs (U + U) k : Int) : Rat) = (u : Rat) * (((U + U : Int) : Rat) * ((U + U : Int) : Rat)) * Fn r s k := by
 have hh := half_eq
 have eX : ((wsum Zs (ndW k) 3 : Int) : Rat) = ((U + U : Int) : Rat) * nx s k := by
  unfold wsum wsum wsum wsum nx
  simp only [Rat.intCast_add, Rat.intCast_mul, hs 0 (by omega), hs 1 (by omega), hs 2 (by omega)]
  generalize Rat.divInt 1 2 = t at *
  simp only [Rat.intCast_zero]
  grind
 have eY : ((wsum (fun q => Zs (3 + q)) (ndW k) 3 : Int) : Rat) = ((U + U : Int) : Rat) * ny s k := by
  unfold wsum wsum wsum wsum ny
  simp only [Rat.intCast_add, Rat.intCast_mul, hs (3 + 0) (by omega), hs (3 + 1) (by omega), hs (3 + 2) (by omega)]
  generalize Rat.divInt 1 2 = t at *
  simp only [Rat.intCast_zero]
  grind
 unfold nodeV Fn ev
 generalize wsum Zs (ndW k) 3 = X at *
 generalize wsum (fun q => Zs (3 + q)) (ndW k) 3 = Y at *
 generalize nx s k = x at *
 generalize ny s k = y at *
 generalize hT : U + U = T at *
 simp only [Rat.intCast_add, Rat.intCast_mul, eX, eY, hc 0 (by omega), hc 1 (by omega), hc 2 (by omega), hc 3 (by omega), hc 4 (by omega), hc 5 (by omega)]
 grind
theorem wsum_cast {V W : Nat → Int} {D : Rat} {F : Nat → Rat} (h : ∀ k, k < 6 → ((V k : Int) : Rat) = D * F k) : ((wsum V W 6 : Int) : Rat) = D * lsum W F := by
 unfold wsum wsum wsum wsum wsum wsum wsum lsum
 simp only [Rat.intCast_add, Rat.intCast_mul, h 0 (by omega), h 1 (by omega), h 2 (by omega), h 3 (by omega), h 4 (by omega), h 5 (by omega), Rat.intCast_zero]
 grind
def qs (F : Nat → Rat) : Rat := F 0 * lsum (sqW 0) F + F 1 * lsum (sqW 1) F + F 2 * lsum (sqW 2) F + F 3 * lsum (sqW 3) F + F 4 * lsum (sqW 4) F + F 5 * lsum (sqW 5) F
theorem qsum_cast {V : Nat → Int} {D : Rat} {F : Nat → Rat} (h : ∀ k, k < 6 → ((V k : Int) : Rat) = D * F k) : ((qsum V 6 : Int) : Rat) = D * D * qs F := by
 unfold qsum qsum qsum qsum qsum qsum qsum qs
 simp only [Rat.intCast_add, Rat.intCast_mul, wsum_cast h, h 0 (by omega), h 1 (by omega), h 2 (by omega), h 3 (by omega), h 4 (by omega), h 5 (by omega), Rat.intCast_zero]
 generalize lsum (sqW 0) F = l0
 generalize lsum (sqW 1) F = l1
 generalize lsum (sqW 2) F = l2
 generalize lsum (sqW 3) F = l3
 generalize lsum (sqW 4) F = l4
 generalize lsum (sqW 5) F = l5
 grind
theorem rabs_eq (x : Rat) : ((x.num.natAbs : Int) : Rat) = ((x.den : Nat) : Rat) * rabs x := by
 unfold rabs
 have hd : ((x.den : Nat) : Rat) ≠ 0 := fun e => by
  have q : ((x.den : Nat) : Rat) = ((0 : Nat) : Rat) := e
  rw [Rat.natCast_inj] at q
  have := x.den_pos
  omega
 rw [Rat.mkRat_eq_div]
 grind
theorem Bd.one {z : Int} (h1 : -255 ≤ z) (h2 : z ≤ 255) : Bd z 1 := by unfold Bd; omega
theorem wsum_bd {V W : Nat → Int} {A : Nat} : ∀ n, (∀ k, k < n → Bd (V k) A) → (∀ k, k < n → Bd (W k) 1) → Bd (wsum V W n) (A + 1 + n)
 | 0, _, _ => Bd.zero _
 | n + 1, h, hw => ((wsum_bd n (fun k hk => h k (by omega)) (fun k hk => hw k (by omega))).add (((h n (by omega)).mul (hw n (by omega))).mono (by omega))).mono (by omega)
def Smp (r s : Nat → Rat) (A : Rat) (w : World) (g gy _c : Nat) (a2 : Option Addr) (l2 c2 : Nat) (a3 : Option Addr) (l3 c3 : Nat) : Prop := ∃ (N Ny : Nat → Bool) (v vy : Nat → Value), RdN w (some ⟨g, 0, none⟩) 6 N v ∧ NVs w N v (nodeV (zu r 6) (zu s 6) (((um s 6 : Nat) : Int) + ((um s 6 : Nat) : Int))) 700 6 ∧ RdN w (some ⟨gy, 0, none⟩) 3 Ny vy ∧ NVs w Ny vy (tw3 ((um r 6 : Nat) : Int) (((um s 6 : Nat) : Int) + ((um s 6 : Nat) : Int)) (((um s 6 : Nat) : Int) + ((um s 6 : Nat) : Int))) 201 3 ∧ NV w false (.slice a2 l2 c2) ((A.num.natAbs : Nat) : Int) 200 ∧ NV w false (.slice a3 l3 c3) ((A.den : Nat) : Int) 200
theorem Smp.below {r s : Nat → Rat} {A : Rat} (w w' : World) (g gy c : Nat) (a2 : Option Addr) (l2 c2 : Nat) (a3 : Option Addr) (l3 c3 : Nat) (h : Smp r s A w g gy c a2 l2 c2 a3 l3 c3) (b : Below w.heap.size w w') : Smp r s A w' g gy c a2 l2 c2 a3 l3 c3 := by
 obtain ⟨N, Ny, v, vy, h1, h2, h3, h4, h5, h6⟩ := h
 exact ⟨N, Ny, v, vy, h1.below b, h2.below b, h3.below b, h4.below b, h5.below b, h6.below b⟩
structure Lns (r s : Nat → Rat) (A : Rat) : Prop where
 c : ∀ q, q < 6 → Bd (zu r 6 q) 701
 z : ∀ q, q < 6 → Bd (zu s 6 q) 701
 u : Bd ((um r 6 : Nat) : Int) 601
 t : Bd ((um s 6 : Nat) : Int) 601
 a : Bq A 810
theorem Lns.of {r s : Nat → Rat} {A : Rat} {K : Nat} (hK : K ≤ 100) (hr : ∀ k, k < 6 → Bq (r k) K) (hs : ∀ k, k < 6 → Bq (s k) K) (ha : Bq A 810) : Lns r s A :=
 ⟨fun q hq => (zu_bd hr hq).mono (by omega), fun q hq => (zu_bd hs hq).mono (by omega), (um_bd hr).mono (by omega), (um_bd hs).mono (by omega), ha⟩
theorem nd_one (k : Nat) (hk : k < 6) (j : Nat) (hj : j < 3) : Bd (ndW k j) 1 := by
 have : ∀ k, k < 6 → ∀ j, j < 3 → (ndW k j).natAbs < 256 := by decide
 unfold Bd
 rw [Nat.pow_one]
 exact this k hk j hj
theorem Lns.node {r s : Nat → Rat} {A : Rat} (h : Lns r s A) {k : Nat} (hk : k < 6) : Bd (nodeV (zu r 6) (zu s 6) (((um s 6 : Nat) : Int) + ((um s 6 : Nat) : Int)) k) (705 + 705 + 705 + 6) := by
 unfold nodeV
 have hX := wsum_bd (V := zu s 6) (W := ndW k) (A := 701) 3 (fun q hq => h.z q (by omega)) (fun q hq => nd_one k hk q hq)
 have hY := wsum_bd (V := fun q => zu s 6 (3 + q)) (W := ndW k) (A := 701) 3 (fun q hq => h.z (3 + q) (by omega)) (fun q hq => nd_one k hk q hq)
 exact at_bd (A := 705) (B := 705) ((h.c 0 (by omega)).mono (by omega)) ((h.c 1 (by omega)).mono (by omega)) ((h.c 2 (by omega)).mono (by omega)) ((h.c 3 (by omega)).mono (by omega)) ((h.c 4 (by omega)).mono (by omega)) ((h.c 5 (by omega)).mono (by omega)) (hX.mono (by omega)) (hY.mono (by omega)) ((h.t.add h.t).mono (by omega))
theorem Lns.cast {r s : Nat → Rat} (k : Nat) : ((nodeV (zu r 6) (zu s 6) (((um s 6 : Nat) : Int) + ((um s 6 : Nat) : Int)) k : Int) : Rat) = (((um r 6 : Nat) : Int) : Rat) * (((((um s 6 : Nat) : Int) + ((um s 6 : Nat) : Int) : Int) : Rat) * ((((um s 6 : Nat) : Int) + ((um s 6 : Nat) : Int) : Int) : Rat)) * Fn r s k :=
 nodeV_cast (fun _ hq => zu_cast r hq) (fun _ hq => zu_cast s hq) k
theorem frac_one {n : Nat} (h : 0 < n) : ((n : Nat) : Rat) * Rat.divInt 1 (n : Nat) = 1 := by
 have hn : ((n : Nat) : Rat) ≠ 0 := fun e => by
  have q : ((n : Nat) : Rat) = ((0 : Nat) : Rat) := e
  rw [Rat.natCast_inj] at q
  omega
 rw [show Rat.divInt 1 (n : Nat) = mkRat 1 n from rfl, Rat.mkRat_eq_div, show (((1 : Int) : Rat)) = 1 from rfl]
 grind
set_option maxRecDepth 10000 in
theorem linI (r s : Nat → Rat) (A : Rat) (W : Nat → Int) (hl : Lns r s A) (hW : ∀ j, j < 6 → -100 ≤ W j ∧ W j ≤ 100) (w : World) (hT : Tab w) (B : Nat) (g gy c : Nat) (a2 : Option Addr) (l2 c2 : Nat) (a3 : Option Addr) (l3 c3 : Nat) (hs : Smp r s A w g gy c a2 l2 c2 a3 l3 c3) (kw : Cel w B [.int .i64 (W 0), .int .i64 (W 1), .int .i64 (W 2), .int .i64 (W 3), .int .i64 (W 4), .int .i64 (W 5)] 62) {x : Rat} (hx : rabs A * lsum W (Fn r s) * Rat.divInt 1 (120 : Nat) = x) :
  Calls Tryz.prog 42 #[.agg #[.slice (some ⟨g, 0, none⟩) 6 c, .slice (some ⟨gy, 0, none⟩) 3 3, .bool false, .slice a2 l2 c2, .bool false, .slice a3 l3 c3], .slice (some ⟨B, 0, none⟩) 6 6] w (Ra w (rq x)) := by
 obtain ⟨N, Ny, v, vy, h1, h2, h3, h4, h5, h6⟩ := hs
 have bV := wsum_bd (V := nodeV (zu r 6) (zu s 6) (((um s 6 : Nat) : Int) + ((um s 6 : Nat) : Int))) (W := W) 6 (fun k hk => hl.node hk) (fun k hk => Bd.one (by have := (hW k hk).1; omega) (by have := (hW k hk).2; omega))
 have pu := upn r 6
 have pt := upn s 6
 have hden := A.den_pos
 refine linear_walk _ _ _ _ _ _ _ _ _ _ _ _ _ _ _ _ _ (wsum (nodeV (zu r 6) (zu s 6) (((um s 6 : Nat) : Int) + ((um s 6 : Nat) : Int))) W 6) 300 _ _ _ w (fun w1 b => ?_) (fun w1 f a l c' b n => ?_)
 ·refine (weighed_walk (some ⟨g, 0, none⟩) (some ⟨B, 0, none⟩) 6 _ 6 6 N v _ W 270 w1 (by omega) (by omega) (by omega) (h1.below b) (fun q hq => ⟨(h2 q hq).1.sharp (hl.node hq) (by omega) |>.below b, (h2 q hq).2⟩) (rdw_6 (kw.below b)) (fun j w2 hj => (psmall_any (W j) (by have := (hW j hj).1; omega) (by have := (hW j hj).2; omega) w2).mono (fun e w' h => by obtain ⟨a, l, c, h⟩ := h; exact ⟨_, a, l, c, h⟩))).mono (fun e w' h => ?_)
  obtain ⟨f, a, l, c', e1, e2, e3⟩ := h
  exact ⟨f, a, l, c', e1, e2.mono (by omega), e3⟩
 ·have bA : Bd ((A.num.natAbs : Nat) : Int) 810 := hl.a.1.abs
  have bD : Bd ((A.den : Nat) : Int) 810 := hl.a.2
  have bT := hl.t.add hl.t
  refine part_any _ _ _ _ _ _ _ _ _ _ _ _ _ _ _ _ _ _ 120 _ _ _ gy 0 3 3 Ny vy _ 300 (705 + 705 + 705 + 6 + 1 + 6 + 810) w1 (hT.below b) (by omega) (by omega) (by omega) (by omega) (by omega) (by omega) n ((h5.below b).mono (by omega)) ((h6.below b).mono (by omega)) (h3.below b) (fun q hq => ⟨((h4 q hq).1.below b).mono (by omega), (h4 q hq).2⟩) (by omega) (fun q hq => ?_) ?_ ?_ ?_
  ·match q, hq with
   | 0, _ => exact pu
   | 1, _ => exact Int.add_pos pt pt
   | 2, _ => exact Int.add_pos pt pt
  ·exact bV.mul bA
  ·rw [tw3_prod, ← Int.natAbs_mul, ← Int.natAbs_mul]
   exact (((Bd.one (z := 120) (by omega) (by omega)).mul (bD.mul (hl.u.mul (bT.mul bT)))).mono (show 1 + (810 + (601 + (601 + 1 + (601 + 1)))) ≤ 705 + 705 + 705 + 6 + 1 + 6 + 810 by omega)).abs
  ·rw [tw3_prod, ← Int.natAbs_mul, ← Int.natAbs_mul]
   have pT := Int.add_pos pt pt
   have pd : (0 : Int) < ((A.den : Nat) : Int) := by omega
   have pp := Int.mul_pos (show (0 : Int) < 120 by omega) (Int.mul_pos pd (Int.mul_pos pu (Int.mul_pos pT pT)))
   refine Dt.mkRat_eq (by omega) ?_
   rw [Gm.natAbs_cast pp, ← hx, Rat.intCast_mul, wsum_cast (fun k _ => Lns.cast k), rabs_eq A]
   have h120 := frac_one (n := 120) (by omega)
   simp only [Rat.intCast_mul, Rat.intCast_natCast]
   generalize Rat.divInt 1 (120 : Nat) = t at *
   generalize lsum W (Fn r s) = y
   generalize rabs A = z
   generalize ((((um s 6 : Nat) : Int) + ((um s 6 : Nat) : Int) : Int) : Rat) = T
   have e120 : (((120 : Int) : Rat)) = ((120 : Nat) : Rat) := rfl
   rw [e120]
   generalize ((120 : Nat) : Rat) = m at *
   grind
structure PTab (w : World) : Prop where
 nodes : ∃ tg fr, w.heap[2]? = some (.cells #[.int .i64 2, .int .i64 0, .int .i64 0, .int .i64 0, .int .i64 2, .int .i64 0, .int .i64 0, .int .i64 0, .int .i64 2, .int .i64 1, .int .i64 1, .int .i64 0, .int .i64 0, .int .i64 1, .int .i64 1, .int .i64 1, .int .i64 0, .int .i64 1] tg fr)
 ints : ∃ tg fr, w.heap[0]? = some (.cells #[.int .i64 0, .int .i64 0, .int .i64 0, .int .i64 20, .int .i64 20, .int .i64 20] tg fr)
 sqs : ∃ tg fr, w.heap[3]? = some (.cells #[.int .i64 6, .int .i64 (-1), .int .i64 (-1), .int .i64 0, .int .i64 (-4), .int .i64 0, .int .i64 (-1), .int .i64 6, .int .i64 (-1), .int .i64 0, .int .i64 0, .int .i64 (-4), .int .i64 (-1), .int .i64 (-1), .int .i64 6, .int .i64 (-4), .int .i64 0, .int .i64 0, .int .i64 0, .int .i64 0, .int .i64 (-4), .int .i64 32, .int .i64 16, .int .i64 16, .int .i64 (-4), .int .i64 0, .int .i64 0, .int .i64 16, .int .i64 32, .int .i64 16, .int .i64 0, .int .i64 (-4), .int .i64 0, .int .i64 16, .int .i64 16, .int .i64 32] tg fr)
theorem hp_lt {w : World} {g : Nat} {o : Obj} (h : w.heap[g]? = some o) : g < w.heap.size := by
 rcases Nat.lt_or_ge g w.heap.size with q | q
 ·exact q
 ·rw [Array.getElem?_eq_none q] at h; cases h
theorem PTab.below {w w' : World} (h : PTab w) (b : Below w.heap.size w w') : PTab w' := by
 obtain ⟨⟨t1, f1, h1⟩, ⟨t2, f2, h2⟩, ⟨t3, f3, h3⟩⟩ := h
 exact ⟨⟨t1, f1, (b.block _ (hp_lt h1)).trans h1⟩, ⟨t2, f2, (b.block _ (hp_lt h2)).trans h2⟩, ⟨t3, f3, (b.block _ (hp_lt h3)).trans h3⟩⟩
theorem qsum_bd {V : Nat → Int} {A : Nat} : ∀ n, n ≤ 6 → (∀ k, k < 6 → Bd (V k) A) → Bd (qsum V n) (A + (A + 1 + 6) + n)
 | 0, _, _ => Bd.zero _
 | n + 1, hn, h => by
  have hw := wsum_bd (V := V) (W := sqW n) 6 h (fun k hk => by
   have : ∀ i, i < 6 → ∀ j, j < 6 → (sqW i j).natAbs < 256 := by decide
   unfold Bd
   rw [Nat.pow_one]
   exact this n (by omega) k hk)
  exact ((qsum_bd n (by omega) h).add (((h n (by omega)).mul hw).mono (by omega))).mono (by omega)
theorem zprod_twice (a b c : Int) : zprod (catn 3 (tw3 a b c) (tw3 a b c)) 6 = ((a * (b * c)) * (a * (b * c))).natAbs := by
 show a.natAbs * (b.natAbs * (c.natAbs * (a.natAbs * (b.natAbs * (c.natAbs * 1))))) = _
 simp only [Int.natAbs_mul, Nat.mul_one]
 ac_rfl
set_option maxRecDepth 10000 in
theorem sqrI (r s : Nat → Rat) (A : Rat) (hl : Lns r s A) (w : World) (hT : Tab w) (hP : PTab w) (g gy c : Nat) (a2 : Option Addr) (l2 c2 : Nat) (a3 : Option Addr) (l3 c3 : Nat) (hs : Smp r s A w g gy c a2 l2 c2 a3 l3 c3) {x : Rat} (hx : rabs A * qs (Fn r s) * Rat.divInt 1 (360 : Nat) = x) :
  Calls Tryz.prog 43 #[.agg #[.slice (some ⟨g, 0, none⟩) 6 c, .slice (some ⟨gy, 0, none⟩) 3 3, .bool false, .slice a2 l2 c2, .bool false, .slice a3 l3 c3]] w (Ra w (rq x)) := by
 obtain ⟨N, Ny, v, vy, h1, h2, h3, h4, h5, h6⟩ := hs
 obtain ⟨tg, fr, ht⟩ := hP.sqs
 have h2' : NVs w N v (nodeV (zu r 6) (zu s 6) (((um s 6 : Nat) : Int) + ((um s 6 : Nat) : Int))) 270 6 := fun q hq => ⟨(h2 q hq).1.sharp (hl.node hq) (by omega), (h2 q hq).2⟩
 have pu := upn r 6
 have pt := upn s 6
 have pT := Int.add_pos pt pt
 have hden := A.den_pos
 have h4c : ∀ w1, Below w.heap.size w w1 → NVs w1 (catn 3 Ny Ny) (catn 3 vy vy) (catn 3 (tw3 ((um r 6 : Nat) : Int) (((um s 6 : Nat) : Int) + ((um s 6 : Nat) : Int)) (((um s 6 : Nat) : Int) + ((um s 6 : Nat) : Int))) (tw3 ((um r 6 : Nat) : Int) (((um s 6 : Nat) : Int) + ((um s 6 : Nat) : Int)) (((um s 6 : Nat) : Int) + ((um s 6 : Nat) : Int)))) 600 6 := fun w1 b q hq => by
  unfold catn
  by_cases h : q < 3
  ·rw [if_pos h, if_pos h, if_pos h]
   exact ⟨((h4 q h).1.below b).mono (by omega), (h4 q h).2⟩
  ·rw [if_neg h, if_neg h, if_neg h]
   exact ⟨((h4 (q - 3) (by omega)).1.below b).mono (by omega), (h4 (q - 3) (by omega)).2⟩
 refine square_walk _ _ _ _ _ _ _ _ _ _ _ _ _ N v (nodeV (zu r 6) (zu s 6) (((um s 6 : Nat) : Int) + ((um s 6 : Nat) : Int))) 270 _ _ _ w (by omega) tg fr ht h1 h2' (fun k w1 B hk b kw => ?_) (catn 3 Ny Ny) (catn 3 vy vy) (fun w1 B b kc => ?_) (fun w1 f a l c' g' cap b n hr => ?_)
 ·have hsm : ∀ i, i < 6 → ∀ j, j < 6 → -1000000 ≤ sqW i j ∧ sqW i j ≤ 1000000 := by decide
  refine (weighed_walk (some ⟨g, 0, none⟩) (some ⟨B, 0, none⟩) 6 _ 6 6 N v _ (sqW k) 270 w1 (by omega) (by omega) (by omega) (h1.below b) (h2'.below b) (rdw_6 kw) (fun j w2 hj => (psmall_any (sqW k j) (hsm k hk j hj).1 (hsm k hk j hj).2 w2).mono (fun e w' h => by obtain ⟨a, l, c, h⟩ := h; exact ⟨_, a, l, c, h⟩))).mono (fun e w' h => ?_)
  obtain ⟨f, a, l, c', e1, e2, e3⟩ := h
  exact ⟨f, a, l, c', e1, e2.mono (by omega), e3⟩
 ·refine (concat_num B gy 0 3 3 gy 0 3 3 Ny Ny vy vy w1 kc (h3.below b) (h3.below b) (fun q hq => (h4 q hq).2) (fun q hq => (h4 q hq).2) (by omega) (by omega)).mono (fun e w' h => ?_)
  obtain ⟨g', cap, e1, -, e2, -, e3⟩ := h
  exact ⟨g', cap, e1, e2, e3⟩
 ·have bQ := qsum_bd (V := (nodeV (zu r 6) (zu s 6) (((um s 6 : Nat) : Int) + ((um s 6 : Nat) : Int)))) 6 (by omega) (fun k hk => hl.node hk)
  have bA : Bd ((A.num.natAbs : Nat) : Int) 810 := hl.a.1.abs
  have bD : Bd ((A.den : Nat) : Int) 810 := hl.a.2
  have bT := hl.t.add hl.t
  have b360 : Bd 360 2 := by unfold Bd; decide
  refine part_any _ _ _ _ _ _ _ _ _ _ _ _ _ _ _ _ _ _ 360 _ _ _ g' 0 6 cap _ _ (catn 3 (tw3 ((um r 6 : Nat) : Int) (((um s 6 : Nat) : Int) + ((um s 6 : Nat) : Int)) (((um s 6 : Nat) : Int) + ((um s 6 : Nat) : Int))) (tw3 ((um r 6 : Nat) : Int) (((um s 6 : Nat) : Int) + ((um s 6 : Nat) : Int)) (((um s 6 : Nat) : Int) + ((um s 6 : Nat) : Int)))) 600 (705 + 705 + 705 + 6 + (705 + 705 + 705 + 6 + 1 + 6) + 6 + 810) w1 (hT.below b) (by omega) (by omega) (by omega) (by omega) (by omega) (by omega) (n.mono (by omega)) ((h5.below b).mono (by omega)) ((h6.below b).mono (by omega)) hr (h4c w1 b) (by omega) (fun q hq => ?_) ?_ ?_ ?_
  ·unfold catn
   have : ∀ q, q < 3 → 0 < (tw3 ((um r 6 : Nat) : Int) (((um s 6 : Nat) : Int) + ((um s 6 : Nat) : Int)) (((um s 6 : Nat) : Int) + ((um s 6 : Nat) : Int))) q := fun q hq => by
    match q, hq with
    | 0, _ => exact pu
    | 1, _ => exact pT
    | 2, _ => exact pT
   split
   ·exact this q (by assumption)
   ·exact this (q - 3) (by omega)
  ·exact bQ.mul bA
  ·rw [zprod_twice, ← Int.natAbs_mul, ← Int.natAbs_mul]
   exact ((b360.mul (bD.mul ((hl.u.mul (bT.mul bT)).mul (hl.u.mul (bT.mul bT))))).mono (show 2 + (810 + (601 + (601 + 1 + (601 + 1)) + (601 + (601 + 1 + (601 + 1))))) ≤ 705 + 705 + 705 + 6 + (705 + 705 + 705 + 6 + 1 + 6) + 6 + 810 by omega)).abs
  ·rw [zprod_twice, ← Int.natAbs_mul, ← Int.natAbs_mul]
   have pd : (0 : Int) < ((A.den : Nat) : Int) := by omega
   have p1 := Int.mul_pos pu (Int.mul_pos pT pT)
   have pp := Int.mul_pos (show (0 : Int) < 360 by omega) (Int.mul_pos pd (Int.mul_pos p1 p1))
   refine Dt.mkRat_eq (by omega) ?_
   rw [Gm.natAbs_cast pp, ← hx, Rat.intCast_mul, qsum_cast (fun k _ => Lns.cast k), rabs_eq A]
   have h360 := frac_one (n := 360) (by omega)
   simp only [Rat.intCast_mul, Rat.intCast_natCast]
   generalize Rat.divInt 1 (360 : Nat) = t at *
   generalize qs (Fn r s) = y
   generalize rabs A = z
   generalize ((((um s 6 : Nat) : Int) + ((um s 6 : Nat) : Int) : Int) : Rat) = T
   have e360 : (((360 : Int) : Rat)) = ((360 : Nat) : Rat) := rfl
   rw [e360]
   generalize ((360 : Nat) : Rat) = m at *
   grind
end Go.Proofs.YtphpoknionnnfaaGreatDoor
