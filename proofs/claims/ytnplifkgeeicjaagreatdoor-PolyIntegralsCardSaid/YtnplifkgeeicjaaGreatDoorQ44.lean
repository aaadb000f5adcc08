import Derived.Test.YtnplifkgeeicjaaGreatDoorQ43
import Derived.Test.YtnplifkgeeicjaaGreatDoorQ51
namespace Go.Proofs.YtnplifkgeeicjaaGreatDoor
open Go.RowKit
abbrev Qr (r : Nat → Rat) : Value := (Cp (Bs (r 0).num) (Bp (r 0).num) (Bf (r 0).den) (Bs (r 1).num) (Bp (r 1).num) (Bf (r 1).den) (Bs (r 2).num) (Bp (r 2).num) (Bf (r 2).den) (Bs (r 3).num) (Bp (r 3).num) (Bf (r 3).den) (Bs (r 4).num) (Bp (r 4).num) (Bf (r 4).den) (Bs (r 5).num) (Bp (r 5).num) (Bf (r 5).den))
def ev (r : Nat → Rat) (x y : Rat) : Rat := (r 0 + r 1 * x + r 2 * y) + (r 3 * x + r 4 * y) * x + r 5 * y * y
def zu (r : Nat → Rat) (n q : Nat) : Int := (r q).num * ((um r n / (r q).den : Nat) : Int)
theorem Vq (r : Nat → Rat) {n q : Nat} (h : q < n) : ((zu r n q : Int) : Rat) = ((um r n : Nat) : Rat) * r q := Bfr r h
theorem Vr {r : Nat → Rat} {K n q : Nat} (hb : ∀ k, k < n → Bq (r k) K) (h : q < n) : Bd (zu r n q) (K + (K * n + 1)) := (hb q h).1.mul ((Mi hb).nat (Nat.div_le_self _ _))
theorem upn (r : Nat → Rat) (n : Nat) : (0 : Int) < ((um r n : Nat) : Int) := by have := Zt r n; omega
theorem Rm (a b c : Int) : Gn (Pw a b c) 3 = (a * (b * c)).natAbs := by
 rw [Int.natAbs_mul, Int.natAbs_mul]
 show a.natAbs * (b.natAbs * (c.natAbs * 1)) = _
 rw [Nat.mul_one]
theorem Bie {r : Nat → Rat} {K : Nat} (hK : K ≤ 100) (hb : ∀ k, k < 6 → Bq (r k) K) : Br (fun k => Bt (Bs (r k).num) (Bp (r k).num) (Bf (r k).den)) 6 = 0 := by
 have h : ∀ k, k < 6 → Bt (Bs (r k).num) (Bp (r k).num) (Bf (r k).den) = 0 := fun k hk => C0 (r k) (by omega) (hb k hk)
 have : ∀ n, n ≤ 6 → Br (fun k => Bt (Bs (r k).num) (Bp (r k).num) (Bf (r k).den)) n = 0 := fun n => by
  induction n with
  | zero => intro _; rfl
  | succ n ih => intro hn; unfold Br; rw [if_pos (ih (by omega))]; exact h n (by omega)
 exact this 6 (Jb _)
theorem Xo {x : Rat} {K : Nat} (hK : K ≤ 100) (b : Bq x K) : (Bp x.num).size ≤ 100 ∧ (Bf x.den).size ≤ 100 := ⟨Jf (Oj b.1) hK, by have := b.2.size; simp at this; omega⟩
theorem Bfm {c0 c1 c2 c3 c4 c5 X Y T : Int} {A B : Nat} (h0 : Bd c0 A) (h1 : Bd c1 A) (h2 : Bd c2 A) (h3 : Bd c3 A) (h4 : Bd c4 A) (h5 : Bd c5 A) (hX : Bd X B) (hY : Bd Y B) (hT : Bd T B) : Bd ((c0 * T + c1 * X + c2 * Y) * T + (c3 * X + c4 * Y) * X + c5 * Y * Y) (A + B + B + 6) := by
 have t0 := (((h0.mul hT).add (h1.mul hX)).add ((h2.mul hY).mono (show A + B ≤ A + B + 1 by omega))).mul hT
 have t1 := ((h3.mul hX).add (h4.mul hY)).mul hX
 have t2 := (h5.mul hY).mul hY
 exact (((t0.mono (show A + B + 1 + 1 + B ≤ A + B + B + 4 by omega)).add (t1.mono (show A + B + 1 + B ≤ A + B + B + 4 by omega))).add (t2.mono (show A + B + B ≤ A + B + B + 4 + 1 by omega))).mono (by omega)
def Cx (a b c d e f : Rat) (k : Nat) : Rat := match k with | 0 => a | 1 => b | 2 => c | 3 => d | 4 => e | _ => f
def nx (s : Nat → Rat) (k : Nat) : Rat := (s 0 * (Hl k 0 : Int) + s 1 * (Hl k 1 : Int) + s 2 * (Hl k 2 : Int)) * Rat.divInt 1 2
def ny (s : Nat → Rat) (k : Nat) : Rat := (s 3 * (Hl k 0 : Int) + s 4 * (Hl k 1 : Int) + s 5 * (Hl k 2 : Int)) * Rat.divInt 1 2
def Fn (r s : Nat → Rat) (k : Nat) : Rat := ev r (nx s k) (ny s k)
def C6 (W : Nat → Int) (F : Nat → Rat) : Rat := F 0 * (W 0 : Int) + F 1 * (W 1 : Int) + F 2 * (W 2 : Int) + F 3 * (W 3 : Int) + F 4 * (W 4 : Int) + F 5 * (W 5 : Int)
def C7 (x : Rat) : Rat := mkRat (x.num.natAbs : Int) x.den
theorem Wy : Rat.divInt 1 2 + Rat.divInt 1 2 = 1 := by
 rw [show Rat.divInt 1 2 = mkRat 1 2 from rfl, Rat.mkRat_eq_div]
 have : (((1 : Int) : Rat)) = 1 := rfl
 have h2 : (((2 : Nat) : Rat)) = 2 := rfl
 rw [this, h2]
 grind
theorem Ur {Zc Zs : Nat → Int} {u U : Int} {r s : Nat → Rat} (hc : ∀ q, q < 6 → ((Zc q : Int) : Rat) = (u : Rat) * r q) (hs : ∀ q, q < 6 → ((Zs q : Int) : Rat) = (U : Rat) * s q) (k : Nat) : ((Ff Zc Zs (U + U) k : Int) : Rat) = (u : Rat) * (((U + U : Int) : Rat) * ((U + U : Int) : Rat)) * Fn r s k := by
 have hh := Wy
 have eX : ((D6 Zs (Hl k) 3 : Int) : Rat) = ((U + U : Int) : Rat) * nx s k := by
  unfold D6 D6 D6 D6 nx
  simp only [Rat.intCast_add, Rat.intCast_mul, hs 0 (by omega), hs 1 (by omega), hs 2 (by omega)]
  generalize Rat.divInt 1 2 = t at *
  simp only [Rat.intCast_zero]
  grind
 have eY : ((D6 (fun q => Zs (3 + q)) (Hl k) 3 : Int) : Rat) = ((U + U : Int) : Rat) * ny s k := by
  unfold D6 D6 D6 D6 ny
  simp only [Rat.intCast_add, Rat.intCast_mul, hs (3 + 0) (by omega), hs (3 + 1) (by omega), hs (3 + 2) (by omega)]
  generalize Rat.divInt 1 2 = t at *
  simp only [Rat.intCast_zero]
  grind
 unfold Ff Fn ev
 generalize D6 Zs (Hl k) 3 = X at *
 generalize D6 (fun q => Zs (3 + q)) (Hl k) 3 = Y at *
 generalize nx s k = x at *
 generalize ny s k = y at *
 generalize hT : U + U = T at *
 simp only [Rat.intCast_add, Rat.intCast_mul, eX, eY, hc 0 (by omega), hc 1 (by omega), hc 2 (by omega), hc 3 (by omega), hc 4 (by omega), hc 5 (by omega)]
 grind
theorem O8 {V W : Nat → Int} {D : Rat} {F : Nat → Rat} (h : ∀ k, k < 6 → ((V k : Int) : Rat) = D * F k) : ((D6 V W 6 : Int) : Rat) = D * C6 W F := by
 unfold D6 D6 D6 D6 D6 D6 D6 C6
 simp only [Rat.intCast_add, Rat.intCast_mul, h 0 (by omega), h 1 (by omega), h 2 (by omega), h 3 (by omega), h 4 (by omega), h 5 (by omega), Rat.intCast_zero]
 grind
def qs (F : Nat → Rat) : Rat := F 0 * C6 (Fz 0) F + F 1 * C6 (Fz 1) F + F 2 * C6 (Fz 2) F + F 3 * C6 (Fz 3) F + F 4 * C6 (Fz 4) F + F 5 * C6 (Fz 5) F
theorem Yb {V : Nat → Int} {D : Rat} {F : Nat → Rat} (h : ∀ k, k < 6 → ((V k : Int) : Rat) = D * F k) : ((Mb V 6 : Int) : Rat) = D * D * qs F := by
 unfold Mb Mb Mb Mb Mb Mb Mb qs
 simp only [Rat.intCast_add, Rat.intCast_mul, O8 h, h 0 (by omega), h 1 (by omega), h 2 (by omega), h 3 (by omega), h 4 (by omega), h 5 (by omega), Rat.intCast_zero]
 generalize C6 (Fz 0) F = l0
 generalize C6 (Fz 1) F = l1
 generalize C6 (Fz 2) F = l2
 generalize C6 (Fz 3) F = l3
 generalize C6 (Fz 4) F = l4
 generalize C6 (Fz 5) F = l5
 grind
theorem Wg (x : Rat) : ((x.num.natAbs : Int) : Rat) = ((x.den : Nat) : Rat) * C7 x := by
 unfold C7
 have hd : ((x.den : Nat) : Rat) ≠ 0 := fun e => by
  have q : ((x.den : Nat) : Rat) = ((0 : Nat) : Rat) := e
  rw [Rat.natCast_inj] at q
  have := x.den_pos
  omega
 rw [Rat.mkRat_eq_div]
 grind
theorem Bd.one {z : Int} (h1 : -255 ≤ z) (h2 : z ≤ 255) : Bd z 1 := by unfold Bd; omega
theorem Gz {V W : Nat → Int} {A : Nat} : ∀ n, (∀ k, k < n → Bd (V k) A) → (∀ k, k < n → Bd (W k) 1) → Bd (D6 V W n) (A + 1 + n)
 | 0, _, _ => Bd.zero _
 | n + 1, h, hw => ((Gz n (fun k hk => h k (by omega)) (fun k hk => hw k (by omega))).add (((h n (by omega)).mul (hw n (by omega))).mono (by omega))).mono (by omega)
def Zl (r s : Nat → Rat) (A : Rat) (w : World) (g gy _c : Nat) (a2 : Option Addr) (l2 c2 : Nat) (a3 : Option Addr) (l3 c3 : Nat) : Prop := ∃ (N Ny : Nat → Bool) (v vy : Nat → Value), Hm w (some ⟨g, 0, none⟩) 6 N v ∧ Km w N v (Ff (zu r 6) (zu s 6) (((um s 6 : Nat) : Int) + ((um s 6 : Nat) : Int))) 700 6 ∧ Hm w (some ⟨gy, 0, none⟩) 3 Ny vy ∧ Km w Ny vy (Pw ((um r 6 : Nat) : Int) (((um s 6 : Nat) : Int) + ((um s 6 : Nat) : Int)) (((um s 6 : Nat) : Int) + ((um s 6 : Nat) : Int))) 201 3 ∧ NV w false (.slice a2 l2 c2) ((A.num.natAbs : Nat) : Int) 200 ∧ NV w false (.slice a3 l3 c3) ((A.den : Nat) : Int) 200
theorem Zl.b {r s : Nat → Rat} {A : Rat} (w w' : World) (g gy c : Nat) (a2 : Option Addr) (l2 c2 : Nat) (a3 : Option Addr) (l3 c3 : Nat) (h : Zl r s A w g gy c a2 l2 c2 a3 l3 c3) (b : Below w.heap.size w w') : Zl r s A w' g gy c a2 l2 c2 a3 l3 c3 := by
 obtain ⟨N, Ny, v, vy, h1, h2, h3, h4, h5, h6⟩ := h
 exact ⟨N, Ny, v, vy, h1.b b, h2.b b, h3.b b, h4.b b, h5.b b, h6.b b⟩
structure Zi (r s : Nat → Rat) (A : Rat) : Prop where
 c : ∀ q, q < 6 → Bd (zu r 6 q) 701
 z : ∀ q, q < 6 → Bd (zu s 6 q) 701
 u : Bd ((um r 6 : Nat) : Int) 601
 t : Bd ((um s 6 : Nat) : Int) 601
 a : Bq A 810
theorem Zi.of {r s : Nat → Rat} {A : Rat} {K : Nat} (hK : K ≤ 100) (hr : ∀ k, k < 6 → Bq (r k) K) (hs : ∀ k, k < 6 → Bq (s k) K) (ha : Bq A 810) : Zi r s A :=
 ⟨fun q hq => (Vr hr hq).mono (by omega), fun q hq => (Vr hs hq).mono (by omega), (Mi hr).mono (by omega), (Mi hs).mono (by omega), ha⟩
theorem Qk (k : Nat) (hk : k < 6) (j : Nat) (hj : j < 3) : Bd (Hl k j) 1 := by
 have : ∀ k, k < 6 → ∀ j, j < 3 → (Hl k j).natAbs < 256 := by decide
 unfold Bd
 rw [Nat.pow_one]
 exact this k hk j hj
theorem Zi.node {r s : Nat → Rat} {A : Rat} (h : Zi r s A) {k : Nat} (hk : k < 6) : Bd (Ff (zu r 6) (zu s 6) (((um s 6 : Nat) : Int) + ((um s 6 : Nat) : Int)) k) (705 + 705 + 705 + 6) := by
 unfold Ff
 have hX := Gz (V := zu s 6) (W := Hl k) (A := 701) 3 (fun q hq => h.z q (by omega)) (fun q hq => Qk k hk q hq)
 have hY := Gz (V := fun q => zu s 6 (3 + q)) (W := Hl k) (A := 701) 3 (fun q hq => h.z (3 + q) (by omega)) (fun q hq => Qk k hk q hq)
 exact Bfm (A := 705) (B := 705) ((h.c 0 (by omega)).mono (by omega)) ((h.c 1 (by omega)).mono (by omega)) ((h.c 2 (by omega)).mono (by omega)) ((h.c 3 (by omega)).mono (by omega)) ((h.c 4 (by omega)).mono (by omega)) ((h.c 5 (by omega)).mono (by omega)) (hX.mono (by omega)) (hY.mono (by omega)) ((h.t.add h.t).mono (by omega))
theorem Zi.cast {r s : Nat → Rat} (k : Nat) : ((Ff (zu r 6) (zu s 6) (((um s 6 : Nat) : Int) + ((um s 6 : Nat) : Int)) k : Int) : Rat) = (((um r 6 : Nat) : Int) : Rat) * (((((um s 6 : Nat) : Int) + ((um s 6 : Nat) : Int) : Int) : Rat) * ((((um s 6 : Nat) : Int) + ((um s 6 : Nat) : Int) : Int) : Rat)) * Fn r s k :=
 Ur (fun _ hq => Vq r hq) (fun _ hq => Vq s hq) k
theorem Sz {n : Nat} (h : 0 < n) : ((n : Nat) : Rat) * Rat.divInt 1 (n : Nat) = 1 := by
 have hn : ((n : Nat) : Rat) ≠ 0 := fun e => by
  have q : ((n : Nat) : Rat) = ((0 : Nat) : Rat) := e
  rw [Rat.natCast_inj] at q
  omega
 rw [show Rat.divInt 1 (n : Nat) = mkRat 1 n from rfl, Rat.mkRat_eq_div, show (((1 : Int) : Rat)) = 1 from rfl]
 grind
theorem Bgh {n : Nat} (h : 0 < n) : ((n : Nat) : Rat) ≠ 0 := fun e => by
 have q : ((n : Nat) : Rat) = ((0 : Nat) : Rat) := e
 rw [Rat.natCast_inj] at q
 omega
set_option maxRecDepth 10000 in
theorem Bhk (r s : Nat → Rat) (A : Rat) (W : Nat → Int) (hl : Zi r s A) (hW : ∀ j, j < 6 → -100 ≤ W j ∧ W j ≤ 100) (w : World) (hT : Fi w) (B : Nat) (g gy c : Nat) (a2 : Option Addr) (l2 c2 : Nat) (a3 : Option Addr) (l3 c3 : Nat) (hs : Zl r s A w g gy c a2 l2 c2 a3 l3 c3) (kw : Be w B [.int .i64 (W 0), .int .i64 (W 1), .int .i64 (W 2), .int .i64 (W 3), .int .i64 (W 4), .int .i64 (W 5)] 60) {x : Rat} (hx : C7 A * C6 W (Fn r s) * Rat.divInt 1 (120 : Nat) = x) :
  Calls Tryz.prog 31 #[.agg #[.slice (some ⟨g, 0, none⟩) 6 c, .slice (some ⟨gy, 0, none⟩) 3 3, Iz false, .slice a2 l2 c2, Iz false, .slice a3 l3 c3], .slice (some ⟨B, 0, none⟩) 6 6] w (Ra w (rq x)) := by
 obtain ⟨N, Ny, v, vy, h1, h2, h3, h4, h5, h6⟩ := hs
 have bV := Gz (V := Ff (zu r 6) (zu s 6) (((um s 6 : Nat) : Int) + ((um s 6 : Nat) : Int))) (W := W) 6 (fun k hk => hl.node hk) (fun k hk => Bd.one (by have := (hW k hk).1; omega) (by have := (hW k hk).2; omega))
 have pu := upn r 6
 have pt := upn s 6
 have hden := A.den_pos
 refine Sv _ _ _ _ _ _ _ _ _ _ _ _ _ _ _ _ _ (D6 (Ff (zu r 6) (zu s 6) (((um s 6 : Nat) : Int) + ((um s 6 : Nat) : Int))) W 6) 300 _ _ _ w (fun w1 b => ?_) (fun w1 f a l c' b n => ?_)
 ·refine (Fo (some ⟨g, 0, none⟩) (some ⟨B, 0, none⟩) 6 _ 6 6 N v _ W 270 w1 (by omega) (by omega) (by omega) (h1.b b) (fun q hq => ⟨(h2 q hq).1.sharp (hl.node hq) (by omega) |>.b b, (h2 q hq).2⟩) (Bfc (kw.b b)) (fun j w2 hj => (F9 (W j) (by have := (hW j hj).1; omega) (by have := (hW j hj).2; omega) w2).mono (fun e w' h => by obtain ⟨a, l, c, h⟩ := h; exact ⟨_, a, l, c, h⟩))).mono (fun e w' h => ?_)
  obtain ⟨f, a, l, c', e1, e2, e3⟩ := h
  exact ⟨f, a, l, c', e1, e2.mono (by omega), e3⟩
 ·have bA : Bd ((A.num.natAbs : Nat) : Int) 810 := hl.a.1.abs
  have bD : Bd ((A.den : Nat) : Int) 810 := hl.a.2
  have bT := hl.t.add hl.t
  refine Sm _ _ _ _ _ _ _ _ _ _ _ _ _ _ _ _ _ _ 120 _ _ _ gy 0 3 3 Ny vy _ 300 (705 + 705 + 705 + 6 + 1 + 6 + 810) w1 (hT.b b) (by omega) (by omega) (by omega) (by omega) (by omega) (by omega) n ((h5.b b).mono (by omega)) ((h6.b b).mono (by omega)) (h3.b b) (fun q hq => ⟨((h4 q hq).1.b b).mono (by omega), (h4 q hq).2⟩) (by omega) (fun q hq => ?_) ?_ ?_ ?_
  ·match q, hq with
   | 0, _ => exact pu
   | 1, _ => exact Int.add_pos pt pt
   | 2, _ => exact Int.add_pos pt pt
  ·exact bV.mul bA
  ·rw [Rm, ← Int.natAbs_mul, ← Int.natAbs_mul]
   exact (((Bd.one (z := 120) (by omega) (by omega)).mul (bD.mul (hl.u.mul (bT.mul bT)))).mono (show 1 + (810 + (601 + (601 + 1 + (601 + 1)))) ≤ 705 + 705 + 705 + 6 + 1 + 6 + 810 by omega)).abs
  ·rw [Rm, ← Int.natAbs_mul, ← Int.natAbs_mul]
   have pT := Int.add_pos pt pt
   have pd : (0 : Int) < ((A.den : Nat) : Int) := by omega
   have pp := Int.mul_pos (show (0 : Int) < 120 by omega) (Int.mul_pos pd (Int.mul_pos pu (Int.mul_pos pT pT)))
   refine Dt.mkRat_eq (by omega) ?_
   rw [Gm.natAbs_cast pp, ← hx, Rat.intCast_mul, O8 (fun k _ => Zi.cast k), Wg A]
   have h120 := Sz (n := 120) (by omega)
   simp only [Rat.intCast_mul, Rat.intCast_natCast]
   generalize Rat.divInt 1 (120 : Nat) = t at *
   generalize C6 W (Fn r s) = y
   generalize C7 A = z
   generalize ((((um s 6 : Nat) : Int) + ((um s 6 : Nat) : Int) : Int) : Rat) = T
   have e120 : (((120 : Int) : Rat)) = ((120 : Nat) : Rat) := rfl
   rw [e120]
   generalize ((120 : Nat) : Rat) = m at *
   grind
structure Om (w : World) : Prop where
 nodes : ∃ tg fr, w.heap[2]? = some (.cells #[.int .i64 2, .int .i64 0, .int .i64 0, .int .i64 0, .int .i64 2, .int .i64 0, .int .i64 0, .int .i64 0, .int .i64 2, .int .i64 1, .int .i64 1, .int .i64 0, .int .i64 0, .int .i64 1, .int .i64 1, .int .i64 1, .int .i64 0, .int .i64 1] tg fr)
 ints : ∃ tg fr, w.heap[0]? = some (.cells #[.int .i64 0, .int .i64 0, .int .i64 0, .int .i64 20, .int .i64 20, .int .i64 20] tg fr)
 sqs : ∃ tg fr, w.heap[3]? = some (.cells #[.int .i64 6, .int .i64 (-1), .int .i64 (-1), .int .i64 0, .int .i64 (-4), .int .i64 0, .int .i64 (-1), .int .i64 6, .int .i64 (-1), .int .i64 0, .int .i64 0, .int .i64 (-4), .int .i64 (-1), .int .i64 (-1), .int .i64 6, .int .i64 (-4), .int .i64 0, .int .i64 0, .int .i64 0, .int .i64 0, .int .i64 (-4), .int .i64 32, .int .i64 16, .int .i64 16, .int .i64 (-4), .int .i64 0, .int .i64 0, .int .i64 16, .int .i64 32, .int .i64 16, .int .i64 0, .int .i64 (-4), .int .i64 0, .int .i64 16, .int .i64 16, .int .i64 32] tg fr)
theorem Wx {w : World} {g : Nat} {o : Obj} (h : w.heap[g]? = some o) : g < w.heap.size := by
 rcases Nat.lt_or_ge g w.heap.size with q | q
 ·exact q
 ·rw [Array.getElem?_eq_none q] at h; cases h
theorem Om.b {w w' : World} (h : Om w) (b : Below w.heap.size w w') : Om w' := by
 obtain ⟨⟨t1, f1, h1⟩, ⟨t2, f2, h2⟩, ⟨t3, f3, h3⟩⟩ := h
 exact ⟨⟨t1, f1, (b.block _ (Wx h1)).trans h1⟩, ⟨t2, f2, (b.block _ (Wx h2)).trans h2⟩, ⟨t3, f3, (b.block _ (Wx h3)).trans h3⟩⟩
theorem Wh {V : Nat → Int} {A : Nat} : ∀ n, n ≤ 6 → (∀ k, k < 6 → Bd (V k) A) → Bd (Mb V n) (A + (A + 1 + 6) + n)
 | 0, _, _ => Bd.zero _
 | n + 1, hn, h => by
  have hw := Gz (V := V) (W := Fz n) 6 h (fun k hk => by
   have : ∀ i, i < 6 → ∀ j, j < 6 → (Fz i j).natAbs < 256 := by decide
   unfold Bd
   rw [Nat.pow_one]
   exact this n (by omega) k hk)
  exact ((Wh n (by omega) h).add (((h n (by omega)).mul hw).mono (by omega))).mono (by omega)
theorem Mg (a b c : Int) : Gn (Ei 3 (Pw a b c) (Pw a b c)) 6 = ((a * (b * c)) * (a * (b * c))).natAbs := by
 show a.natAbs * (b.natAbs * (c.natAbs * (a.natAbs * (b.natAbs * (c.natAbs * 1))))) = _
 simp only [Int.natAbs_mul, Nat.mul_one]
 ac_rfl
set_option maxRecDepth 10000 in
theorem Bh8 (r s : Nat → Rat) (A : Rat) (hl : Zi r s A) (w : World) (hT : Fi w) (hP : Om w) (g gy c : Nat) (a2 : Option Addr) (l2 c2 : Nat) (a3 : Option Addr) (l3 c3 : Nat) (hs : Zl r s A w g gy c a2 l2 c2 a3 l3 c3) {x : Rat} (hx : C7 A * qs (Fn r s) * Rat.divInt 1 (360 : Nat) = x) :
  Calls Tryz.prog 32 #[.agg #[.slice (some ⟨g, 0, none⟩) 6 c, .slice (some ⟨gy, 0, none⟩) 3 3, Iz false, .slice a2 l2 c2, Iz false, .slice a3 l3 c3]] w (Ra w (rq x)) := by
 obtain ⟨N, Ny, v, vy, h1, h2, h3, h4, h5, h6⟩ := hs
 obtain ⟨tg, fr, ht⟩ := hP.sqs
 have h2' : Km w N v (Ff (zu r 6) (zu s 6) (((um s 6 : Nat) : Int) + ((um s 6 : Nat) : Int))) 270 6 := fun q hq => ⟨(h2 q hq).1.sharp (hl.node hq) (by omega), (h2 q hq).2⟩
 have pu := upn r 6
 have pt := upn s 6
 have pT := Int.add_pos pt pt
 have hden := A.den_pos
 have h4c : ∀ w1, Below w.heap.size w w1 → Km w1 (Ei 3 Ny Ny) (Ei 3 vy vy) (Ei 3 (Pw ((um r 6 : Nat) : Int) (((um s 6 : Nat) : Int) + ((um s 6 : Nat) : Int)) (((um s 6 : Nat) : Int) + ((um s 6 : Nat) : Int))) (Pw ((um r 6 : Nat) : Int) (((um s 6 : Nat) : Int) + ((um s 6 : Nat) : Int)) (((um s 6 : Nat) : Int) + ((um s 6 : Nat) : Int)))) 600 6 := fun w1 b q hq => by
  unfold Ei
  by_cases h : q < 3
  ·rw [if_pos h, if_pos h, if_pos h]
   exact ⟨((h4 q h).1.b b).mono (by omega), (h4 q h).2⟩
  ·rw [if_neg h, if_neg h, if_neg h]
   exact ⟨((h4 (q - 3) (by omega)).1.b b).mono (by omega), (h4 (q - 3) (by omega)).2⟩
 refine Rs _ _ _ _ _ _ _ _ _ _ _ _ _ N v (Ff (zu r 6) (zu s 6) (((um s 6 : Nat) : Int) + ((um s 6 : Nat) : Int))) 270 _ _ _ w (by omega) tg fr ht h1 h2' (fun k w1 B hk b kw => ?_) (Ei 3 Ny Ny) (Ei 3 vy vy) (fun w1 B b kc => ?_) (fun w1 f a l c' g' cap b n hr => ?_)
 ·have hsm : ∀ i, i < 6 → ∀ j, j < 6 → -1000000 ≤ Fz i j ∧ Fz i j ≤ 1000000 := by decide
  refine (Fo (some ⟨g, 0, none⟩) (some ⟨B, 0, none⟩) 6 _ 6 6 N v _ (Fz k) 270 w1 (by omega) (by omega) (by omega) (h1.b b) (h2'.b b) (Bfc kw) (fun j w2 hj => (F9 (Fz k j) (hsm k hk j hj).1 (hsm k hk j hj).2 w2).mono (fun e w' h => by obtain ⟨a, l, c, h⟩ := h; exact ⟨_, a, l, c, h⟩))).mono (fun e w' h => ?_)
  obtain ⟨f, a, l, c', e1, e2, e3⟩ := h
  exact ⟨f, a, l, c', e1, e2.mono (by omega), e3⟩
 ·refine (Vd B gy 0 3 3 gy 0 3 3 Ny Ny vy vy w1 kc (h3.b b) (h3.b b) (fun q hq => (h4 q hq).2) (fun q hq => (h4 q hq).2) (by omega) (by omega)).mono (fun e w' h => ?_)
  obtain ⟨g', cap, e1, -, e2, -, e3⟩ := h
  exact ⟨g', cap, e1, e2, e3⟩
 ·have bQ := Wh (V := (Ff (zu r 6) (zu s 6) (((um s 6 : Nat) : Int) + ((um s 6 : Nat) : Int)))) 6 (by omega) (fun k hk => hl.node hk)
  have bA : Bd ((A.num.natAbs : Nat) : Int) 810 := hl.a.1.abs
  have bD : Bd ((A.den : Nat) : Int) 810 := hl.a.2
  have bT := hl.t.add hl.t
  have b360 : Bd 360 2 := by unfold Bd; decide
  refine Sm _ _ _ _ _ _ _ _ _ _ _ _ _ _ _ _ _ _ 360 _ _ _ g' 0 6 cap _ _ (Ei 3 (Pw ((um r 6 : Nat) : Int) (((um s 6 : Nat) : Int) + ((um s 6 : Nat) : Int)) (((um s 6 : Nat) : Int) + ((um s 6 : Nat) : Int))) (Pw ((um r 6 : Nat) : Int) (((um s 6 : Nat) : Int) + ((um s 6 : Nat) : Int)) (((um s 6 : Nat) : Int) + ((um s 6 : Nat) : Int)))) 600 (705 + 705 + 705 + 6 + (705 + 705 + 705 + 6 + 1 + 6) + 6 + 810) w1 (hT.b b) (by omega) (by omega) (by omega) (by omega) (by omega) (by omega) (n.mono (by omega)) ((h5.b b).mono (by omega)) ((h6.b b).mono (by omega)) hr (h4c w1 b) (by omega) (fun q hq => ?_) ?_ ?_ ?_
  ·unfold Ei
   have : ∀ q, q < 3 → 0 < (Pw ((um r 6 : Nat) : Int) (((um s 6 : Nat) : Int) + ((um s 6 : Nat) : Int)) (((um s 6 : Nat) : Int) + ((um s 6 : Nat) : Int))) q := fun q hq => by
    match q, hq with
    | 0, _ => exact pu
    | 1, _ => exact pT
    | 2, _ => exact pT
   split
   ·exact this q (by assumption)
   ·exact this (q - 3) (by omega)
  ·exact bQ.mul bA
  ·rw [Mg, ← Int.natAbs_mul, ← Int.natAbs_mul]
   exact ((b360.mul (bD.mul ((hl.u.mul (bT.mul bT)).mul (hl.u.mul (bT.mul bT))))).mono (show 2 + (810 + (601 + (601 + 1 + (601 + 1)) + (601 + (601 + 1 + (601 + 1))))) ≤ 705 + 705 + 705 + 6 + (705 + 705 + 705 + 6 + 1 + 6) + 6 + 810 by omega)).abs
  ·rw [Mg, ← Int.natAbs_mul, ← Int.natAbs_mul]
   have pd : (0 : Int) < ((A.den : Nat) : Int) := by omega
   have p1 := Int.mul_pos pu (Int.mul_pos pT pT)
   have pp := Int.mul_pos (show (0 : Int) < 360 by omega) (Int.mul_pos pd (Int.mul_pos p1 p1))
   refine Dt.mkRat_eq (by omega) ?_
   rw [Gm.natAbs_cast pp, ← hx, Rat.intCast_mul, Yb (fun k _ => Zi.cast k), Wg A]
   have h360 := Sz (n := 360) (by omega)
   simp only [Rat.intCast_mul, Rat.intCast_natCast]
   generalize Rat.divInt 1 (360 : Nat) = t at *
   generalize qs (Fn r s) = y
   generalize C7 A = z
   generalize ((((um s 6 : Nat) : Int) + ((um s 6 : Nat) : Int) : Int) : Rat) = T
   have e360 : (((360 : Int) : Rat)) = ((360 : Nat) : Rat) := rfl
   rw [e360]
   generalize ((360 : Nat) : Rat) = m at *
   grind
theorem Be.all {w : World} {g : Nat} {L : List Value} {t : TypeId} (h : Be w g L t) : w.rangeAt g 0 L := fun j v hv => by
 rw [h.cell, Nat.zero_add]
 exact hv
theorem Be.rs {w : World} {g : Nat} {L : List Value} {t : TypeId} (h : Be w g L t) (o : Nat) (cs : List Value) (e : (L.drop o).take cs.length = cs) : w.rangeAt g o cs := fun j v hv => by
 have hj := (List.getElem?_eq_some_iff.1 hv).1
 have q : ((L.drop o).take cs.length)[j]? = some v := by rw [e]; exact hv
 rw [List.getElem?_take_of_lt hj] at q
 rw [h.cell, ← List.getElem?_drop]
 exact q
theorem Gp {P : Program} {ops : Array Oper} {rest : List Oper} {o : Oper} {a : Act} {w : World} {Q : Exit → Act → World → Prop} (hw : Region.wanted o (yielded ops a.tmps) = true) (ty : TypeId) (x : Operand) (ho : o.op = .load ty x)
  (g : Nat) (hx : a.eval x = .pointer (some ⟨g, 0, none⟩)) (t : TypeId) (cs : Array Value) (fr : Nat × Nat) (d : TypeDesc) (hg : w.heap[g]? = some (.cells cs t fr))
  (hu : P.underlying ty = some d) (hd : (match d with | .struct _ | .array _ _ => true | _ => false) = true) (hi : (P.info? ty).map (·.size) = some cs.size)
  (h : wpList P ops Q rest (a.put o.dst (.agg cs)) w) : wpList P ops Q (o :: rest) a w :=
 wpList_step fun K hK => by rw [if_pos hw]; exact wp_load_row ty x ho g hx t cs fr d hg hu hd hi (hK _ _ h)
def Cm {α : Type} (a b c d e f : α) (k : Nat) : α := match k with | 0 => a | 1 => b | 2 => c | 3 => d | 4 => e | _ => f
theorem Wo (n0 n1 n2 n3 n4 n5 p0 p1 p2 p3 p4 p5 : Bool) (s0 d0 s1 d1 s2 d2 s3 d3 s4 d4 s5 d5 q0 r0 q1 r1 q2 r2 q3 r3 q4 r4 q5 r5 : ByteArray) (w : World) (hT : Fi w) (B : Nat) (kl : Be w B (Di p0 q0 r0 p1 q1 r1 p2 q2 r2 p3 q3 r3 p4 q4 r4 p5 q5 r5) 30) (zs0 : s0.size ≤ 100 ∧ d0.size ≤ 100) (zs1 : s1.size ≤ 100 ∧ d1.size ≤ 100) (zs2 : s2.size ≤ 100 ∧ d2.size ≤ 100) (zs3 : s3.size ≤ 100 ∧ d3.size ≤ 100) (zs4 : s4.size ≤ 100 ∧ d4.size ≤ 100) (zs5 : s5.size ≤ 100 ∧ d5.size ≤ 100) (zq0 : q0.size ≤ 100 ∧ r0.size ≤ 100) (zq1 : q1.size ≤ 100 ∧ r1.size ≤ 100) (zq2 : q2.size ≤ 100 ∧ r2.size ≤ 100) (zq3 : q3.size ≤ 100 ∧ r3.size ≤ 100) (zq4 : q4.size ≤ 100 ∧ r4.size ≤ 100) (zq5 : q5.size ≤ 100 ∧ r5.size ≤ 100) :
  Calls Tryz.prog 59 #[(Cp n0 s0 d0 n1 s1 d1 n2 s2 d2 n3 s3 d3 n4 s4 d4 n5 s5 d5), .slice (some ⟨B, 0, none⟩) 3 3] w (Re w (.int .i64 ((Fy (Br (fun k => Bt (Cm n0 n1 n2 n3 n4 n5 k) (Cm s0 s1 s2 s3 s4 s5 k) (Cm d0 d1 d2 d3 d4 d5 k)) 6) (Br (fun k => Fy (Bt (f4 p0 p2 p4 p4 k) (f4 q0 q2 q4 q4 k) (f4 r0 r2 r4 r4 k)) (Bt (f4 p1 p3 p5 p5 k) (f4 q1 q3 q5 q5 k) (f4 r1 r3 r5 r5 k))) 3)) : Nat))) := by
 have := Up (Cm n0 n1 n2 n3 n4 n5) (Cm s0 s1 s2 s3 s4 s5) (Cm d0 d1 d2 d3 d4 d5) (some ⟨B, 0, none⟩) 3 3 _ _ _ _ _ _ w hT (by omega) (Bax kl) (fun k hk => by
  match k, hk with
  | 0, _ => exact zs0
  | 1, _ => exact zs1
  | 2, _ => exact zs2
  | 3, _ => exact zs3
  | 4, _ => exact zs4
  | 5, _ => exact zs5) (fun k hk => by
  match k, hk with
  | 0, _ => exact ⟨zq0, zq1⟩
  | 1, _ => exact ⟨zq2, zq3⟩
  | 2, _ => exact ⟨zq4, zq5⟩)
 exact this
theorem Bif (r : Nat → Rat) (x0 y0 x1 y1 x2 y2 : Rat) {K : Nat} (hK : K ≤ 100) (hb : ∀ k, k < 6 → Bq (r k) K) (b0 : Bq x0 K) (b1 : Bq y0 K) (b2 : Bq x1 K) (b3 : Bq y1 K) (b4 : Bq x2 K) (b5 : Bq y2 K) : Fy (Br (fun k => Bt (Bs (r k).num) (Bp (r k).num) (Bf (r k).den)) 6) (Br (fun k => Fy (Bt (f4 (Bs x0.num) (Bs x1.num) (Bs x2.num) (Bs x2.num) k) (f4 (Bp x0.num) (Bp x1.num) (Bp x2.num) (Bp x2.num) k) (f4 (Bf x0.den) (Bf x1.den) (Bf x2.den) (Bf x2.den) k)) (Bt (f4 (Bs y0.num) (Bs y1.num) (Bs y2.num) (Bs y2.num) k) (f4 (Bp y0.num) (Bp y1.num) (Bp y2.num) (Bp y2.num) k) (f4 (Bf y0.den) (Bf y1.den) (Bf y2.den) (Bf y2.den) k))) 3) = 0 := by
 rw [Bie hK hb]
 have e : ∀ k, k < 3 → Fy (Bt (f4 (Bs x0.num) (Bs x1.num) (Bs x2.num) (Bs x2.num) k) (f4 (Bp x0.num) (Bp x1.num) (Bp x2.num) (Bp x2.num) k) (f4 (Bf x0.den) (Bf x1.den) (Bf x2.den) (Bf x2.den) k)) (Bt (f4 (Bs y0.num) (Bs y1.num) (Bs y2.num) (Bs y2.num) k) (f4 (Bp y0.num) (Bp y1.num) (Bp y2.num) (Bp y2.num) k) (f4 (Bf y0.den) (Bf y1.den) (Bf y2.den) (Bf y2.den) k)) = 0 := fun k hk => by
  match k, hk with
  | 0, _ => exact Dn.2 ⟨C0 x0 (by omega) b0, C0 y0 (by omega) b1⟩
  | 1, _ => exact Dn.2 ⟨C0 x1 (by omega) b2, C0 y1 (by omega) b3⟩
  | 2, _ => exact Dn.2 ⟨C0 x2 (by omega) b4, C0 y2 (by omega) b5⟩
 refine Dn.2 ⟨rfl, ?_⟩
 unfold Br Br Br Br
 simp only [e 0 (by omega), e 1 (by omega), e 2 (by omega), if_true]
theorem P9 (n0 n1 n2 n3 n4 n5 p0 p1 p2 p3 p4 p5 : Bool) (s0 d0 s1 d1 s2 d2 s3 d3 s4 d4 s5 d5 q0 r0 q1 r1 q2 r2 q3 r3 q4 r4 q5 r5 : ByteArray) (w : World) (hT : Fi w) (hE : (Fy (Br (fun k => Bt (Cm n0 n1 n2 n3 n4 n5 k) (Cm s0 s1 s2 s3 s4 s5 k) (Cm d0 d1 d2 d3 d4 d5 k)) 6) (Br (fun k => Fy (Bt (f4 p0 p2 p4 p4 k) (f4 q0 q2 q4 q4 k) (f4 r0 r2 r4 r4 k)) (Bt (f4 p1 p3 p5 p5 k) (f4 q1 q3 q5 q5 k) (f4 r1 r3 r5 r5 k))) 3)) ≠ 0) (zs0 : s0.size ≤ 100 ∧ d0.size ≤ 100) (zs1 : s1.size ≤ 100 ∧ d1.size ≤ 100) (zs2 : s2.size ≤ 100 ∧ d2.size ≤ 100) (zs3 : s3.size ≤ 100 ∧ d3.size ≤ 100) (zs4 : s4.size ≤ 100 ∧ d4.size ≤ 100) (zs5 : s5.size ≤ 100 ∧ d5.size ≤ 100) (zq0 : q0.size ≤ 100 ∧ r0.size ≤ 100) (zq1 : q1.size ≤ 100 ∧ r1.size ≤ 100) (zq2 : q2.size ≤ 100 ∧ r2.size ≤ 100) (zq3 : q3.size ≤ 100 ∧ r3.size ≤ 100) (zq4 : q4.size ≤ 100 ∧ r4.size ≤ 100) (zq5 : q5.size ≤ 100 ∧ r5.size ≤ 100) (w1 : World) (b : Below w.heap.size w w1) :
  Calls Tryz.prog 30 #[(Cp n0 s0 d0 n1 s1 d1 n2 s2 d2 n3 s3 d3 n4 s4 d4 n5 s5 d5), (B4 p0 q0 r0 p1 q1 r1), (B4 p2 q2 r2 p3 q3 r3), (B4 p4 q4 r4 p5 q5 r5)] w1 (Re w1 (.tuple #[.agg #[.slice none 0 0, .slice none 0 0, Iz false, .slice none 0 0, Iz false, .slice none 0 0], .int .i64 ((Fy (Br (fun k => Bt (Cm n0 n1 n2 n3 n4 n5 k) (Cm s0 s1 s2 s3 s4 s5 k) (Cm d0 d1 d2 d3 d4 d5 k)) 6) (Br (fun k => Fy (Bt (f4 p0 p2 p4 p4 k) (f4 q0 q2 q4 q4 k) (f4 r0 r2 r4 r4 k)) (Bt (f4 p1 p3 p5 p5 k) (f4 q1 q3 q5 q5 k) (f4 r1 r3 r5 r5 k))) 3)) : Nat)])) :=
 Tu _ _ _ _ _ _ _ _ _ _ _ _ _ _ _ _ _ _ _ _ _ _ _ _ _ _ _ _ _ _ _ _ _ _ _ _ _ w1 (by omega) (fun w2 B b2 kl => Wo _ _ _ _ _ _ _ _ _ _ _ _ _ _ _ _ _ _ _ _ _ _ _ _ _ _ _ _ _ _ _ _ _ _ _ _ w2 ((hT.b b).b b2) B kl zs0 zs1 zs2 zs3 zs4 zs5 zq0 zq1 zq2 zq3 zq4 zq5)
theorem Bhz (r : Nat → Rat) (x0 y0 x1 y1 x2 y2 : Rat) {K : Nat} (hK : K ≤ 100) (hb : ∀ k, k < 6 → Bq (r k) K) (b0 : Bq x0 K) (b1 : Bq y0 K) (b2 : Bq x1 K) (b3 : Bq y1 K) (b4 : Bq x2 K) (b5 : Bq y2 K) (w : World) (hT : Fi w) : ∀ (w1 : World) (B : Nat), Below w.heap.size w w1 → Be w1 B (Di (Bs x0.num) (Bp x0.num) (Bf x0.den) (Bs y0.num) (Bp y0.num) (Bf y0.den) (Bs x1.num) (Bp x1.num) (Bf x1.den) (Bs y1.num) (Bp y1.num) (Bf y1.den) (Bs x2.num) (Bp x2.num) (Bf x2.den) (Bs y2.num) (Bp y2.num) (Bf y2.den)) 30 → Calls Tryz.prog 59 #[Qr r, .slice (some ⟨B, 0, none⟩) 3 3] w1 (Re w1 (.int .i64 0)) := fun w1 B b kl => by
 have := Wo (Bs (r 0).num) (Bs (r 1).num) (Bs (r 2).num) (Bs (r 3).num) (Bs (r 4).num) (Bs (r 5).num) _ _ _ _ _ _ _ _ _ _ _ _ _ _ _ _ _ _ _ _ _ _ _ _ _ _ _ _ _ _ w1 (hT.b b) B kl (Xo hK (hb 0 (by omega))) (Xo hK (hb 1 (by omega))) (Xo hK (hb 2 (by omega))) (Xo hK (hb 3 (by omega))) (Xo hK (hb 4 (by omega))) (Xo hK (hb 5 (by omega))) (Xo hK b0) (Xo hK b1) (Xo hK b2) (Xo hK b3) (Xo hK b4) (Xo hK b5)
 refine this.mono (fun e w' h => ⟨?_, h.2⟩)
 rw [h.1]
 have hz := Bif r x0 y0 x1 y1 x2 y2 hK hb b0 b1 b2 b3 b4 b5
 have hq : Br (fun k => Bt (Cm (Bs (r 0).num) (Bs (r 1).num) (Bs (r 2).num) (Bs (r 3).num) (Bs (r 4).num) (Bs (r 5).num) k) (Cm (Bp (r 0).num) (Bp (r 1).num) (Bp (r 2).num) (Bp (r 3).num) (Bp (r 4).num) (Bp (r 5).num) k) (Cm (Bf (r 0).den) (Bf (r 1).den) (Bf (r 2).den) (Bf (r 3).den) (Bf (r 4).den) (Bf (r 5).den) k)) 6 = Br (fun k => Bt (Bs (r k).num) (Bp (r k).num) (Bf (r k).den)) 6 := rfl
 rw [hq, hz]
 rfl
theorem Bb3 {z : Int} (h : z = 0) : Bp z = { data := #[] } := by
 subst h
 rfl
theorem L9 (r : Nat → Rat) (x0 y0 x1 y1 x2 y2 : Rat) {K : Nat} (hK : K ≤ 100) (hb : ∀ k, k < 6 → Bq (r k) K) (b0 : Bq x0 K) (b1 : Bq y0 K) (b2 : Bq x1 K) (b3 : Bq y1 K) (b4 : Bq x2 K) (b5 : Bq y2 K) (w : World) (hT : Fi w) (hA : ((x1 - x0) * (y2 - y0) - (y1 - y0) * (x2 - x0)) = 0) :
  Calls Tryz.prog 30 #[Qr r, pq x0 y0, pq x1 y1, pq x2 y2] w (Re w (.tuple #[.agg #[.slice none 0 0, .slice none 0 0, Iz false, .slice none 0 0, Iz false, .slice none 0 0], .int .i64 6])) := by
 refine Rx _ _ _ _ _ _ _ _ _ _ _ _ _ _ _ _ _ _ _ _ _ _ _ _ _ _ _ _ _ _ _ _ _ _ _ _ (Bs ((x1 - x0) * (y2 - y0) - (y1 - y0) * (x2 - x0)).num) (Bf ((x1 - x0) * (y2 - y0) - (y1 - y0) * (x2 - x0)).den) w (Bhz r x0 y0 x1 y1 x2 y2 hK hb b0 b1 b2 b3 b4 b5 w hT) (fun w1 b => ?_)
 have := Bfn x0 y0 x1 y1 x2 y2 hK b0 b1 b2 b3 b4 b5 w1 (hT.b b)
 have e0 : rq ((x1 - x0) * (y2 - y0) - (y1 - y0) * (x2 - x0)) = (Bo (Bs ((x1 - x0) * (y2 - y0) - (y1 - y0) * (x2 - x0)).num) eB (Bf ((x1 - x0) * (y2 - y0) - (y1 - y0) * (x2 - x0)).den)) := by
  show (Bo (Bs ((x1 - x0) * (y2 - y0) - (y1 - y0) * (x2 - x0)).num) (Bp ((x1 - x0) * (y2 - y0) - (y1 - y0) * (x2 - x0)).num) (Bf ((x1 - x0) * (y2 - y0) - (y1 - y0) * (x2 - x0)).den)) = _
  rw [Bb3 (show ((x1 - x0) * (y2 - y0) - (y1 - y0) * (x2 - x0)).num = 0 by rw [hA]; rfl)]
 rw [e0] at this
 exact this
theorem Ng (x0 y0 x1 y1 x2 y2 : Rat) {K : Nat} (hK : K ≤ 100) (b0 : Bq x0 K) (b1 : Bq y0 K) (b2 : Bq x1 K) (b3 : Bq y1 K) (b4 : Bq x2 K) (b5 : Bq y2 K) : Bq ((x1 - x0) * (y2 - y0) - (y1 - y0) * (x2 - x0)) 810 := Ci (Dw (Et (Dw b2 b0) (Dw b5 b1)) (Et (Dw b3 b1) (Dw b4 b0))) (by omega)
theorem G6 (x0 y0 x1 y1 x2 y2 : Rat) {K : Nat} (b0 : Bq x0 K) (b1 : Bq y0 K) (b2 : Bq x1 K) (b3 : Bq y1 K) (b4 : Bq x2 K) (b5 : Bq y2 K) : ∀ k, k < 6 → Bq ((Cx x0 x1 x2 y0 y1 y2) k) K := fun k hk => by
 match k, hk with
 | 0, _ => exact b0
 | 1, _ => exact b2
 | 2, _ => exact b4
 | 3, _ => exact b1
 | 4, _ => exact b3
 | 5, _ => exact b5
theorem Bgw {z : Int} (h : z ≠ 0) : (Bp z).toList.isEmpty = false := by
 unfold Bp
 rw [Gf]
 exact decide_eq_false (by omega)
theorem Wq (m : Nat) {k : Nat} (hb : Bd ((m : Nat) : Int) k) (hk : k ≤ 8 * 110) (w : World) : Calls Tryz.prog 66 #[.agg #[Iz false, I (Bf m)]] w fun e w' => ∃ a l c, e = .returned (.agg #[Iz false, .slice a l c]) ∧ NV w' false (.slice a l c) ((m : Nat) : Int) 110 ∧ Below w.heap.size w w' := by
 have hz := szn hb
 have := Ee false (Bf m) w (by omega) (okn _).1 110 (Cg 110 (by omega))
 rw [show C4 false (Bc (Bf m)) = ((m : Nat) : Int) from zon _] at this
 refine this.mono (fun e w' h => ?_)
 obtain ⟨v, h1, h2, h3⟩ := h
 obtain ⟨a, l, c, rfl⟩ := h2.slice
 exact ⟨a, l, c, h1, h2, h3⟩
theorem Bai (r : Nat → Rat) (x0 y0 x1 y1 x2 y2 : Rat) {K : Nat} (hK : K ≤ 100) (hb : ∀ k, k < 6 → Bq (r k) K) (b0 : Bq x0 K) (b1 : Bq y0 K) (b2 : Bq x1 K) (b3 : Bq y1 K) (b4 : Bq x2 K) (b5 : Bq y2 K) (w : World) (hT : Fi w) (hP : Om w) (hA : ((x1 - x0) * (y2 - y0) - (y1 - y0) * (x2 - x0)) ≠ 0) :
  Calls Tryz.prog 30 #[Qr r, pq x0 y0, pq x1 y1, pq x2 y2] w fun e w' => ∃ g gy c a2 l2 c2 a3 l3 c3, e = .returned (.tuple #[.agg #[.slice (some ⟨g, 0, none⟩) 6 c, .slice (some ⟨gy, 0, none⟩) 3 3, Iz false, .slice a2 l2 c2, Iz false, .slice a3 l3 c3], .int .i64 0]) ∧ Zl r (Cx x0 x1 x2 y0 y1 y2) ((x1 - x0) * (y2 - y0) - (y1 - y0) * (x2 - x0)) w' g gy c a2 l2 c2 a3 l3 c3 ∧ Below w.heap.size w w' := by
 obtain ⟨tg, fr, ht⟩ := hP.nodes
 have hbA := Ng x0 y0 x1 y1 x2 y2 hK b0 b1 b2 b3 b4 b5
 have hsx := G6 x0 y0 x1 y1 x2 y2 b0 b1 b2 b3 b4 b5
 have hn : ((x1 - x0) * (y2 - y0) - (y1 - y0) * (x2 - x0)).num ≠ 0 := fun e => hA (Rat.num_eq_zero.1 e)
 refine (Xt _ _ _ _ _ _ _ _ _ _ _ _ _ _ _ _ _ _ _ _ _ _ _ _ _ _ _ _ _ _ _ _ _ _ _ _ (Bs ((x1 - x0) * (y2 - y0) - (y1 - y0) * (x2 - x0)).num) (Bp ((x1 - x0) * (y2 - y0) - (y1 - y0) * (x2 - x0)).num) (Bf ((x1 - x0) * (y2 - y0) - (y1 - y0) * (x2 - x0)).den) (zu r 6) (zu (Cx x0 x1 x2 y0 y1 y2) 6) ((um r 6 : Nat) : Int) ((um (Cx x0 x1 x2 y0 y1 y2) 6 : Nat) : Int) ((((x1 - x0) * (y2 - y0) - (y1 - y0) * (x2 - x0)).num.natAbs : Nat) : Int) ((((x1 - x0) * (y2 - y0) - (y1 - y0) * (x2 - x0)).den : Nat) : Int) 160 110 w (by omega) (by omega) (Bgw hn) tg fr ht (Bhz r x0 y0 x1 y1 x2 y2 hK hb b0 b1 b2 b3 b4 b5 w hT) (fun w1 b => Bfn x0 y0 x1 y1 x2 y2 hK b0 b1 b2 b3 b4 b5 w1 (hT.b b)) (fun w1 b => ?_) (fun w1 B b kl => ?_) (fun w1 => Wq _ hbA.1.abs (by omega) w1) (fun w1 => Wq _ hbA.2 (by omega) w1)).mono (fun e w' h => ?_)
 ·refine (Ve r hK w1 (hT.b b) hb).mono (fun e w' h => ?_)
  obtain ⟨g, m, v, a, l, c, h1, h2, h3, h4, h5⟩ := h
  exact ⟨g, m, v, a, l, c, h1, h2, h3, h4.mono (by omega), h5⟩
 ·refine (Nq (some ⟨B, 0, none⟩) 6 6 (Cx x0 x1 x2 y0 y1 y2) hK (by omega) w1 (hT.b b) (X7 (N := fun k => Bs ((Cx x0 x1 x2 y0 y1 y2) k).num) (S := fun k => Bp ((Cx x0 x1 x2 y0 y1 y2) k).num) (D := fun k => Bf ((Cx x0 x1 x2 y0 y1 y2) k).den) kl) hsx).mono (fun e w' h => ?_)
  obtain ⟨g, m, v, a, l, c, h0, h1, h2, h3, h4, h5⟩ := h
  exact ⟨g, m, v, a, l, c, h0, h1, h2, h3, h4.mono (by omega), h5⟩
 ·obtain ⟨g, gy, N, Ny, v, vy, c, a2, a3, l2, c2, l3, c3, h1, h2, h3, h4, h5, h6, h7, h8⟩ := h
  exact ⟨g, gy, c, a2, l2, c2, a3, l3, c3, h1, ⟨N, Ny, v, vy, h2, h3, h4, fun q hq => ⟨(h5 q hq).1.mono (by omega), (h5 q hq).2⟩, h6.mono (by omega), h7.mono (by omega)⟩, h8⟩
theorem Bhl (r : Nat → Rat) (x0 y0 x1 y1 x2 y2 : Rat) {K : Nat} (hK : K ≤ 100) (hb : ∀ k, k < 6 → Bq (r k) K) (b0 : Bq x0 K) (b1 : Bq y0 K) (b2 : Bq x1 K) (b3 : Bq y1 K) (b4 : Bq x2 K) (b5 : Bq y2 K) (w : World) (hT : Fi w) (hP : Om w) (hA : ((x1 - x0) * (y2 - y0) - (y1 - y0) * (x2 - x0)) ≠ 0) {x : Rat} (hx : C7 ((x1 - x0) * (y2 - y0) - (y1 - y0) * (x2 - x0)) * C6 Yu (Fn r (Cx x0 x1 x2 y0 y1 y2)) * Rat.divInt 1 (120 : Nat) = x) :
  Calls Tryz.prog 11 #[Qr r, pq x0 y0, pq x1 y1, pq x2 y2] w (Ra w (.tuple #[rq x, .int .i64 0])) := by
 obtain ⟨tg, fr, ht⟩ := hP.ints
 have hl := Zi.of hK hb (G6 x0 y0 x1 y1 x2 y2 b0 b1 b2 b3 b4 b5) (Ng x0 y0 x1 y1 x2 y2 hK b0 b1 b2 b3 b4 b5)
 exact Bdw _ _ _ _ _ _ _ _ _ _ _ _ _ _ _ _ _ _ _ _ _ _ _ _ _ _ _ _ _ _ _ _ _ _ _ _ _ _ _ w tg fr ht (Zl r (Cx x0 x1 x2 y0 y1 y2) ((x1 - x0) * (y2 - y0) - (y1 - y0) * (x2 - x0))) Zl.b (fun w1 b => Bai r x0 y0 x1 y1 x2 y2 hK hb b0 b1 b2 b3 b4 b5 w1 (hT.b b) (hP.b b) hA) (fun w1 B g gy c a2 l2 c2 a3 l3 c3 b sp kw => Bhk r (Cx x0 x1 x2 y0 y1 y2) ((x1 - x0) * (y2 - y0) - (y1 - y0) * (x2 - x0)) Yu hl (by decide) w1 (hT.b b) B g gy c a2 l2 c2 a3 l3 c3 sp kw hx)
theorem Bg6 (r : Nat → Rat) (x0 y0 x1 y1 x2 y2 : Rat) {K : Nat} (hK : K ≤ 100) (hb : ∀ k, k < 6 → Bq (r k) K) (b0 : Bq x0 K) (b1 : Bq y0 K) (b2 : Bq x1 K) (b3 : Bq y1 K) (b4 : Bq x2 K) (b5 : Bq y2 K) (w : World) (hT : Fi w) (hP : Om w) (hA : ((x1 - x0) * (y2 - y0) - (y1 - y0) * (x2 - x0)) ≠ 0) {x : Rat} (hx : C7 ((x1 - x0) * (y2 - y0) - (y1 - y0) * (x2 - x0)) * qs (Fn r (Cx x0 x1 x2 y0 y1 y2)) * Rat.divInt 1 (360 : Nat) = x) :
  Calls Tryz.prog 13 #[Qr r, pq x0 y0, pq x1 y1, pq x2 y2] w (Ra w (.tuple #[rq x, .int .i64 0])) := by
 have hl := Zi.of hK hb (G6 x0 y0 x1 y1 x2 y2 b0 b1 b2 b3 b4 b5) (Ng x0 y0 x1 y1 x2 y2 hK b0 b1 b2 b3 b4 b5)
 exact Bdr _ _ _ _ _ _ _ _ _ _ _ _ _ _ _ _ _ _ _ _ _ _ _ _ _ _ _ _ _ _ _ _ _ _ _ _ _ _ _ w (Zl r (Cx x0 x1 x2 y0 y1 y2) ((x1 - x0) * (y2 - y0) - (y1 - y0) * (x2 - x0))) Zl.b (fun w1 b => Bai r x0 y0 x1 y1 x2 y2 hK hb b0 b1 b2 b3 b4 b5 w1 (hT.b b) (hP.b b) hA) (fun w1 g gy c a2 l2 c2 a3 l3 c3 b sp => Bh8 r (Cx x0 x1 x2 y0 y1 y2) ((x1 - x0) * (y2 - y0) - (y1 - y0) * (x2 - x0)) hl w1 (hT.b b) (hP.b b) g gy c a2 l2 c2 a3 l3 c3 sp hx)
theorem Bgt (n0 n1 n2 n3 n4 n5 p0 p1 p2 p3 p4 p5 : Bool) (s0 d0 s1 d1 s2 d2 s3 d3 s4 d4 s5 d5 q0 r0 q1 r1 q2 r2 q3 r3 q4 r4 q5 r5 : ByteArray) (w : World) (hT : Fi w) (hE : (Fy (Br (fun k => Bt (Cm n0 n1 n2 n3 n4 n5 k) (Cm s0 s1 s2 s3 s4 s5 k) (Cm d0 d1 d2 d3 d4 d5 k)) 6) (Br (fun k => Fy (Bt (f4 p0 p2 p4 p4 k) (f4 q0 q2 q4 q4 k) (f4 r0 r2 r4 r4 k)) (Bt (f4 p1 p3 p5 p5 k) (f4 q1 q3 q5 q5 k) (f4 r1 r3 r5 r5 k))) 3)) ≠ 0) (zs0 : s0.size ≤ 100 ∧ d0.size ≤ 100) (zs1 : s1.size ≤ 100 ∧ d1.size ≤ 100) (zs2 : s2.size ≤ 100 ∧ d2.size ≤ 100) (zs3 : s3.size ≤ 100 ∧ d3.size ≤ 100) (zs4 : s4.size ≤ 100 ∧ d4.size ≤ 100) (zs5 : s5.size ≤ 100 ∧ d5.size ≤ 100) (zq0 : q0.size ≤ 100 ∧ r0.size ≤ 100) (zq1 : q1.size ≤ 100 ∧ r1.size ≤ 100) (zq2 : q2.size ≤ 100 ∧ r2.size ≤ 100) (zq3 : q3.size ≤ 100 ∧ r3.size ≤ 100) (zq4 : q4.size ≤ 100 ∧ r4.size ≤ 100) (zq5 : q5.size ≤ 100 ∧ r5.size ≤ 100) :
  Calls Tryz.prog 11 #[(Cp n0 s0 d0 n1 s1 d1 n2 s2 d2 n3 s3 d3 n4 s4 d4 n5 s5 d5), (B4 p0 q0 r0 p1 q1 r1), (B4 p2 q2 r2 p3 q3 r3), (B4 p4 q4 r4 p5 q5 r5)] w (Ra w (.tuple #[(Bo false eB eB), .int .i64 ((Fy (Br (fun k => Bt (Cm n0 n1 n2 n3 n4 n5 k) (Cm s0 s1 s2 s3 s4 s5 k) (Cm d0 d1 d2 d3 d4 d5 k)) 6) (Br (fun k => Fy (Bt (f4 p0 p2 p4 p4 k) (f4 q0 q2 q4 q4 k) (f4 r0 r2 r4 r4 k)) (Bt (f4 p1 p3 p5 p5 k) (f4 q1 q3 q5 q5 k) (f4 r1 r3 r5 r5 k))) 3)) : Nat)])) :=
 Sl _ _ _ _ _ _ _ _ _ _ _ _ _ _ _ _ _ _ _ _ _ _ _ _ _ _ _ _ _ _ _ _ _ _ _ _ _ w (by omega) (fun w1 b => P9 _ _ _ _ _ _ _ _ _ _ _ _ _ _ _ _ _ _ _ _ _ _ _ _ _ _ _ _ _ _ _ _ _ _ _ _ w hT hE zs0 zs1 zs2 zs3 zs4 zs5 zq0 zq1 zq2 zq3 zq4 zq5 w1 b)
theorem Bbx (r : Nat → Rat) (x0 y0 x1 y1 x2 y2 : Rat) {K : Nat} (hK : K ≤ 100) (hb : ∀ k, k < 6 → Bq (r k) K) (b0 : Bq x0 K) (b1 : Bq y0 K) (b2 : Bq x1 K) (b3 : Bq y1 K) (b4 : Bq x2 K) (b5 : Bq y2 K) (w : World) (hT : Fi w) (hA : ((x1 - x0) * (y2 - y0) - (y1 - y0) * (x2 - x0)) = 0) :
  Calls Tryz.prog 11 #[Qr r, pq x0 y0, pq x1 y1, pq x2 y2] w (Ra w (.tuple #[(Bo false eB eB), .int .i64 6])) :=
 Sl _ _ _ _ _ _ _ _ _ _ _ _ _ _ _ _ _ _ _ _ _ _ _ _ _ _ _ _ _ _ _ _ _ _ _ _ 6 w (by omega) (fun w1 b => L9 r x0 y0 x1 y1 x2 y2 hK hb b0 b1 b2 b3 b4 b5 w1 (hT.b b) hA)
theorem Bfw (n0 n1 n2 n3 n4 n5 p0 p1 p2 p3 p4 p5 : Bool) (s0 d0 s1 d1 s2 d2 s3 d3 s4 d4 s5 d5 q0 r0 q1 r1 q2 r2 q3 r3 q4 r4 q5 r5 : ByteArray) (w : World) (hT : Fi w) (hE : (Fy (Br (fun k => Bt (Cm n0 n1 n2 n3 n4 n5 k) (Cm s0 s1 s2 s3 s4 s5 k) (Cm d0 d1 d2 d3 d4 d5 k)) 6) (Br (fun k => Fy (Bt (f4 p0 p2 p4 p4 k) (f4 q0 q2 q4 q4 k) (f4 r0 r2 r4 r4 k)) (Bt (f4 p1 p3 p5 p5 k) (f4 q1 q3 q5 q5 k) (f4 r1 r3 r5 r5 k))) 3)) ≠ 0) (zs0 : s0.size ≤ 100 ∧ d0.size ≤ 100) (zs1 : s1.size ≤ 100 ∧ d1.size ≤ 100) (zs2 : s2.size ≤ 100 ∧ d2.size ≤ 100) (zs3 : s3.size ≤ 100 ∧ d3.size ≤ 100) (zs4 : s4.size ≤ 100 ∧ d4.size ≤ 100) (zs5 : s5.size ≤ 100 ∧ d5.size ≤ 100) (zq0 : q0.size ≤ 100 ∧ r0.size ≤ 100) (zq1 : q1.size ≤ 100 ∧ r1.size ≤ 100) (zq2 : q2.size ≤ 100 ∧ r2.size ≤ 100) (zq3 : q3.size ≤ 100 ∧ r3.size ≤ 100) (zq4 : q4.size ≤ 100 ∧ r4.size ≤ 100) (zq5 : q5.size ≤ 100 ∧ r5.size ≤ 100) :
  Calls Tryz.prog 13 #[(Cp n0 s0 d0 n1 s1 d1 n2 s2 d2 n3 s3 d3 n4 s4 d4 n5 s5 d5), (B4 p0 q0 r0 p1 q1 r1), (B4 p2 q2 r2 p3 q3 r3), (B4 p4 q4 r4 p5 q5 r5)] w (Ra w (.tuple #[(Bo false eB eB), .int .i64 ((Fy (Br (fun k => Bt (Cm n0 n1 n2 n3 n4 n5 k) (Cm s0 s1 s2 s3 s4 s5 k) (Cm d0 d1 d2 d3 d4 d5 k)) 6) (Br (fun k => Fy (Bt (f4 p0 p2 p4 p4 k) (f4 q0 q2 q4 q4 k) (f4 r0 r2 r4 r4 k)) (Bt (f4 p1 p3 p5 p5 k) (f4 q1 q3 q5 q5 k) (f4 r1 r3 r5 r5 k))) 3)) : Nat)])) :=
 Sg _ _ _ _ _ _ _ _ _ _ _ _ _ _ _ _ _ _ _ _ _ _ _ _ _ _ _ _ _ _ _ _ _ _ _ _ _ w (by omega) (fun w1 b => P9 _ _ _ _ _ _ _ _ _ _ _ _ _ _ _ _ _ _ _ _ _ _ _ _ _ _ _ _ _ _ _ _ _ _ _ _ w hT hE zs0 zs1 zs2 zs3 zs4 zs5 zq0 zq1 zq2 zq3 zq4 zq5 w1 b)
theorem Bae (r : Nat → Rat) (x0 y0 x1 y1 x2 y2 : Rat) {K : Nat} (hK : K ≤ 100) (hb : ∀ k, k < 6 → Bq (r k) K) (b0 : Bq x0 K) (b1 : Bq y0 K) (b2 : Bq x1 K) (b3 : Bq y1 K) (b4 : Bq x2 K) (b5 : Bq y2 K) (w : World) (hT : Fi w) (hA : ((x1 - x0) * (y2 - y0) - (y1 - y0) * (x2 - x0)) = 0) :
  Calls Tryz.prog 13 #[Qr r, pq x0 y0, pq x1 y1, pq x2 y2] w (Ra w (.tuple #[(Bo false eB eB), .int .i64 6])) :=
 Sg _ _ _ _ _ _ _ _ _ _ _ _ _ _ _ _ _ _ _ _ _ _ _ _ _ _ _ _ _ _ _ _ _ _ _ _ 6 w (by omega) (fun w1 b => L9 r x0 y0 x1 y1 x2 y2 hK hb b0 b1 b2 b3 b4 b5 w1 (hT.b b) hA)
theorem Bgp (n0 n1 n2 n3 n4 n5 p0 p1 p2 p3 p4 p5 : Bool) (s0 d0 s1 d1 s2 d2 s3 d3 s4 d4 s5 d5 q0 r0 q1 r1 q2 r2 q3 r3 q4 r4 q5 r5 : ByteArray) (w : World) (hT : Fi w) (hE : (Fy (Br (fun k => Bt (Cm n0 n1 n2 n3 n4 n5 k) (Cm s0 s1 s2 s3 s4 s5 k) (Cm d0 d1 d2 d3 d4 d5 k)) 6) (Br (fun k => Fy (Bt (f4 p0 p2 p4 p4 k) (f4 q0 q2 q4 q4 k) (f4 r0 r2 r4 r4 k)) (Bt (f4 p1 p3 p5 p5 k) (f4 q1 q3 q5 q5 k) (f4 r1 r3 r5 r5 k))) 3)) ≠ 0) (zs0 : s0.size ≤ 100 ∧ d0.size ≤ 100) (zs1 : s1.size ≤ 100 ∧ d1.size ≤ 100) (zs2 : s2.size ≤ 100 ∧ d2.size ≤ 100) (zs3 : s3.size ≤ 100 ∧ d3.size ≤ 100) (zs4 : s4.size ≤ 100 ∧ d4.size ≤ 100) (zs5 : s5.size ≤ 100 ∧ d5.size ≤ 100) (zq0 : q0.size ≤ 100 ∧ r0.size ≤ 100) (zq1 : q1.size ≤ 100 ∧ r1.size ≤ 100) (zq2 : q2.size ≤ 100 ∧ r2.size ≤ 100) (zq3 : q3.size ≤ 100 ∧ r3.size ≤ 100) (zq4 : q4.size ≤ 100 ∧ r4.size ≤ 100) (zq5 : q5.size ≤ 100 ∧ r5.size ≤ 100) :
  Calls Tryz.prog 12 #[(Cp n0 s0 d0 n1 s1 d1 n2 s2 d2 n3 s3 d3 n4 s4 d4 n5 s5 d5), (B4 p0 q0 r0 p1 q1 r1), (B4 p2 q2 r2 p3 q3 r3), (B4 p4 q4 r4 p5 q5 r5)] w (Ra w (.tuple #[(Wj false eB eB false eB eB false eB eB), .int .i64 ((Fy (Br (fun k => Bt (Cm n0 n1 n2 n3 n4 n5 k) (Cm s0 s1 s2 s3 s4 s5 k) (Cm d0 d1 d2 d3 d4 d5 k)) 6) (Br (fun k => Fy (Bt (f4 p0 p2 p4 p4 k) (f4 q0 q2 q4 q4 k) (f4 r0 r2 r4 r4 k)) (Bt (f4 p1 p3 p5 p5 k) (f4 q1 q3 q5 q5 k) (f4 r1 r3 r5 r5 k))) 3)) : Nat)])) :=
 Sk _ _ _ _ _ _ _ _ _ _ _ _ _ _ _ _ _ _ _ _ _ _ _ _ _ _ _ _ _ _ _ _ _ _ _ _ _ w (by omega) (fun w1 b => P9 _ _ _ _ _ _ _ _ _ _ _ _ _ _ _ _ _ _ _ _ _ _ _ _ _ _ _ _ _ _ _ _ _ _ _ _ w hT hE zs0 zs1 zs2 zs3 zs4 zs5 zq0 zq1 zq2 zq3 zq4 zq5 w1 b)
theorem St (r : Nat → Rat) (x0 y0 x1 y1 x2 y2 : Rat) {K : Nat} (hK : K ≤ 100) (hb : ∀ k, k < 6 → Bq (r k) K) (b0 : Bq x0 K) (b1 : Bq y0 K) (b2 : Bq x1 K) (b3 : Bq y1 K) (b4 : Bq x2 K) (b5 : Bq y2 K) (w : World) (hT : Fi w) (hA : ((x1 - x0) * (y2 - y0) - (y1 - y0) * (x2 - x0)) = 0) :
  Calls Tryz.prog 12 #[Qr r, pq x0 y0, pq x1 y1, pq x2 y2] w (Ra w (.tuple #[(Wj false eB eB false eB eB false eB eB), .int .i64 6])) :=
 Sk _ _ _ _ _ _ _ _ _ _ _ _ _ _ _ _ _ _ _ _ _ _ _ _ _ _ _ _ _ _ _ _ _ _ _ _ 6 w (by omega) (fun w1 b => L9 r x0 y0 x1 y1 x2 y2 hK hb b0 b1 b2 b3 b4 b5 w1 (hT.b b) hA)
end Go.Proofs.YtnplifkgeeicjaaGreatDoor
