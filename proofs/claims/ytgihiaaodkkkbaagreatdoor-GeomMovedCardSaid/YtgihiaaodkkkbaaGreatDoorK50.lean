/-
  How points lie, over rational numbers: signs, and what whole numbers over a unit tell of them.
  Package span: numbers as a sign and limbs.
-/
import Derived.ArgAppend
import Derived.Deep.Upon
import Derived.Laws.AppendOwnNone
import Derived.Lib.AppendIntMem
import Derived.Lib.AppendZeros
import Derived.Lib.BufferGrow
import Derived.Lib.SliceRun
import Derived.Shelf.LaysM
import Derived.Shelf.Spec.TrailingZeros
import Derived.Shelf.Strconv.Itoa1
import Derived.Shelf.Strconv.Itoa2
import Derived.Shelf.Strings.BuilderK
import Derived.Shelf.Strings.Prefix
import Derived.Shelf.Strings.Repeat
import Derived.Shelf.Strings.Trim
import Derived.Test.YtgihiaaodkkkbaaGreatDoorK24
namespace Go.Proofs.YtgihiaaodkkkbaaGreatDoor
namespace Gm

/-- The sign of a rational number. -/
def sg (q : Rat) : Int := q.num.sign
/-- How three points turn: twice the area. -/
def cr (x0 y0 x1 y1 x2 y2 : Rat) : Rat := (x1 - x0) * (y2 - y0) - (y1 - y0) * (x2 - x0)
/-- The product of two ways from a point. -/
def dt (x0 y0 x1 y1 x2 y2 : Rat) : Rat := (x0 - x2) * (x1 - x2) + (y0 - y2) * (y1 - y2)
/-- Of three ways, each lifted as high as it is long, squared. -/
def lf (a b c d e f : Rat) : Rat := (a * a + b * b) * (c * f - d * e) + (c * c + d * d) * (e * b - f * a) + (e * e + f * f) * (a * d - b * c)
def ci (x0 y0 x1 y1 x2 y2 x3 y3 : Rat) : Rat := lf (x0 - x3) (y0 - y3) (x1 - x3) (y1 - y3) (x2 - x3) (y2 - y3)

theorem num_pos {q : Rat} (h : 0 < q) : 0 < q.num := by
 have h1 : 0 ≤ q.num := Rat.num_nonneg.2 (Rat.le_of_lt h)
 have h2 : q.num ≠ 0 := fun e => by rw [Rat.num_eq_zero] at e; rw [e] at h; exact absurd h (Rat.lt_irrefl)
 omega
theorem sg_pos {q : Rat} (h : 0 < q) : sg q = 1 := by
 unfold sg; exact Int.sign_eq_one_of_pos (num_pos h)
theorem sg_minus (q : Rat) : sg (-q) = - sg q := by
 unfold sg; rw [Rat.neg_num]; exact Int.sign_neg _
theorem sg_neg {q : Rat} (h : q < 0) : sg q = -1 := by
 have h1 := sg_pos (q := -q) (by grind)
 have h2 := sg_minus q
 omega
theorem sg_cases (q : Rat) : (q = 0 ∧ sg q = 0) ∨ (0 < q ∧ sg q = 1) ∨ (q < 0 ∧ sg q = -1) := by
 by_cases h0 : q = 0
 ·exact Or.inl ⟨h0, by rw [h0]; rfl⟩
 ·by_cases h : 0 < q
  ·exact Or.inr (Or.inl ⟨h, sg_pos h⟩)
  ·have h' : q < 0 := by grind
   exact Or.inr (Or.inr ⟨h', sg_neg h'⟩)
theorem sg_int (z : Int) : sg (z : Rat) = z.sign := by
 unfold sg; rfl
theorem sg_scale {k q : Rat} (hk : 0 < k) : sg (k * q) = sg q := by
 rcases sg_cases q with ⟨h, e⟩ | ⟨h, e⟩ | ⟨h, e⟩
 ·rw [e, h, Rat.mul_zero]; rfl
 ·rw [e, sg_pos (Rat.mul_pos hk h)]
 ·rw [e]
  refine sg_neg ?_
  have := Rat.mul_pos hk (show 0 < -q by grind)
  grind
theorem sg_of {z : Int} {k q : Rat} (hk : 0 < k) (h : (z : Rat) = k * q) : z.sign = sg q := by
 rw [← sg_int, h, sg_scale hk]
theorem cr_turn (x0 y0 x1 y1 x2 y2 : Rat) : cr x1 y1 x2 y2 x0 y0 = cr x0 y0 x1 y1 x2 y2 := by unfold cr; grind
theorem cr_swap (x0 y0 x1 y1 x2 y2 : Rat) : cr x1 y1 x0 y0 x2 y2 = - cr x0 y0 x1 y1 x2 y2 := by unfold cr; grind
theorem ci_turn (x0 y0 x1 y1 x2 y2 x3 y3 : Rat) : ci x2 y2 x0 y0 x1 y1 x3 y3 = ci x0 y0 x1 y1 x2 y2 x3 y3 := by unfold ci lf; grind
theorem ci_swap (x0 y0 x1 y1 x2 y2 x3 y3 : Rat) : ci x1 y1 x0 y0 x2 y2 x3 y3 = - ci x0 y0 x1 y1 x2 y2 x3 y3 := by unfold ci lf; grind
/-- A way as whole numbers over a unit. -/
def Way (X Y U : Int) (x y : Rat) : Prop := 0 < U ∧ (X : Rat) = (U : Rat) * x ∧ (Y : Rat) = (U : Rat) * y
theorem upos {U : Int} (h : 0 < U) : (0 : Rat) < (U : Rat) := by exact_mod_cast h
theorem cross_sign {X Y U X' Y' U' : Int} {x y x' y' : Rat} (h : Way X Y U x y) (h' : Way X' Y' U' x' y') : (X * Y' - Y * X').sign = sg (x * y' - y * x') := by
 refine sg_of (k := (U : Rat) * (U' : Rat)) (Rat.mul_pos (upos h.1) (upos h'.1)) ?_
 rw [Rat.intCast_sub, Rat.intCast_mul, Rat.intCast_mul, h.2.1, h.2.2, h'.2.1, h'.2.2]
 grind
theorem dot_sign {X Y U X' Y' U' : Int} {x y x' y' : Rat} (h : Way X Y U x y) (h' : Way X' Y' U' x' y') : (X * X' + Y * Y').sign = sg (x * x' + y * y') := by
 refine sg_of (k := (U : Rat) * (U' : Rat)) (Rat.mul_pos (upos h.1) (upos h'.1)) ?_
 rw [Rat.intCast_add, Rat.intCast_mul, Rat.intCast_mul, h.2.1, h.2.2, h'.2.1, h'.2.2]
 grind
theorem lift_sign {A B U C D V E F W : Int} {a b c d e f : Rat} (hu : Way A B U a b) (hv : Way C D V c d) (hw : Way E F W e f) :
  ((A * A + B * B) * ((C * V) * (F * W) - (D * V) * (E * W)) + (C * C + D * D) * ((E * W) * (B * U) - (F * W) * (A * U)) + (E * E + F * F) * ((A * U) * (D * V) - (B * U) * (C * V))).sign = sg (lf a b c d e f) := by
 refine sg_of (k := ((U : Rat) * (V : Rat) * (W : Rat)) * ((U : Rat) * (V : Rat) * (W : Rat))) ?_ ?_
 ·have := Rat.mul_pos (Rat.mul_pos (upos hu.1) (upos hv.1)) (upos hw.1)
  exact Rat.mul_pos this this
 ·simp only [Rat.intCast_sub, Rat.intCast_mul, Rat.intCast_add]
  rw [hu.2.1, hu.2.2, hv.2.1, hv.2.2, hw.2.1, hw.2.2]
  unfold lf
  grind
end Gm
end Go.Proofs.YtgihiaaodkkkbaaGreatDoor
namespace Go.Proofs.YtgihiaaodkkkbaaGreatDoor
open Go.RowKit

/-- The number z: a sign n and limbs v, fewer than L. -/
def NV (w : World) (n : Bool) (v : Value) (z : Int) (L : Nat) : Prop := ∃ k, Rd w v (M.digs B64 k) ∧ k < B64 ^ L ∧ z = sgn n k
theorem NV.below {w w' : World} {n : Bool} {v : Value} {z : Int} {L : Nat} (h : NV w n v z L) (hb : Below w.heap.size w w') : NV w' n v z L := by
 obtain ⟨k, r, h1, h2⟩ := h
 exact ⟨k, r.below hb, h1, h2⟩
theorem NV.mono {w : World} {n : Bool} {v : Value} {z : Int} {L M' : Nat} (h : NV w n v z L) (hL : L ≤ M') : NV w n v z M' := by
 obtain ⟨k, r, h1, h2⟩ := h
 exact ⟨k, r, Nat.lt_of_lt_of_le h1 (pow_le_B64 hL), h2⟩
theorem rd_slice {w : World} {v : Value} {xs : List Nat} (h : Rd w v xs) : ∃ a l c, v = .slice a l c := by
 obtain ⟨a, c, rfl, -, -⟩ := h
 exact ⟨_, _, _, rfl⟩
theorem NV.slice {w : World} {n : Bool} {v : Value} {z : Int} {L : Nat} (h : NV w n v z L) : ∃ a l c, v = .slice a l c := by
 obtain ⟨k, r, -⟩ := h
 exact rd_slice r
theorem no_ints2 (n : Bool) (a : Option Addr) (l c : Nat) : ∀ (j : Nat) (k : IntKind) (i : Int), [Value.bool n, .slice a l c][j]? ≠ some (.int k i) := by
 intro j k i
 match j with
 | 0 => simp
 | 1 => simp
 | j + 2 => simp
theorem no_ints6 (n m o : Bool) (a b d : Option Addr) (l c l1 c1 l2 c2 : Nat) : ∀ (j : Nat) (k : IntKind) (i : Int), [Value.bool n, .slice a l c, .bool m, .slice b l1 c1, .bool o, .slice d l2 c2][j]? ≠ some (.int k i) := by
 intro j k i
 match j with
 | 0 => simp
 | 1 => simp
 | 2 => simp
 | 3 => simp
 | 4 => simp
 | 5 => simp
 | j + 6 => simp
/-- Cells of a block of structs are set: limbs stay. -/
theorem NV.set2 {w : World} {n m : Bool} {v : Value} {z : Int} {L g : Nat} {a : Option Addr} {l c : Nat} {t : TypeId} (h : NV w n v z L) (hc : Cel w g [.bool m, .slice a l c] t) (x y : Value) :
  NV ((w.setCell ⟨g, 0, none⟩ x).setCell ⟨g, 1, none⟩ y) n v z L := by
 obtain ⟨k, r, h1, h2⟩ := h
 exact ⟨k, (((rdx_of_cel r hc (no_ints2 _ _ _ _)).setX 0 x).setX 1 y).rd, h1, h2⟩
theorem NV.set6 {w : World} {n m o p : Bool} {v : Value} {z : Int} {L g : Nat} {a b d : Option Addr} {l c l1 c1 l2 c2 : Nat} {t : TypeId} (h : NV w n v z L) (hc : Cel w g [.bool m, .slice a l c, .bool o, .slice b l1 c1, .bool p, .slice d l2 c2] t) (x0 x1 x2 x3 x4 x5 : Value) :
  NV ((((((w.setCell ⟨g, 0, none⟩ x0).setCell ⟨g, 1, none⟩ x1).setCell ⟨g, 2, none⟩ x2).setCell ⟨g, 3, none⟩ x3).setCell ⟨g, 4, none⟩ x4).setCell ⟨g, 5, none⟩ x5) n v z L := by
 obtain ⟨k, r, h1, h2⟩ := h
 exact ⟨k, (((((((rdx_of_cel r hc (no_ints6 _ _ _ _ _ _ _ _ _ _ _ _)).setX 0 x0).setX 1 x1).setX 2 x2).setX 3 x3).setX 4 x4).setX 5 x5).rd, h1, h2⟩
theorem load_n {w : World} {g : Nat} {x y : Value} (h : Cel w g [x, y] 93) : (loadVar 93 ⟨g, 0, none⟩).run Tryz.prog w = .ok (.agg #[x, y]) w :=
 run_loadVar_row w g 93 93 #[x, y] (0, 0) _ h Tryz.underlying93 rfl (by kernel_rfl)
theorem post_n {fn : Func} {p : Tmp} {R : Ending → World → Prop} {a : Act} {w : World} {g : Nat} {x y : Value} (h : fn.results = #[.cell p 93]) (hp : a.tmps.getD p undef = .pointer (some ⟨g, 0, none⟩)) (hd : a.defers = [])
  (hc : Cel w g [x, y] 93) (hR : R (.returned (.agg #[x, y])) w) : bodyPost Tryz.prog fn R .ret a w := by
 refine ⟨hd, .agg #[x, y], ?_, hR⟩
 exact results_cell_row (P := Tryz.prog) h _ w g 93 #[x, y] (0, 0) _ hp hc Tryz.underlying93 rfl (by kernel_rfl)
theorem sgn_sign (n : Bool) (k : Nat) : (sgn n k).sign = if k = 0 then 0 else if n then -1 else 1 := by
 unfold sgn
 by_cases h : k = 0
 ·subst h; cases n <;> rfl
 ·rw [if_neg h]
  cases n
  ·exact Int.sign_eq_one_of_pos (by simp; omega)
  ·exact Int.sign_eq_neg_one_of_neg (by simp; omega)
theorem digs_len_zero {k : Nat} : (M.digs B64 k).length = 0 ↔ k = 0 := by
 constructor
 ·intro h
  have h1 := M.val_digs B64_two k
  rw [List.length_eq_zero_iff.1 h] at h1
  exact h1.symm
 ·intro h; subst h; exact Nat.le_zero.1 (M.digs_len_of_lt B64_two (by simp))

set_option maxHeartbeats 1000000 in
theorem numOf_any (n : Bool) (s : ByteArray) (w : World) (hm : s.size ≤ 8000) (h0 : 0 < s.size → lm (byts s) 0 ≠ 0) (L : Nat) (hL : natOf s < B64 ^ L) :
  Calls Tryz.prog 146 #[.agg #[.bool n, .string s]] w fun e w' => ∃ v, e = .returned (.agg #[.bool n, v]) ∧ NV w' n v (sgn n (natOf s)) L ∧ Below w.heap.size w w' := by
 have H := shut (fun w1 => of_any s w1 (by omega) h0)
 clear h0 hm
 go_enter Tryz.func146, Tryz.ntmps146
 go_wp2_with fail
 obtain ⟨w0, hw, k0, k1, bb⟩ := mk2 w [.bool n, .string s] [.bool false, .slice none 0 0] 30 93
 rw [← hw]
 clear hw
 go_fit (H.out _)
 rintro e w1 ⟨v, rfl, r, b1⟩
 obtain ⟨a, l, c, rfl⟩ := rd_slice r
 replace k0 := k0.below b1
 replace k1 := k1.below b1
 replace bb := Below.after bb b1
 clear b1
 have c0 := cel2_0 k0
 have c1 := cel2_0 k1
 have c2 := cel2_1 k1
 have f0 := k1.frozen 0
 have f1 := k1.frozen 1
 replace r := shut r
 go_wp2
 have nv : NV w1 n (.slice a l c) (sgn n (natOf s)) L := ⟨_, r.out, hL, rfl⟩
 exact post_n (p := 2) (by kernel_rfl) rfl rfl ((k1.set 0 _).set 1 _) ⟨_, rfl, nv.set2 k1 _ _, (bb.setCell (by simp) _).setCell (by simp) _⟩
set_option maxHeartbeats 1000000 in
theorem nsign_any (n : Bool) (v : Value) (z : Int) (L : Nat) (w : World) (h : NV w n v z L) :
  Calls Tryz.prog 81 #[.agg #[.bool n, v]] w fun e w' => e = .returned (.int .i64 z.sign) ∧ Below w.heap.size w w' := by
 obtain ⟨k, r, hk, rfl⟩ := h
 rw [sgn_sign]
 by_cases h0 : k = 0
 ·rw [if_pos h0]
  have hl := digs_len_zero.2 h0
  obtain ⟨a, c, rfl, -, -⟩ := r
  rw [hl]
  go_enter Tryz.func81, Tryz.ntmps81
  go_wp2
  go_ret
  exact ⟨rfl, by go_grown⟩
 ·rw [if_neg h0]
  have hl : ¬ ((M.digs B64 k).length : Int) = 0 := fun h => h0 (digs_len_zero.1 (by omega))
  obtain ⟨a, c, rfl, -, -⟩ := r
  generalize (M.digs B64 k).length = l at *
  cases n with
  | false =>
   go_enter Tryz.func81, Tryz.ntmps81
   go_wp2
   go_ret
   exact ⟨rfl, by go_grown⟩
  | true =>
   go_enter Tryz.func81, Tryz.ntmps81
   go_wp2
   go_ret
   exact ⟨rfl, by go_grown⟩

theorem nv_len {k L : Nat} (h : k < B64 ^ L) (hL : L ≤ 1000) : (M.digs B64 k).length ≤ 4000 := Nat.le_trans (M.digs_len_of_lt B64_two h) (by omega)
set_option maxHeartbeats 1000000 in
theorem nisone_any (n : Bool) (v : Value) (z : Int) (L : Nat) (w : World) (h : NV w n v z L) :
  Calls Tryz.prog 117 #[.agg #[.bool n, v]] w fun e w' => ∃ b, e = .returned (.bool b) ∧ (b = true → z = 1 ∧ n = false) ∧ Below w.heap.size w w' := by
 obtain ⟨k, r, hk, rfl⟩ := h
 clear hk
 by_cases h1 : (M.digs B64 k).length = 1
 ·obtain ⟨a, c, rfl, -, hc⟩ := r
  obtain ⟨b, off, rfl, h0⟩ := hc 0 (by omega)
  clear hc
  have hv : Hid (lm (M.digs B64 k) 0 = k) := by
   show _ = _
   have h2 := M.val_digs B64_two k
   match hd : M.digs B64 k, h1 with
   | [x], _ => rw [hd] at h2; simpa [M.val, lm] using h2
  rw [h1]
  rw [hv.out] at h0
  simp only [Nat.add_zero] at h0
  clear h1
  by_cases hk : k = 1
  ·subst hk
   cases n with
   | true =>
    have h1 := cell_below h0 (bel_al w (.cells #[.bool true, .slice (some ⟨b, off, none⟩) 1 c] 93))
    go_enter Tryz.func117, Tryz.ntmps117
    go_wp2
    go_ret
    exact ⟨_, rfl, fun h => by simp at h, by go_grown⟩
   | false =>
    have h1 := cell_below h0 (bel_al w (.cells #[.bool false, .slice (some ⟨b, off, none⟩) 1 c] 93))
    go_enter Tryz.func117, Tryz.ntmps117
    go_wp2
    go_ret
    exact ⟨_, rfl, fun h => by simp [sgn], by go_grown⟩
  ·have hk' : ¬ (k : Int) = 1 := by omega
   clear hv
   have h1 := cell_below h0 (bel_al w (.cells #[.bool n, .slice (some ⟨b, off, none⟩) 1 c] 93))
   go_enter Tryz.func117, Tryz.ntmps117
   go_wp2
   go_ret
   exact ⟨_, rfl, fun h => by simp at h, by go_grown⟩
 ·have hl : ¬ ((M.digs B64 k).length : Int) = 1 := by omega
  obtain ⟨a, c, rfl, -, -⟩ := r
  generalize (M.digs B64 k).length = l at *
  go_enter Tryz.func117, Tryz.ntmps117
  go_wp2
  go_ret
  exact ⟨_, rfl, fun h => by simp at h, by go_grown⟩
set_option maxHeartbeats 1000000 in
theorem nsame_any (n n' : Bool) (v v' : Value) (k k' L : Nat) (w : World) (h : Rd w v (M.digs B64 k)) (h' : Rd w v' (M.digs B64 k')) (hL : L ≤ 1000) (hk : k < B64 ^ L) (hk' : k' < B64 ^ L) :
  Calls Tryz.prog 114 #[.agg #[.bool n, v], .agg #[.bool n', v']] w fun e w' => e = .returned (.bool (decide (k = k'))) ∧ Below w.heap.size w w' := by
 have H : Hid (∀ w1, Below w.heap.size w w1 → Calls Tryz.prog 147 #[v, v'] w1 fun e w' => e = .returned (.tuple #[.int .i64 (cmpN k k'), .int .i64 0]) ∧ Below w1.heap.size w1 w') := fun w1 b => by
  have := cmp_any v v' _ _ w1 (h.below b) (h'.below b) (M.Low.digs B64_two k) (M.Low.digs B64_two k') (nv_len hk hL) (nv_len hk' hL)
  rwa [M.val_digs B64_two, M.val_digs B64_two] at this
 obtain ⟨a, l, c, rfl⟩ := rd_slice h
 obtain ⟨a', l', c', rfl⟩ := rd_slice h'
 clear h h' hk hk'
 have hc : (k = k' ∧ cmpN k k' = 0) ∨ (¬ k = k' ∧ ¬ cmpN k k' = 0) := by
  unfold cmpN
  by_cases e : k = k'
  ·exact Or.inl ⟨e, by simp [e]⟩
  ·refine Or.inr ⟨e, ?_⟩
   split
   ·decide
   ·rw [if_pos (by omega)]; decide
 generalize cmpN k k' = cm at *
 go_enter Tryz.func114, Tryz.ntmps114
 go_wp2_with fail
 obtain ⟨w0, hw, k0, k1, bb⟩ := mk2 w [.bool n, .slice a l c] [.bool n', .slice a' l' c'] 93 93
 rw [← hw]
 clear hw
 go_fit (H.out _ bb)
 rintro e w1 ⟨rfl, b1⟩
 replace bb := Below.after bb b1
 rcases hc with ⟨e, h0⟩ | ⟨e, h0⟩
 ·subst h0
  go_wp2
  go_ret
  exact ⟨by rw [decide_eq_true e]; rfl, bb⟩
 ·go_wp2
  go_ret
  exact ⟨by rw [decide_eq_false e, ← beq_eq_false_iff_ne.2 h0]; rfl, bb⟩
theorem sgn_add (n : Bool) (k k' : Nat) : sgn n (k + k') = sgn n k + sgn n k' := by unfold sgn; cases n <;> simp <;> omega
theorem pow_add_lt {k k' L : Nat} (h : k < B64 ^ L) (h' : k' < B64 ^ L) : k + k' < B64 ^ (L + 1) := by
 have h2 : 2 * B64 ^ L ≤ B64 * B64 ^ L := Nat.mul_le_mul_right _ B64_two
 rw [Nat.pow_succ, Nat.mul_comm]
 omega
theorem pow_mul_lt {k k' L L' : Nat} (h : k < B64 ^ L) (h' : k' < B64 ^ L') : k * k' < B64 ^ (L + L') := by
 rw [Nat.pow_add]
 exact Nat.mul_lt_mul'' h h'
set_option maxRecDepth 100000 in
set_option maxHeartbeats 2000000 in
theorem nplus_any (n n' : Bool) (v v' : Value) (z z' : Int) (L : Nat) (w : World) (hL : L ≤ 1000) (h : NV w n v z L) (h' : NV w n' v' z' L) :
  Calls Tryz.prog 85 #[.agg #[.bool n, v], .agg #[.bool n', v']] w fun e w' => ∃ m u, e = .returned (.agg #[.bool m, u]) ∧ NV w' m u (z + z') (L + 1) ∧ Below w.heap.size w w' := by
 obtain ⟨k, r, hk, rfl⟩ := h
 obtain ⟨k', r', hk', rfl⟩ := h'
 have l1 := nv_len hk hL
 have l2 := nv_len hk' hL
 by_cases hn : n = n'
 ·subst hn
  have H : Hid (∀ w1, Below w.heap.size w w1 → Calls Tryz.prog 119 #[v, v'] w1 fun e w' => ∃ v, e = .returned (.tuple #[v, .int .i64 0]) ∧ Rd w' v (M.digs B64 (k + k')) ∧ Below w1.heap.size w1 w') := fun w1 b => by
   have := add_any v v' _ _ w1 (r.below b) (r'.below b) (M.Low.digs B64_two k) (M.Low.digs B64_two k') l1 l2
   rwa [M.val_digs B64_two, M.val_digs B64_two] at this
  obtain ⟨a, l, c, rfl⟩ := rd_slice r
  obtain ⟨a', l', c', rfl⟩ := rd_slice r'
  have HR : Hid (∀ w u, Rd w u (M.digs B64 (k + k')) → NV w n u (sgn n k + sgn n k') (L + 1)) := fun w u r => ⟨_, r, pow_add_lt hk hk', (sgn_add _ _ _).symm⟩
  generalize sgn n k + sgn n k' = z at *
  clear r r' l1 l2 hk hk'
  go_enter Tryz.func85, Tryz.ntmps85
  go_wp2_with fail
  obtain ⟨w0, hw, k0, k1, k2, bb⟩ := mk3 w [.bool n, .slice a l c] [.bool n, .slice a' l' c'] [.bool false, .slice none 0 0] 93 93 93
  rw [← hw]
  clear hw
  go_fit (H.out _ bb)
  rintro e w1 ⟨u, rfl, ru, b1⟩
  obtain ⟨a2, l2, c2, rfl⟩ := rd_slice ru
  replace k0 := k0.below b1
  replace k2 := k2.below b1
  replace bb := Below.after bb b1
  clear b1 k1
  have c0 := cel2_0 k0
  have c1 := cel2_0 k2
  have c3 := cel2_1 k2
  have f0 := k2.frozen 0
  have f1 := k2.frozen 1
  replace ru := shut ru
  go_wp2
  exact post_n (p := 4) (by kernel_rfl) rfl rfl ((k2.set 0 _).set 1 _) ⟨_, _, rfl, (HR.out _ _ ru.out).set2 k2 _ _, (bb.setCell (by simp; omega) _).setCell (by simp; omega) _⟩
 ·have hq : (n == n') = false := by simpa using hn
  obtain rfl : n' = !n := by cases n <;> cases n' <;> simp_all
  by_cases hlt : k < k'
  ·have H : Hid (∀ w1, Below w.heap.size w w1 → Calls Tryz.prog 120 #[v, v'] w1 fun e w' => e = .returned (.tuple #[.slice none 0 0, .int .i64 2]) ∧ Below w1.heap.size w1 w') := fun w1 b => by
    have := sub_any v v' _ _ w1 (r.below b) (r'.below b) (M.Low.digs B64_two k) (M.Low.digs B64_two k') l1 l2
    rw [M.val_digs B64_two, M.val_digs B64_two] at this
    exact this.mono fun e w' h => ⟨h.2.1 hlt, h.2.2⟩
   have H2 : Hid (∀ w1, Below w.heap.size w w1 → Calls Tryz.prog 120 #[v', v] w1 fun e w' => ∃ v, e = .returned (.tuple #[v, .int .i64 0]) ∧ Rd w' v (M.digs B64 (k' - k)) ∧ Below w1.heap.size w1 w') := fun w1 b => by
    have := sub_any v' v _ _ w1 (r'.below b) (r.below b) (M.Low.digs B64_two k') (M.Low.digs B64_two k) l2 l1
    rw [M.val_digs B64_two, M.val_digs B64_two] at this
    exact this.mono fun e w' h => by obtain ⟨v, h1, h2⟩ := h.1 (Nat.le_of_lt hlt); exact ⟨v, h1, h2, h.2.2⟩
   obtain ⟨a, l, c, rfl⟩ := rd_slice r
   obtain ⟨a', l', c', rfl⟩ := rd_slice r'
   have HR : Hid (∀ w u, Rd w u (M.digs B64 (k' - k)) → NV w (!n) u (sgn n k + sgn (!n) k') (L + 1)) := fun w u r => ⟨_, r, Nat.lt_of_lt_of_le (show k' - k < B64 ^ L by omega) (pow_le_B64 (by omega)), by rw [← difz_eq]; unfold difz; rw [if_pos hlt]⟩
   generalize sgn n k + sgn (!n) k' = z at *
   clear r r' l1 l2 hk hk'
   go_enter Tryz.func85, Tryz.ntmps85
   go_wp2_with fail
   obtain ⟨w0, hw, k0, k1, k2, bb⟩ := mk3 w [.bool n, .slice a l c] [.bool (!n), .slice a' l' c'] [.bool false, .slice none 0 0] 93 93 93
   rw [← hw]
   clear hw
   go_fit (H.out _ bb)
   rintro e w1 ⟨rfl, b1⟩
   replace k0 := k0.below b1
   replace k1 := k1.below b1
   replace k2 := k2.below b1
   replace bb := Below.after bb b1
   clear b1
   have c0 := cel2_1 k0
   have c1 := cel2_1 k1
   go_wp2_with fail
   go_fit (H2.out _ bb)
   rintro e w2 ⟨u, rfl, ru, b1⟩
   obtain ⟨a2, l2, c2, rfl⟩ := rd_slice ru
   replace k1 := k1.below b1
   replace k2 := k2.below b1
   replace bb := Below.after bb b1
   clear b1 c0 c1 k0
   have c0 := cel2_0 k1
   have c1 := cel2_0 k2
   have c3 := cel2_1 k2
   have f0 := k2.frozen 0
   have f1 := k2.frozen 1
   replace ru := shut ru
   go_wp2
   exact post_n (p := 4) (by kernel_rfl) rfl rfl ((k2.set 0 _).set 1 _) ⟨_, _, rfl, (HR.out _ _ ru.out).set2 k2 _ _, (bb.setCell (by simp; omega) _).setCell (by simp; omega) _⟩
  ·have H : Hid (∀ w1, Below w.heap.size w w1 → Calls Tryz.prog 120 #[v, v'] w1 fun e w' => ∃ v, e = .returned (.tuple #[v, .int .i64 0]) ∧ Rd w' v (M.digs B64 (k - k')) ∧ Below w1.heap.size w1 w') := fun w1 b => by
    have := sub_any v v' _ _ w1 (r.below b) (r'.below b) (M.Low.digs B64_two k) (M.Low.digs B64_two k') l1 l2
    rw [M.val_digs B64_two, M.val_digs B64_two] at this
    exact this.mono fun e w' h => by obtain ⟨v, h1, h2⟩ := h.1 (Nat.le_of_not_lt hlt); exact ⟨v, h1, h2, h.2.2⟩
   obtain ⟨a, l, c, rfl⟩ := rd_slice r
   obtain ⟨a', l', c', rfl⟩ := rd_slice r'
   have HR : Hid (∀ w u, Rd w u (M.digs B64 (k - k')) → NV w n u (sgn n k + sgn (!n) k') (L + 1)) := fun w u r => ⟨_, r, Nat.lt_of_lt_of_le (show k - k' < B64 ^ L by omega) (pow_le_B64 (by omega)), by rw [← difz_eq]; unfold difz; rw [if_neg hlt]⟩
   generalize sgn n k + sgn (!n) k' = z at *
   clear r r' l1 l2 hk hk'
   go_enter Tryz.func85, Tryz.ntmps85
   go_wp2_with fail
   obtain ⟨w0, hw, k0, k1, k2, bb⟩ := mk3 w [.bool n, .slice a l c] [.bool (!n), .slice a' l' c'] [.bool false, .slice none 0 0] 93 93 93
   rw [← hw]
   clear hw
   go_fit (H.out _ bb)
   rintro e w1 ⟨u, rfl, ru, b1⟩
   obtain ⟨a2, l2, c2, rfl⟩ := rd_slice ru
   replace k0 := k0.below b1
   replace k2 := k2.below b1
   replace bb := Below.after bb b1
   clear b1 k1
   have c0 := cel2_0 k0
   have c1 := cel2_0 k2
   have c3 := cel2_1 k2
   have f0 := k2.frozen 0
   have f1 := k2.frozen 1
   replace ru := shut ru
   go_wp2
   exact post_n (p := 4) (by kernel_rfl) rfl rfl ((k2.set 0 _).set 1 _) ⟨_, _, rfl, (HR.out _ _ ru.out).set2 k2 _ _, (bb.setCell (by simp; omega) _).setCell (by simp; omega) _⟩
theorem nsgn_not (n : Bool) (k : Nat) : sgn (!n) k = -sgn n k := by unfold sgn; cases n <;> simp
set_option maxRecDepth 100000 in
set_option maxHeartbeats 2000000 in
theorem nminus_any (n n' : Bool) (v v' : Value) (z z' : Int) (L : Nat) (w : World) (hL : L ≤ 1000) (h : NV w n v z L) (h' : NV w n' v' z' L) :
  Calls Tryz.prog 115 #[.agg #[.bool n, v], .agg #[.bool n', v']] w fun e w' => ∃ m u, e = .returned (.agg #[.bool m, u]) ∧ NV w' m u (z - z') (L + 1) ∧ Below w.heap.size w w' := by
 have h2 : NV w (!n') v' (-z') L := by
  obtain ⟨k, r, hk, rfl⟩ := h'
  exact ⟨k, r, hk, (nsgn_not _ _).symm⟩
 have H : Hid (∀ w1, Below w.heap.size w w1 → Calls Tryz.prog 85 #[.agg #[.bool n, v], .agg #[.bool (!n'), v']] w1 fun e w' => ∃ m u, e = .returned (.agg #[.bool m, u]) ∧ NV w' m u (z - z') (L + 1) ∧ Below w1.heap.size w1 w') := fun w1 b => by
  have := nplus_any n (!n') v v' z (-z') L w1 hL (h.below b) (h2.below b)
  rwa [← Int.sub_eq_add_neg] at this
 obtain ⟨a, l, c, rfl⟩ := h.slice
 obtain ⟨a', l', c', rfl⟩ := h'.slice
 clear h h' h2
 go_enter Tryz.func115, Tryz.ntmps115
 go_wp2_with fail
 obtain ⟨w0, hw, k0, k1, k2, bb⟩ := mk3 w [.bool n, .slice a l c] [.bool n', .slice a' l' c'] [.bool false, .slice none 0 0] 93 93 93
 rw [← hw]
 clear hw
 go_fit (H.out _ bb)
 rintro e w1 ⟨m, u, rfl, nv, b1⟩
 obtain ⟨a2, l2, c2, rfl⟩ := nv.slice
 replace k2 := k2.below b1
 replace bb := Below.after bb b1
 clear b1 k1 k0
 have c1 := cel2_0 k2
 have c3 := cel2_1 k2
 have f0 := k2.frozen 0
 have f1 := k2.frozen 1
 replace nv := shut nv
 go_wp2
 exact post_n (p := 4) (by kernel_rfl) rfl rfl ((k2.set 0 _).set 1 _) ⟨_, _, rfl, nv.out.set2 k2 _ _, (bb.setCell (by simp; omega) _).setCell (by simp; omega) _⟩
theorem nsgn_mul (n n' : Bool) (k k' : Nat) : sgn (n != n') (k * k') = sgn n k * sgn n' k' := by
 unfold sgn
 cases n <;> cases n' <;> simp <;> grind
set_option maxRecDepth 100000 in
set_option maxHeartbeats 2000000 in
theorem ntimes_any (n n' : Bool) (v v' : Value) (z z' : Int) (L L' : Nat) (w : World) (hL : L ≤ 1000) (hL' : L' ≤ 1000) (h : NV w n v z L) (h' : NV w n' v' z' L') :
  Calls Tryz.prog 84 #[.agg #[.bool n, v], .agg #[.bool n', v']] w fun e w' => ∃ m u, e = .returned (.agg #[.bool m, u]) ∧ NV w' m u (z * z') (L + L') ∧ (n = false → n' = false → m = false) ∧ Below w.heap.size w w' := by
 have H1 := shut (fun w1 (b : Below w.heap.size w w1) => nisone_any n v z L w1 (h.below b))
 have H2 := shut (fun w1 (b : Below w.heap.size w w1) => nisone_any n' v' z' L' w1 (h'.below b))
 have H3 : Hid (∀ w1, Below w.heap.size w w1 → Calls Tryz.prog 118 #[v, v'] w1 fun e w' => ∃ u, e = .returned (.tuple #[u, .int .i64 0]) ∧ NV w' (n != n') u (z * z') (L + L') ∧ Below w1.heap.size w1 w') := fun w1 b => by
  obtain ⟨k, r, hk, rfl⟩ := h
  obtain ⟨k', r', hk', rfl⟩ := h'
  have := mul_any v v' _ _ w1 (r.below b) (r'.below b) (M.Low.digs B64_two k) (M.Low.digs B64_two k') (nv_len hk hL) (nv_len hk' hL')
  rw [M.val_digs B64_two, M.val_digs B64_two] at this
  exact this.mono fun e w' ⟨u, h1, h2, h3⟩ => ⟨u, h1, ⟨_, h2, pow_mul_lt hk hk', (nsgn_mul _ _ _ _).symm⟩, h3⟩
 have HA : Hid (z = 1 → ∀ w1, Below w.heap.size w w1 → NV w1 n' v' (z * z') (L + L')) := fun e w1 b => by
  rw [e, Int.one_mul]
  exact (h'.below b).mono (by omega)
 have HB : Hid (z' = 1 → ∀ w1, Below w.heap.size w w1 → NV w1 n v (z * z') (L + L')) := fun e w1 b => by
  rw [e, Int.mul_one]
  exact (h.below b).mono (by omega)
 obtain ⟨a, l, c, rfl⟩ := h.slice
 obtain ⟨a', l', c', rfl⟩ := h'.slice
 clear h h'
 go_enter Tryz.func84, Tryz.ntmps84
 go_wp2_with fail
 obtain ⟨w0, hw, k0, k1, k2, bb⟩ := mk3 w [.bool n, .slice a l c] [.bool n', .slice a' l' c'] [.bool false, .slice none 0 0] 93 93 93
 rw [← hw]
 clear hw
 go_fit (H1.out _ bb)
 rintro e w1 ⟨b, rfl, hb, b1⟩
 replace k0 := k0.below b1
 replace k1 := k1.below b1
 replace k2 := k2.below b1
 replace bb := Below.after bb b1
 clear b1
 have c0 := cel2_0 k0
 have c1 := cel2_1 k0
 have c2 := cel2_0 k1
 have c3 := cel2_1 k1
 have c4 := cel2_0 k2
 have c5 := cel2_1 k2
 have f0 := k2.frozen 0
 have f1 := k2.frozen 1
 cases b with
 | true =>
  have hz := (hb rfl).1
  clear hb
  have nv := shut ((HA.out hz _ bb).set2 k2 (.bool n') (.slice a' l' c'))
  clear hz
  go_wp2
  exact post_n (p := 4) (by kernel_rfl) rfl rfl ((k2.set 0 _).set 1 _) ⟨_, _, rfl, nv.out, fun _ h => h, (bb.setCell (by simp; omega) _).setCell (by simp; omega) _⟩
 | false =>
 clear hb
 go_wp2_with fail
 go_fit (H2.out _ bb)
 rintro e w2 ⟨b, rfl, hb, b1⟩
 replace k0 := k0.below b1
 replace k1 := k1.below b1
 replace k2 := k2.below b1
 replace bb := Below.after bb b1
 clear b1 c0 c1 c2 c3 c4 c5 f0 f1
 have c0 := cel2_0 k0
 have c1 := cel2_1 k0
 have c2 := cel2_0 k1
 have c3 := cel2_1 k1
 have c4 := cel2_0 k2
 have c5 := cel2_1 k2
 have f0 := k2.frozen 0
 have f1 := k2.frozen 1
 cases b with
 | true =>
  have hz := (hb rfl).1
  clear hb
  have nv := shut ((HB.out hz _ bb).set2 k2 (.bool n) (.slice a l c))
  clear hz
  go_wp2
  exact post_n (p := 4) (by kernel_rfl) rfl rfl ((k2.set 0 _).set 1 _) ⟨_, _, rfl, nv.out, fun h _ => h, (bb.setCell (by simp; omega) _).setCell (by simp; omega) _⟩
 | false =>
 clear hb
 go_wp2_with fail
 go_fit (H3.out _ bb)
 rintro e w3 ⟨u, rfl, nv, b1⟩
 obtain ⟨a2, l2, c2', rfl⟩ := nv.slice
 replace k0 := k0.below b1
 replace k1 := k1.below b1
 replace k2 := k2.below b1
 replace bb := Below.after bb b1
 clear b1 c0 c1 c2 c3 c4 c5 f0 f1
 have c0 := cel2_0 k0
 have c2 := cel2_0 k1
 have c4 := cel2_0 k2
 have c5 := cel2_1 k2
 have f0 := k2.frozen 0
 have f1 := k2.frozen 1
 replace nv := shut nv
 go_wp2
 exact post_n (p := 4) (by kernel_rfl) rfl rfl ((k2.set 0 _).set 1 _) ⟨_, _, rfl, nv.out.set2 k2 _ _, fun h h' => by rw [h, h']; rfl, (bb.setCell (by simp; omega) _).setCell (by simp; omega) _⟩
end Go.Proofs.YtgihiaaodkkkbaaGreatDoor
