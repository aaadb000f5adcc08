/-
  gussetlaw06: at, short, small.
  Package span: a number in its one form.
  Package span: a number divided by others.
  Package span: a number over two others.
  gussetref04: Check, Scale; gussetlaw04: VecScales, walked.
  gussetlaw04: VecScales, of any point and number.
  Package span: how three points turn.
  Package span: whether points may be asked.
  Package span: points that may be asked; how they turn, and where one lies.
  gussetlaw06: ConsNearest, walked; gussetref03: Frac.
  gussetlaw06: ConsNear holds.
  Package geom, walked.
  Package span: the way from one point to another.
-/
import Derived.Test.YtiiigiggcbbgjaaGreatDoorG39
import Derived.Test.YtiiigiggcbbgjaaGreatDoorG40
import Derived.Test.YtiiigiggcbbgjaaGreatDoorG41
set_option maxRecDepth 100000
set_option maxHeartbeats 16000000
namespace Go.Proofs.YtiiigiggcbbgjaaGreatDoor
open Go.RowKit
theorem lat6_any (x y : Int) (h1 : -1000 ≤ x) (h2 : x ≤ 1000) (h3 : -1000 ≤ y) (h4 : y ≤ 1000) (w : World) :
  Calls Tryz.prog 57 #[.int .i64 x, .int .i64 y] w (Re w (.agg #[.bool (nfZ x), .string (sfZ x), .string ⟨#[1]⟩, .bool (nfZ y), .string (sfZ y), .string ⟨#[1]⟩])) := by
 have H1 := shut (fun w => roq_any x h1 h2 w)
 have H2 := shut (fun w => roq_any y h3 h4 w)
 clear h1 h2 h3 h4
 go_enter Tryz.func57, Tryz.ntmps57
 go_wp2_with fail
 go_fit (H1.out _)
 rintro e w1 ⟨rfl, b1⟩
 obtain ⟨kr, bb⟩ := al1 b1
 clear b1
 go_wp2_with fail
 go_fit (H2.out _)
 rintro e w2 ⟨rfl, b1⟩
 replace kr := kr.below b1
 replace bb := Below.after bb b1
 clear b1
 have f0 := Cel.frozen kr 0
 have f1 := Cel.frozen kr 1
 have f2 := Cel.frozen kr 2
 have f3 := Cel.frozen kr 3
 have f4 := Cel.frozen kr 4
 have f5 := Cel.frozen kr 5
 obtain ⟨r0, r1, r2, r3, r4, r5⟩ := xk6 kr
 go_wp2
 exact post_p (p := 4) (by kernel_rfl) rfl rfl (kr.set6 _ _ _ _ _ _) ⟨rfl, bset6 bb (Nat.le_refl _) _ _ _ _ _ _⟩
def sh6 (s d : ByteArray) : Bool := decide (s.size ≤ 60 ∧ d.size ≤ 60)
theorem short6_any (n : Bool) (s d : ByteArray) (w : World) :
  Calls Tryz.prog 56 #[.agg #[.bool n, .string s, .string d]] w (Re w (.bool (sh6 s d))) := by
 by_cases hs : s.size ≤ 60
 ·by_cases hd : d.size ≤ 60
  ·have e : Hid (sh6 s d = true) := decide_eq_true ⟨hs, hd⟩
   have i1 : (s.size : Int) ≤ 60 := by omega
   have i2 : (d.size : Int) ≤ 60 := by omega
   go_enter Tryz.func56, Tryz.ntmps56
   go_wp2
   go_ret
   exact ⟨by rw [e.out]; rfl, bel_al _ _⟩
  ·have e : Hid (sh6 s d = false) := decide_eq_false fun h => hd h.2
   have i1 : (s.size : Int) ≤ 60 := by omega
   have i2 : ¬ (d.size : Int) ≤ 60 := by omega
   go_enter Tryz.func56, Tryz.ntmps56
   go_wp2
   go_ret
   exact ⟨by rw [e.out]; rfl, bel_al _ _⟩
 ·have e : Hid (sh6 s d = false) := decide_eq_false fun h => hs h.1
  have i1 : ¬ (s.size : Int) ≤ 60 := by omega
  go_enter Tryz.func56, Tryz.ntmps56
  go_wp2
  go_ret
  exact ⟨by rw [e.out]; rfl, bel_al _ _⟩
theorem c18 {w : World} {g : Nat} {t : TypeId} {x0 x1 x2 x3 x4 x5 x6 x7 x8 x9 x10 x11 x12 x13 x14 x15 x16 x17 : Value} (h : Cel w g [x0, x1, x2, x3, x4, x5, x6, x7, x8, x9, x10, x11, x12, x13, x14, x15, x16, x17] t) : w.cell? ⟨g, 0, none⟩ = some x0 ∧ w.cell? ⟨g, 1, none⟩ = some x1 ∧ w.cell? ⟨g, 2, none⟩ = some x2 ∧ w.cell? ⟨g, 3, none⟩ = some x3 ∧ w.cell? ⟨g, 4, none⟩ = some x4 ∧ w.cell? ⟨g, 5, none⟩ = some x5 ∧ w.cell? ⟨g, 6, none⟩ = some x6 ∧ w.cell? ⟨g, 7, none⟩ = some x7 ∧ w.cell? ⟨g, 8, none⟩ = some x8 ∧ w.cell? ⟨g, 9, none⟩ = some x9 ∧ w.cell? ⟨g, 10, none⟩ = some x10 ∧ w.cell? ⟨g, 11, none⟩ = some x11 ∧ w.cell? ⟨g, 12, none⟩ = some x12 ∧ w.cell? ⟨g, 13, none⟩ = some x13 ∧ w.cell? ⟨g, 14, none⟩ = some x14 ∧ w.cell? ⟨g, 15, none⟩ = some x15 ∧ w.cell? ⟨g, 16, none⟩ = some x16 ∧ w.cell? ⟨g, 17, none⟩ = some x17 :=
 ⟨h.cell 0, h.cell 1, h.cell 2, h.cell 3, h.cell 4, h.cell 5, h.cell 6, h.cell 7, h.cell 8, h.cell 9, h.cell 10, h.cell 11, h.cell 12, h.cell 13, h.cell 14, h.cell 15, h.cell 16, h.cell 17⟩
theorem small6_walk (n0 n1 n2 n3 n4 n5 : Bool) (s0 d0 s1 d1 s2 d2 s3 d3 s4 d4 s5 d5 : ByteArray) (B0 B1 B2 B3 B4 B5 : Bool) (w : World)
  (H0 : Hid (∀ w1, Calls Tryz.prog 56 #[.agg #[.bool n0, .string s0, .string d0]] w1 (Re w1 (.bool B0))))
  (H1 : Hid (∀ w1, Calls Tryz.prog 56 #[.agg #[.bool n1, .string s1, .string d1]] w1 (Re w1 (.bool B1))))
  (H2 : Hid (∀ w1, Calls Tryz.prog 56 #[.agg #[.bool n2, .string s2, .string d2]] w1 (Re w1 (.bool B2))))
  (H3 : Hid (∀ w1, Calls Tryz.prog 56 #[.agg #[.bool n3, .string s3, .string d3]] w1 (Re w1 (.bool B3))))
  (H4 : Hid (∀ w1, Calls Tryz.prog 56 #[.agg #[.bool n4, .string s4, .string d4]] w1 (Re w1 (.bool B4))))
  (H5 : Hid (∀ w1, Calls Tryz.prog 56 #[.agg #[.bool n5, .string s5, .string d5]] w1 (Re w1 (.bool B5)))) :
  Calls Tryz.prog 18 #[.agg #[.bool n0, .string s0, .string d0, .bool n1, .string s1, .string d1, .bool n2, .string s2, .string d2, .bool n3, .string s3, .string d3, .bool n4, .string s4, .string d4, .bool n5, .string s5, .string d5]] w (Re w (.bool (B0 && (B1 && (B2 && (B3 && (B4 && B5))))))) := by
 go_enter Tryz.func18, Tryz.ntmps18
 go_wp2_with fail
 go_fit (H0.out _)
 rintro e w0 ⟨rfl, b1⟩
 obtain ⟨k, bb⟩ := al1 b1
 clear b1
 cases B0 with
 | false =>
  go_wp2
  go_ret
  exact ⟨by simp only [Bool.false_and]; rfl, bb⟩
 | true =>
 obtain ⟨c0, c1, c2, c3, c4, c5, c6, c7, c8, c9, c10, c11, c12, c13, c14, c15, c16, c17⟩ := c18 k
 go_wp2_with fail
 go_fit (H1.out _)
 rintro e w1 ⟨rfl, b1⟩
 replace k := k.below b1
 replace bb := Below.after bb b1
 clear b1
 clear c0 c1 c2 c3 c4 c5 c6 c7 c8 c9 c10 c11 c12 c13 c14 c15 c16 c17
 cases B1 with
 | false =>
  go_wp2
  go_ret
  exact ⟨by simp only [Bool.true_and, Bool.false_and]; rfl, bb⟩
 | true =>
 obtain ⟨c0, c1, c2, c3, c4, c5, c6, c7, c8, c9, c10, c11, c12, c13, c14, c15, c16, c17⟩ := c18 k
 go_wp2_with fail
 go_fit (H2.out _)
 rintro e w2 ⟨rfl, b1⟩
 replace k := k.below b1
 replace bb := Below.after bb b1
 clear b1
 clear c0 c1 c2 c3 c4 c5 c6 c7 c8 c9 c10 c11 c12 c13 c14 c15 c16 c17
 cases B2 with
 | false =>
  go_wp2
  go_ret
  exact ⟨by simp only [Bool.true_and, Bool.false_and]; rfl, bb⟩
 | true =>
 obtain ⟨c0, c1, c2, c3, c4, c5, c6, c7, c8, c9, c10, c11, c12, c13, c14, c15, c16, c17⟩ := c18 k
 go_wp2_with fail
 go_fit (H3.out _)
 rintro e w3 ⟨rfl, b1⟩
 replace k := k.below b1
 replace bb := Below.after bb b1
 clear b1
 clear c0 c1 c2 c3 c4 c5 c6 c7 c8 c9 c10 c11 c12 c13 c14 c15 c16 c17
 cases B3 with
 | false =>
  go_wp2
  go_ret
  exact ⟨by simp only [Bool.true_and, Bool.false_and]; rfl, bb⟩
 | true =>
 obtain ⟨c0, c1, c2, c3, c4, c5, c6, c7, c8, c9, c10, c11, c12, c13, c14, c15, c16, c17⟩ := c18 k
 go_wp2_with fail
 go_fit (H4.out _)
 rintro e w4 ⟨rfl, b1⟩
 replace k := k.below b1
 replace bb := Below.after bb b1
 clear b1
 clear c0 c1 c2 c3 c4 c5 c6 c7 c8 c9 c10 c11 c12 c13 c14 c15 c16 c17
 cases B4 with
 | false =>
  go_wp2
  go_ret
  exact ⟨by simp only [Bool.true_and, Bool.false_and]; rfl, bb⟩
 | true =>
 obtain ⟨c0, c1, c2, c3, c4, c5, c6, c7, c8, c9, c10, c11, c12, c13, c14, c15, c16, c17⟩ := c18 k
 go_wp2_with fail
 go_fit (H5.out _)
 rintro e w5 ⟨rfl, b1⟩
 replace k := k.below b1
 replace bb := Below.after bb b1
 clear b1
 clear c0 c1 c2 c3 c4 c5 c6 c7 c8 c9 c10 c11 c12 c13 c14 c15 c16 c17
 go_wp2
 go_ret
 exact ⟨by simp only [Bool.true_and]; rfl, bb⟩
theorem small6_any (n0 n1 n2 n3 n4 n5 : Bool) (s0 d0 s1 d1 s2 d2 s3 d3 s4 d4 s5 d5 : ByteArray) (w : World) :
  Calls Tryz.prog 18 #[.agg #[.bool n0, .string s0, .string d0, .bool n1, .string s1, .string d1, .bool n2, .string s2, .string d2, .bool n3, .string s3, .string d3, .bool n4, .string s4, .string d4, .bool n5, .string s5, .string d5]] w (Re w (.bool (sh6 s0 d0 && (sh6 s1 d1 && (sh6 s2 d2 && (sh6 s3 d3 && (sh6 s4 d4 && sh6 s5 d5))))))) :=
 small6_walk n0 n1 n2 n3 n4 n5 s0 d0 s1 d1 s2 d2 s3 d3 s4 d4 s5 d5 _ _ _ _ _ _ w (fun w1 => short6_any n0 s0 d0 w1) (fun w1 => short6_any n1 s1 d1 w1) (fun w1 => short6_any n2 s2 d2 w1) (fun w1 => short6_any n3 s3 d3 w1) (fun w1 => short6_any n4 s4 d4 w1) (fun w1 => short6_any n5 s5 d5 w1)
open Go.RowKit
theorem natAbs_sgn (n : Bool) (k : Nat) : (sgn n k).natAbs = k := by
 unfold sgn
 split <;> omega
theorem nint_any (n : Bool) (v : Value) (z : Int) (L : Nat) (w : World) (hL : L ≤ 1000) (h : NV w n v z L) :
  Calls Tryz.prog 62 #[.agg #[.bool n, v]] w (Re w (.agg #[.bool (nfZ z), .string (sfZ z)])) := by
 have H1 : Hid (∀ w1, Below w.heap.size w w1 → Calls Tryz.prog 106 #[v] w1 (Re w1 (.tuple #[.string (sfZ z), .int .i64 0]))) := fun w1 b => by
  obtain ⟨k, r, hk, rfl⟩ := h
  have := nat_any v _ w1 (r.below b) (M.Low.digs B64_two k) (nv_len hk hL)
  rw [M.val_digs B64_two] at this
  unfold sfZ
  rw [natAbs_sgn]
  exact this
 have H2 : Hid (∀ w1, Below w.heap.size w w1 → Calls Tryz.prog 72 #[.agg #[.bool n, v]] w1 (Re w1 (.int .i64 z.sign))) := fun w1 b => nsign_any n v z L w1 (h.below b)
 have hs : decide (z.sign < 0) = nfZ z := by
  unfold nfZ
  rw [decide_eq_decide]
  constructor
  ·intro k
   rcases Int.lt_trichotomy z 0 with q | q | q
   ·exact q
   ·rw [q] at k; exact absurd k (by decide)
   ·rw [Int.sign_eq_one_of_pos q] at k; exact absurd k (by decide)
  ·intro k
   rw [Int.sign_eq_neg_one_of_neg k]; decide
 obtain ⟨s, hs'⟩ : ∃ s, s = z.sign := ⟨_, rfl⟩
 rw [← hs'] at hs H2
 obtain ⟨N, hN⟩ : ∃ N, N = nfZ z := ⟨_, rfl⟩
 obtain ⟨S, hS⟩ : ∃ S, S = sfZ z := ⟨_, rfl⟩
 rw [← hN] at hs ⊢
 rw [← hS] at H1 ⊢
 obtain ⟨a, l, c, rfl⟩ := h.slice
 clear h hs' hN hS
 go_enter Tryz.func62, Tryz.ntmps62
 go_wp2_with fail
 obtain ⟨w0, hw, k0, kr, bb⟩ := mk2 w [.bool n, .slice a l c] [.bool false, .string { data := #[] }] 72 24
 rw [← hw]
 clear hw
 go_fit (H1.out _ bb)
 rintro e w1 ⟨rfl, b1⟩
 replace k0 := k0.below b1
 replace kr := kr.below b1
 replace bb := Below.after bb b1
 clear b1
 obtain ⟨c0, c1⟩ := xk2 k0
 go_wp2_with fail
 clear c0 c1
 go_fit (H2.out _ bb)
 rintro e w2 ⟨rfl, b1⟩
 replace kr := kr.below b1
 replace bb := Below.after bb b1
 clear b1
 obtain ⟨c0, c1⟩ := xk2 kr
 have f0 := kr.frozen 0
 have f1 := kr.frozen 1
 go_wp2
 exact post_z (p := 2) (by kernel_rfl) rfl rfl ((kr.set 0 _).set 1 _) ⟨rfl, bset (bset bb (by omega) 0 _) (by omega) 1 _⟩
open Go.RowKit
theorem cellsS0 : Value.cells (.string { data := #[] }) = #[.string { data := #[] }] := by kernel_rfl
theorem run_mkS (n : Nat) (hn : n ≤ 1000000) (w : World) :
  ∃ w', (Instr.makeSlice 115 (.int .i64 n) (.int .i64 n)).run Tryz.prog w = .ok (.slice (some ⟨w.heap.size, 0, none⟩) n n) w' ∧ Cells w' w.heap.size 22 n (fun _ => .string ⟨#[]⟩) ∧ Below w.heap.size w w' := by
 obtain ⟨i0, hi, hz0, hz1, hz2⟩ := info_parts (show (Tryz.prog.info? 22).map (fun i => (i.zero, i.size, i.bytes)) = some (some (.string ⟨#[]⟩), 1, 16) by kernel_rfl)
 have h := run_make (P := Tryz.prog) w 115 22 i0 (.string ⟨#[]⟩) Tryz.underlying115 hi hz0 .i64 .i64 n n (by omega) (by omega) (by rw [hz2]; omega) (by omega)
 rw [hz1, cellsS0, Int.toNat_natCast, Nat.mul_one] at h
 refine ⟨_, h, ⟨_, heap_alloc_new w _, size_madeCells _ _, fun i hi => ?_⟩, (Below.refl _ _).alloc (Nat.le_refl _) _⟩
 simp [madeCells, hi, Nat.mod_one]
theorem wpList_mkS {w : World} {ops : Array Oper} {rest : List Oper} {o : Oper} {a : Act} {Q : Exit → Act → World → Prop}
  (hg : o.guard = none) (l c : Operand) (hop : o.op = Op.makeSlice 115 l c) (L : Int) (n : Nat) (hl : a.eval l = .int .i64 L) (hc : a.eval c = .int .i64 L) (hL : L = (n : Int)) (hn : n ≤ 1000000)
  (hK : ∀ w1, Cells w1 w.heap.size 22 n (fun _ => .string ⟨#[]⟩) → Below w.heap.size w w1 → wpList Tryz.prog ops Q rest (a.put o.dst (.slice (some ⟨w.heap.size, 0, none⟩) n n)) w1) :
  wpList Tryz.prog ops Q (o :: rest) a w := by
 refine wpList_plain hg fun K hK' => ?_
 subst hL
 obtain ⟨w', hrun, hc', hb⟩ := run_mkS n hn w
 unfold Oper.wp
 simp [execOp, hop, hl, hc, hrun, Result.andThen]
 exact hK' _ _ (hK _ hc' hb)
def RdN (w : World) (a : Option Addr) (n : Nat) (m : Nat → Bool) (v : Nat → Value) : Prop :=
 ∀ j, j < n → ∃ b off, a = some ⟨b, off, none⟩ ∧ w.cell? ⟨b, off + j * 2, none⟩ = some (.bool (m j)) ∧ w.cell? ⟨b, off + j * 2 + 1, none⟩ = some (v j)
theorem RdN.below {w w' : World} {a : Option Addr} {n : Nat} {m : Nat → Bool} {v : Nat → Value} (h : RdN w a n m v) (hb : Below w.heap.size w w') : RdN w' a n m v := by
 intro j hj
 obtain ⟨b, off, e, h0, h1⟩ := h j hj
 exact ⟨b, off, e, cell_below h0 hb, cell_below h1 hb⟩
def fst' (Z : Nat → Int) (k i : Nat) : Value := if i < k then .string (sfZ (Z i)) else .string ⟨#[]⟩
theorem fst_up (Z : Nat → Int) (k i : Nat) : (if i = k then Value.string (sfZ (Z k)) else fst' Z k i) = fst' Z (k + 1) i := by
 unfold fst'
 by_cases h : i = k
 ·rw [if_pos h, if_pos (by omega), h]
 ·rw [if_neg h]
  by_cases h' : i < k
  ·rw [if_pos h', if_pos (by omega)]
  ·rw [if_neg h', if_neg (by omega)]
theorem over_walk (n0 : Bool) (v0 : Value) (a : Option Addr) (n cap : Nat) (m : Nat → Bool) (al : Nat → Option Addr) (ll cl : Nat → Nat) (z : Int) (Z : Nat → Int) (xN : Bool) (xS xD : ByteArray) (w : World) (hn : n ≤ 1000) (hv0 : ∃ a l c, v0 = .slice a l c)
  (h : RdN w a n m (fun j => .slice (al j) (ll j) (cl j)))
  (H1 : Hid (∀ (k : Nat) (w1 : World), k < n → Below w.heap.size w w1 → Calls Tryz.prog 62 #[.agg #[.bool (m k), .slice (al k) (ll k) (cl k)]] w1 (Re w1 (.agg #[.bool (nfZ (Z k)), .string (sfZ (Z k))]))))
  (H2 : Hid (∀ w1, Below w.heap.size w w1 → Calls Tryz.prog 62 #[.agg #[.bool n0, v0]] w1 (Re w1 (.agg #[.bool (nfZ z), .string (sfZ z)]))))
  (H3 : Hid (∀ (g : Nat) (w1 : World), Below w.heap.size w w1 → Cells w1 g 22 n (fst' Z n) → Calls Tryz.prog 115 #[.agg #[.bool (nfZ z), .string (sfZ z)], .slice (some ⟨g, 0, none⟩) n n] w1 (Re w1 (.agg #[.bool xN, .string xS, .string xD])))) :
  Calls Tryz.prog 78 #[.agg #[.bool n0, v0], .slice a n cap] w (Re w (.agg #[.bool xN, .string xS, .string xD])) := by
 obtain ⟨a0, l0, c0, rfl⟩ := hv0
 replace h := shut h
 go_enter Tryz.func78, Tryz.ntmps78
 go_wp2_with (at_make; refine wpList_mkS rfl _ _ rfl _ n rfl rfl rfl (by omega) ?_; intro w1 k1 b1)
 obtain ⟨k0, kr, bb⟩ := al2 b1
 have K1 : Hid (Cells w1 (w.heap.size + 1 + 1) 22 n (fst' Z 0)) := by
  show Cells _ _ _ _ _
  have k1' : Cells w1 (w.heap.size + 1 + 1) 22 n (fun _ => .string ⟨#[]⟩) := by simpa using k1
  refine k1'.congr fun i hi => ?_
  unfold fst'
  rw [if_neg (by omega)]
 clear k1 b1
 go_loopw [13] (fun i wr => ∃ k : Nat, k ≤ n ∧ i = .int .i64 k ∧ Cells wr (w.heap.size + 1 + 1) 22 n (fst' Z k) ∧ Cel wr w.heap.size [.bool n0, .slice a0 l0 c0] 72 ∧ Cel wr (w.heap.size + 1) [.bool false, .string { data := #[] }, .string { data := #[] }] 26 ∧ Below w.heap.size w wr) (fun i _ => n - (intOf i).toNat)
 case atStart => exact ⟨0, by omega, rfl, K1.out, k0, kr, bb⟩
 case round =>
  clear K1 k0 kr bb
  obtain ⟨k, hk, rfl, kg, k0, kr, bb⟩ := hrel
  by_cases hkn : k < n
  ·obtain ⟨b, off, rfl, h0, h1⟩ := h.out.below bb k hkn
   go_wp2_with fail
   go_fit (H1.out k _ hkn (ba bb _))
   rintro e w2 ⟨rfl, b2⟩
   obtain ⟨-, b2⟩ := al1 b2
   replace kg := kg.below b2
   replace k0 := k0.below b2
   replace kr := kr.below b2
   replace bb := Below.after bb b2
   clear b2 h0 h1
   have fl := fld1 (nfZ (Z k)) (sfZ (Z k))
   have q0 := kg.cell hkn
   have q1 := kg.frozen k
   have kg' : Hid (Cells (w2.setCell ⟨w.heap.size + 1 + 1, k, none⟩ (.string (sfZ (Z k)))) (w.heap.size + 1 + 1) 22 n (fst' Z (k + 1))) := by
    show Cells _ _ _ _ _
    exact (kg.set k (.string (sfZ (Z k)))).congr fun i hi => fst_up Z k i
   have k0' := shut (Cel.other (g' := w.heap.size + 1 + 1) k0 (by omega) k (.string (sfZ (Z k))))
   have kr' := shut (Cel.other (g' := w.heap.size + 1 + 1) kr (by omega) k (.string (sfZ (Z k))))
   have bb' := shut (bset (g := w.heap.size + 1 + 1) bb (by omega) k (.string (sfZ (Z k))))
   clear kg k0 kr bb
   go_wp2
   exact ⟨⟨k + 1, by omega, by go_num, kg'.out, k0'.out, kr'.out, bb'.out⟩, by simp [intOf]; omega⟩
  ·obtain rfl : k = n := by omega
   obtain ⟨c0, c1⟩ := xk2 k0
   go_wp2_with fail
   clear c0 c1
   go_fit (H2.out _ bb)
   rintro e w2 ⟨rfl, b2⟩
   replace kg := kg.below b2
   replace kr := kr.below b2
   replace bb := Below.after bb b2
   clear b2
   go_wp2_with fail
   go_fit (H3.out _ _ bb kg)
   rintro e w3 ⟨rfl, b2⟩
   replace kr := kr.below b2
   replace bb := Below.after bb b2
   clear b2
   have e0 := cel3_0 kr
   have f0 := kr.frozen 0
   have e1 := cel3_1 kr
   have f1 := kr.frozen 1
   have e2 := cel3_2 kr
   have f2 := kr.frozen 2
   go_wp2
   exact post_q (p := 4) (by kernel_rfl) rfl rfl (((kr.set 0 _).set 1 _).set 2 _) ⟨rfl, bset (bset (bset bb (by omega) 0 _) (by omega) 1 _) (by omega) 2 _⟩
open Go.RowKit
theorem NV.bd {w : World} {n : Bool} {v : Value} {z : Int} {L K : Nat} (h : NV w n v z L) (hK : 8 * L ≤ K) : Bd z K := by
 obtain ⟨k, -, hk, rfl⟩ := h
 rw [B64_pow] at hk
 show (sgn n k).natAbs < _
 rw [natAbs_sgn]
 exact Nat.lt_of_lt_of_le hk (Nat.pow_le_pow_right (by omega) hK)
theorem rds_two {w : World} {g : Nat} {t : TypeId} {Z : Nat → Int} (h : Cells w g t 2 (fst' Z 2)) : RdS w (.slice (some ⟨g, 0, none⟩) 2 2) [sfZ (Z 0), sfZ (Z 1)] := by
 refine ⟨_, 2, rfl, Nat.le_refl _, fun j hj => ⟨g, 0, rfl, ?_⟩⟩
 have hj' : j < 2 := hj
 rw [Nat.zero_add, h.cell hj']
 match j, hj' with
 | 0, _ => rfl
 | 1, _ => rfl
def tw2 {α : Type} (x y : α) (j : Nat) : α := if j = 0 then x else y
theorem rdn_two {w : World} {B : Nat} {t : TypeId} {m1 m2 : Bool} {a1 a2 : Option Addr} {l1 c1 l2 c2 : Nat} (h : Cel w B [.bool m1, .slice a1 l1 c1, .bool m2, .slice a2 l2 c2] t) : RdN w (some ⟨B, 0, none⟩) 2 (tw2 m1 m2) (fun j => .slice (tw2 a1 a2 j) (tw2 l1 l2 j) (tw2 c1 c2 j)) := by
 intro j hj
 refine ⟨B, 0, rfl, ?_⟩
 match j, hj with
 | 0, _ => exact ⟨h.cell 0, h.cell 1⟩
 | 1, _ => exact ⟨h.cell 2, h.cell 3⟩
theorem nover2 (m0 m1 m2 : Bool) (v0 : Value) (a1 a2 : Option Addr) (l1 c1 l2 c2 : Nat) (z d1 d2 : Int) (L : Nat) (B : Nat) (w : World) (hT : Tab w) (hL : L ≤ 400) (p1 : 0 < d1) (p2 : 0 < d2)
  (n0 : NV w m0 v0 z L) (n1 : NV w m1 (.slice a1 l1 c1) d1 L) (n2 : NV w m2 (.slice a2 l2 c2) d2 L) (h : Cel w B [.bool m1, .slice a1 l1 c1, .bool m2, .slice a2 l2 c2] 72) :
  Calls Tryz.prog 78 #[.agg #[.bool m0, v0], .slice (some ⟨B, 0, none⟩) 2 2] w (Re w (.agg #[.bool (nfZ (mkRat z (d1.natAbs * d2.natAbs)).num), .string (sfZ (mkRat z (d1.natAbs * d2.natAbs)).num), .string (strOf (mkRat z (d1.natAbs * d2.natAbs)).den)])) := by
 refine over_walk m0 v0 _ 2 2 (tw2 m1 m2) (tw2 a1 a2) (tw2 l1 l2) (tw2 c1 c2) z (tw2 d1 d2) _ _ _ w (by omega) n0.slice (rdn_two h) (fun k w1 hk b => ?_) (fun w1 b => nint_any _ _ z L w1 (by omega) (n0.below b)) (fun g w1 b hc => ?_)
 ·match k, hk with
  | 0, _ => exact nint_any _ _ d1 L w1 (by omega) (n1.below b)
  | 1, _ => exact nint_any _ _ d2 L w1 (by omega) (n2.below b)
 ·have b0 := n0.bd (K := 4000) (by omega)
  have b1 := n1.bd (K := 4000) (by omega)
  have b2 := n2.bd (K := 4000) (by omega)
  have o1 : OkS (sfZ d1) ∧ 0 < natOf (sfZ d1) ∧ (sfZ d1).size ≤ 8000 := ⟨okS_sfZ d1, by rw [natOf_sfZ]; omega, Nat.le_trans b1.size (by omega)⟩
  have o2 : OkS (sfZ d2) ∧ 0 < natOf (sfZ d2) ∧ (sfZ d2).size ≤ 8000 := ⟨okS_sfZ d2, by rw [natOf_sfZ]; omega, Nat.le_trans b2.size (by omega)⟩
  have hm := b1.mul b2
  have := over_any z (.slice (some ⟨g, 0, none⟩) 2 2) [sfZ d1, sfZ d2] w1 (hT.below b) (rds_two hc) (by simp) (fun x hx => by rcases List.mem_cons.1 hx with rfl | hx; exact o1; rcases List.mem_cons.1 hx with rfl | hx; exact o2; cases hx) (K := 4000 + 4000) (by omega) (b0.mono (by omega)) (by
   show natOf (sfZ d1) * (natOf (sfZ d2) * 1) < _
   rw [Nat.mul_one, natOf_sfZ, natOf_sfZ, ← Int.natAbs_mul]
   exact hm)
  rw [show Dt.nprod ([sfZ d1, sfZ d2].map natOf) = d1.natAbs * d2.natAbs by show natOf (sfZ d1) * (natOf (sfZ d2) * 1) = _; rw [Nat.mul_one, natOf_sfZ, natOf_sfZ]] at this
  exact this
end Go.Proofs.YtiiigiggcbbgjaaGreatDoor
namespace Go.Proofs.YtiiigiggcbbgjaaGreatDoor
open Go.RowKit Go.Shelf
theorem rchk4_walk (n0 n1 : Bool) (s0 d0 s1 d1 : ByteArray) (E : Int) (w : World)
  (H1 : Hid (∀ w1, Calls Tryz.prog 88 #[.agg #[.bool n0, .string s0, .string d0], .agg #[.bool n1, .string s1, .string d1]] w1 (Re w1 (.int .i64 E)))) :
  Calls Tryz.prog 42 #[.agg #[.bool n0, .string s0, .string d0, .bool n1, .string s1, .string d1]] w (Re w (.int .i64 E)) := by
 go_enter Tryz.func42, Tryz.ntmps42
 go_wp2_with fail
 go_fit (H1.out _)
 rintro e w1 ⟨rfl, b1⟩
 obtain ⟨ka, b1⟩ := al1 b1
 have sz := b1.size
 have bb := b1
 clear b1
 have ta := ka.lt
 go_wp2
 go_ret
 exact ⟨rfl, bb⟩
theorem rscale_walk (n0 n1 n2 xN yN : Bool) (s0 d0 s1 d1 s2 d2 xS xD yS yD : ByteArray) (w : World)
  (H1 : Hid (∀ w1, Calls Tryz.prog 69 #[.agg #[.bool n0, .string s0, .string d0], .agg #[.bool n2, .string s2, .string d2]] w1 (Re w1 (.agg #[.bool xN, .string xS, .string xD]))))
  (H2 : Hid (∀ w1, Calls Tryz.prog 69 #[.agg #[.bool n1, .string s1, .string d1], .agg #[.bool n2, .string s2, .string d2]] w1 (Re w1 (.agg #[.bool yN, .string yS, .string yD])))) :
  Calls Tryz.prog 36 #[.agg #[.bool n0, .string s0, .string d0, .bool n1, .string s1, .string d1], .agg #[.bool n2, .string s2, .string d2]] w (Re w (.agg #[.bool xN, .string xS, .string xD, .bool yN, .string yS, .string yD])) := by
 go_enter Tryz.func36, Tryz.ntmps36
 go_wp2_with fail
 obtain ⟨w1, hw, ka, kk, kr, b1⟩ := mk3 w [.bool n0, .string s0, .string d0, .bool n1, .string s1, .string d1] [.bool n2, .string s2, .string d2] [.bool false, .string { data := #[] }, .string { data := #[] }, .bool false, .string { data := #[] }, .string { data := #[] }] 28 26 28
 rw [← hw]
 clear hw
 have sz := b1.size
 have ta := ka.lt
 have tk := kk.lt
 have tr := kr.lt
 have bb := b1
 clear b1
 have qa : w.heap.size ≠ w.heap.size + 1 + 1 := by omega
 have qk : w.heap.size + 1 ≠ w.heap.size + 1 + 1 := by omega
 have mkS : Hid (∀ w', Cel w' (w.heap.size) [.bool n0, .string s0, .string d0, .bool n1, .string s1, .string d1] 28 → Cel w' (w.heap.size + 1) [.bool n2, .string s2, .string d2] 26 → (xc6 w' w.heap.size (.bool n0) (.string s0) (.string d0) (.bool n1) (.string s1) (.string d1) ∧ xc3 w' (w.heap.size + 1) (.bool n2) (.string s2) (.string d2))) := fun w' ha hk => ⟨xk6 ha, xk3 hk⟩
 go_region_held3 (fun w' => xc6 w' w.heap.size (.bool n0) (.string s0) (.string d0) (.bool n1) (.string s1) (.string d1) ∧ xc3 w' (w.heap.size + 1) (.bool n2) (.string s2) (.string d2)) (first | with_reducible exact mkS.out _ ka kk | with_reducible exact mkS.out _ (ka.alloc _) (kk.alloc _) | with_reducible exact mkS.out _ (Cel.other (Cel.other (Cel.other (Cel.other (Cel.other (Cel.other ka qa 0 _) qa 1 _) qa 2 _) qa 3 _) qa 4 _) qa 5 _) (Cel.other (Cel.other (Cel.other (Cel.other (Cel.other (Cel.other kk qk 0 _) qk 1 _) qk 2 _) qk 3 _) qk 4 _) qk 5 _) | exact mkS.out _ ka kk) (first | (go_at_call 69; go_fit (H1.out _); rintro e wn ⟨rfl, bn⟩; replace ka := ka.below (un bn); replace kk := kk.below (un bn); replace kr := kr.below (un bn); replace bb := Below.after bb (un bn)) | (go_at_call 69; go_fit (H2.out _); rintro e wn ⟨rfl, bn⟩; replace ka := ka.below (un bn); replace kk := kk.below (un bn); replace kr := kr.below (un bn); replace bb := Below.after bb (un bn); have e0 := cel6_0 kr; have f0 := Cel.frozen kr 0; have e1 := cel6_1 kr; have f1 := Cel.frozen kr 1; have e2 := cel6_2 kr; have f2 := Cel.frozen kr 2; have e3 := cel6_3 kr; have f3 := Cel.frozen kr 3; have e4 := cel6_4 kr; have f4 := Cel.frozen kr 4; have e5 := cel6_5 kr; have f5 := Cel.frozen kr 5))
 go_wp2
 exact post_p (p := 4) (by kernel_rfl) rfl rfl (kr.set6 _ _ _ _ _ _) ⟨rfl, bset6 bb (by omega) _ _ _ _ _ _⟩
end Go.Proofs.YtiiigiggcbbgjaaGreatDoor
namespace Go.Proofs.YtiiigiggcbbgjaaGreatDoor
open Go.RowKit Go.Shelf
theorem rchk4_any (n0 n1 : Bool) (s0 d0 s1 d1 : ByteArray) (w : World) (z0 : s0.size ≤ 8000) (y0 : d0.size ≤ 8000) (z1 : s1.size ≤ 8000) (y1 : d1.size ≤ 8000) :
  Calls Tryz.prog 42 #[.agg #[.bool n0, .string s0, .string d0, .bool n1, .string s1, .string d1]] w (Re w (.int .i64 (twoq n0 s0 d0 n1 s1 d1 : Nat))) :=
 rchk4_walk n0 n1 s0 d0 s1 d1 _ w (fun w1 => bothq_any n0 n1 s0 d0 s1 d1 w1 z0 y0 z1 y1)
open Go.RowKit
theorem load_s {w : World} {g : Nat} {x0 x1 x2 x3 x4 x5 : Value} (h : Cel w g [x0, x1, x2, x3, x4, x5] 74) : (loadVar 74 ⟨g, 0, none⟩).run Tryz.prog w = .ok (.agg #[x0, x1, x2, x3, x4, x5]) w :=
 run_loadVar_row w g 74 74 #[x0, x1, x2, x3, x4, x5] (0, 0) _ h Tryz.underlying74 rfl (by kernel_rfl)
open Go.RowKit
theorem cel4_0 {w : World} {g : Nat} {x y z u : Value} {t : TypeId} (h : Cel w g [x, y, z, u] t) : w.cell? ⟨g, 0, none⟩ = some x := h.cell 0
theorem cel4_1 {w : World} {g : Nat} {x y z u : Value} {t : TypeId} (h : Cel w g [x, y, z, u] t) : w.cell? ⟨g, 1, none⟩ = some y := h.cell 1
theorem cel4_2 {w : World} {g : Nat} {x y z u : Value} {t : TypeId} (h : Cel w g [x, y, z, u] t) : w.cell? ⟨g, 2, none⟩ = some z := h.cell 2
theorem cel4_3 {w : World} {g : Nat} {x y z u : Value} {t : TypeId} (h : Cel w g [x, y, z, u] t) : w.cell? ⟨g, 3, none⟩ = some u := h.cell 3
theorem toolong_no (B : Nat) (s0 s1 s2 s3 : ByteArray) (w : World) (h : Cel w B [.string s0, .string s1, .string s2, .string s3] 22) (z0 : s0.size ≤ 100) (z1 : s1.size ≤ 100) (z2 : s2.size ≤ 100) (z3 : s3.size ≤ 100) :
  Calls Tryz.prog 89 #[.slice (some ⟨B, 0, none⟩) 4 4] w (Re w (.bool false)) := by
 have i0 : ¬ (100 : Int) < s0.size := by omega
 have i1 : ¬ (100 : Int) < s1.size := by omega
 have i2 : ¬ (100 : Int) < s2.size := by omega
 have i3 : ¬ (100 : Int) < s3.size := by omega
 go_enter Tryz.func89, Tryz.ntmps89
 go_wp2
 go_loopw [7] (fun i wr => Below w.heap.size w wr ∧ (i = .int .i64 0 ∨ i = .int .i64 1 ∨ i = .int .i64 2 ∨ i = .int .i64 3 ∨ i = .int .i64 4)) (fun i _ => 4 - (intOf i).toNat)
 case atStart => exact ⟨Below.refl _ _, Or.inl rfl⟩
 case round =>
  obtain ⟨bb, hi⟩ := hrel
  have k := h.below bb
  obtain ⟨c0, c1, c2, c3⟩ := xk4 k
  clear k
  rcases hi with rfl | rfl | rfl | rfl | rfl
  ·go_wp2
   exact ⟨⟨bb, Or.inr (Or.inl (by go_num))⟩, by simp [intOf]⟩
  ·go_wp2
   exact ⟨⟨bb, Or.inr (Or.inr (Or.inl (by go_num)))⟩, by simp [intOf]⟩
  ·go_wp2
   exact ⟨⟨bb, Or.inr (Or.inr (Or.inr (Or.inl (by go_num))))⟩, by simp [intOf]⟩
  ·go_wp2
   exact ⟨⟨bb, Or.inr (Or.inr (Or.inr (Or.inr (by go_num))))⟩, by simp [intOf]⟩
  ·go_wp2
   go_ret
   exact ⟨rfl, bb⟩
def RdPt (w : World) (a : Option Addr) (n : Nat) (N : Nat → Bool) (S D : Nat → ByteArray) (N' : Nat → Bool) (S' D' : Nat → ByteArray) : Prop :=
 ∀ j, j < n → ∃ b off, a = some ⟨b, off, none⟩ ∧ w.cell? ⟨b, off + j * 6, none⟩ = some (.bool (N j)) ∧ w.cell? ⟨b, off + j * 6 + 1, none⟩ = some (.string (S j)) ∧ w.cell? ⟨b, off + j * 6 + 2, none⟩ = some (.string (D j)) ∧ w.cell? ⟨b, off + j * 6 + 3, none⟩ = some (.bool (N' j)) ∧ w.cell? ⟨b, off + j * 6 + 4, none⟩ = some (.string (S' j)) ∧ w.cell? ⟨b, off + j * 6 + 5, none⟩ = some (.string (D' j))
theorem RdPt.below {w w' : World} {a : Option Addr} {n : Nat} {N N' : Nat → Bool} {S D S' D' : Nat → ByteArray} (h : RdPt w a n N S D N' S' D') (hb : Below w.heap.size w w') : RdPt w' a n N S D N' S' D' := by
 intro j hj
 obtain ⟨b, off, rfl, h0, h1, h2, h3, h4, h5⟩ := h j hj
 exact ⟨b, off, rfl, cell_below h0 hb, cell_below h1 hb, cell_below h2 hb, cell_below h3 hb, cell_below h4 hb, cell_below h5 hb⟩
theorem scheck_walk (a : Option Addr) (n cap : Nat) (N N' : Nat → Bool) (S D S' D' : Nat → ByteArray) (c : Nat → Nat) (w : World) (hn : n ≤ 1000000) (h : RdPt w a n N S D N' S' D')
  (HZ : Hid (∀ k, k < n → (S k).size ≤ 100 ∧ (D k).size ≤ 100 ∧ (S' k).size ≤ 100 ∧ (D' k).size ≤ 100))
  (HC : Hid (∀ (k : Nat) (w1 : World), k < n → Below w.heap.size w w1 → Calls Tryz.prog 90 #[.agg #[.bool (N k), .string (S k), .string (D k), .bool (N' k), .string (S' k), .string (D' k)]] w1 (Re w1 (.int .i64 (c k : Nat))))) :
  Calls Tryz.prog 45 #[.slice a n cap] w (Re w (.int .i64 (firstE c n : Nat))) := by
 replace h := shut h
 go_enter Tryz.func45, Tryz.ntmps45
 go_wp2
 go_loopw [8] (fun i wr => Below w.heap.size w wr ∧ ∃ k : Nat, k ≤ n ∧ i = .int .i64 k ∧ firstE c k = 0) (fun i _ => n - (intOf i).toNat)
 case atStart => exact ⟨Below.refl _ _, 0, by omega, rfl, rfl⟩
 case round =>
  obtain ⟨bb, k, hk, rfl, hz⟩ := hrel
  by_cases hkn : k < n
  ·obtain ⟨b, off, rfl, h0, h1, h2, h3, h4, h5⟩ := h.out.below bb k hkn
   go_wp2_with fail
   obtain ⟨w1, hw, kp, kq, b1⟩ := mk2 wr [.bool (N k), .string (S k), .string (D k), .bool (N' k), .string (S' k), .string (D' k)] [.string (S k), .string (D k), .string (S' k), .string (D' k)] 28 22
   rw [← hw]
   clear hw
   replace bb := Below.after bb b1
   clear b1 h0 h1 h2 h3 h4 h5
   go_fit (toolong_no _ _ _ _ _ _ kq (HZ.out k hkn).1 (HZ.out k hkn).2.1 (HZ.out k hkn).2.2.1 (HZ.out k hkn).2.2.2)
   rintro e w2 ⟨rfl, b1⟩
   replace kp := kp.below b1
   replace bb := Below.after bb b1
   clear b1 kq
   obtain ⟨c0, c1, c2, c3, c4, c5⟩ := xk6 kp
   go_wp2_with fail
   go_fit (HC.out k _ hkn bb)
   rintro e w3 ⟨rfl, b1⟩
   replace bb := Below.after bb b1
   clear b1 c0 c1 c2 c3 c4 c5 kp
   by_cases hc : c k = 0
   ·have hs : firstE c (k + 1) = 0 := by unfold firstE; rw [if_pos hz, hc]
    replace hs := shut hs
    replace hz := shut hz
    rw [hc]
    go_wp2
    exact ⟨⟨bb, k + 1, by omega, by go_num, hs.out⟩, by simp [intOf]; omega⟩
   ·have hs := firstE_stop hz hc n hkn
    replace hs := shut hs
    replace hz := shut hz
    go_wp2
    go_ret
    exact ⟨by rw [hs.out]; rfl, bb⟩
  ·obtain rfl : k = n := by omega
   replace hz := shut hz
   go_wp2
   go_ret
   exact ⟨by rw [hz.out]; rfl, bb⟩
open Go.RowKit
theorem rdpt_3 {w : World} {B : Nat} {t : TypeId} {n0 n1 n2 n3 n4 n5 : Bool} {s0 d0 s1 d1 s2 d2 s3 d3 s4 d4 s5 d5 : ByteArray} (h : Cel w B [.bool n0, .string s0, .string d0, .bool n1, .string s1, .string d1, .bool n2, .string s2, .string d2, .bool n3, .string s3, .string d3, .bool n4, .string s4, .string d4, .bool n5, .string s5, .string d5] t) : RdPt w (some ⟨B, 0, none⟩) 3 (f4 n0 n2 n4 n4) (f4 s0 s2 s4 s4) (f4 d0 d2 d4 d4) (f4 n1 n3 n5 n5) (f4 s1 s3 s5 s5) (f4 d1 d3 d5 d5) := by
 intro j hj
 refine ⟨B, 0, rfl, ?_⟩
 match j, hj with
 | 0, _ => exact ⟨h.cell 0, h.cell 1, h.cell 2, h.cell 3, h.cell 4, h.cell 5⟩
 | 1, _ => exact ⟨h.cell 6, h.cell 7, h.cell 8, h.cell 9, h.cell 10, h.cell 11⟩
 | 2, _ => exact ⟨h.cell 12, h.cell 13, h.cell 14, h.cell 15, h.cell 16, h.cell 17⟩
theorem scheck3 (B : Nat) (n0 n1 n2 n3 n4 n5 : Bool) (s0 d0 s1 d1 s2 d2 s3 d3 s4 d4 s5 d5 : ByteArray) (w : World) (hT : Tab w) (h : Cel w B [.bool n0, .string s0, .string d0, .bool n1, .string s1, .string d1, .bool n2, .string s2, .string d2, .bool n3, .string s3, .string d3, .bool n4, .string s4, .string d4, .bool n5, .string s5, .string d5] 28) (z0 : s0.size ≤ 100 ∧ d0.size ≤ 100) (z1 : s1.size ≤ 100 ∧ d1.size ≤ 100) (z2 : s2.size ≤ 100 ∧ d2.size ≤ 100) (z3 : s3.size ≤ 100 ∧ d3.size ≤ 100) (z4 : s4.size ≤ 100 ∧ d4.size ≤ 100) (z5 : s5.size ≤ 100 ∧ d5.size ≤ 100) :
  Calls Tryz.prog 45 #[.slice (some ⟨B, 0, none⟩) 3 3] w fun e w' => e = .returned (.int .i64 (twoc (twoc (twoq n0 s0 d0 n1 s1 d1) (twoq n2 s2 d2 n3 s3 d3)) (twoq n4 s4 d4 n5 s5 d5) : Nat)) ∧ Below w.heap.size w w' := by
 refine scheck_walk (some ⟨B, 0, none⟩) 3 3 _ _ _ _ _ _ (f4 (twoq n0 s0 d0 n1 s1 d1) (twoq n2 s2 d2 n3 s3 d3) (twoq n4 s4 d4 n5 s5 d5) 0) w (by omega) (rdpt_3 h) (fun j hj => ?_) (fun j w1 hj b => ?_)
 ·match j, hj with
  | 0, _ => exact ⟨z0.1, z0.2, z1.1, z1.2⟩
  | 1, _ => exact ⟨z2.1, z2.2, z3.1, z3.2⟩
  | 2, _ => exact ⟨z4.1, z4.2, z5.1, z5.2⟩
 ·match j, hj with
  | 0, _ => exact vCheck_any n0 n1 s0 d0 s1 d1 w1 (hT.below b)
  | 1, _ => exact vCheck_any n2 n3 s2 d2 s3 d3 w1 (hT.below b)
  | 2, _ => exact vCheck_any n4 n5 s4 d4 s5 d5 w1 (hT.below b)
open Go.RowKit
theorem frac6_walk (N M : Int) (xN yN : Bool) (xS yS : ByteArray) (rN : Bool) (rS rD : ByteArray) (w : World)
  (H1 : Hid (∀ w1, Below w.heap.size w w1 → Calls Tryz.prog 84 #[.int .i64 N] w1 (Re w1 (.agg #[.bool xN, .string xS]))))
  (H2 : Hid (∀ w1, Below w.heap.size w w1 → Calls Tryz.prog 84 #[.int .i64 M] w1 (Re w1 (.agg #[.bool yN, .string yS]))))
  (H3 : Hid (∀ w1, Below w.heap.size w w1 → Calls Tryz.prog 83 #[.agg #[.bool xN, .string xS], .agg #[.bool yN, .string yS]] w1 (Re w1 (.agg #[.bool rN, .string rS, .string rD])))) :
  Calls Tryz.prog 38 #[.int .i64 N, .int .i64 M] w (Re w (.agg #[.bool rN, .string rS, .string rD])) := by
 go_enter Tryz.func38, Tryz.ntmps38
 go_wp2_with fail
 obtain ⟨w0, hw, kr, bb⟩ := mk1 w [.bool false, .string { data := #[] }, .string { data := #[] }] 26
 rw [← hw]
 clear hw
 go_fit (H1.out _ bb)
 rintro e w1 ⟨rfl, b1⟩
 replace kr := kr.below b1
 replace bb := Below.after bb b1
 clear b1
 go_wp2_with fail
 go_fit (H2.out _ bb)
 rintro e w2 ⟨rfl, b1⟩
 replace kr := kr.below b1
 replace bb := Below.after bb b1
 clear b1
 go_wp2_with fail
 go_fit (H3.out _ bb)
 rintro e w3 ⟨rfl, b1⟩
 replace kr := kr.below b1
 replace bb := Below.after bb b1
 clear b1
 obtain ⟨e0, e1, e2⟩ := xk3 kr
 have f0 := Cel.frozen kr 0
 have f1 := Cel.frozen kr 1
 have f2 := Cel.frozen kr 2
 go_wp2
 exact post_q (p := 4) (by kernel_rfl) rfl rfl (((kr.set 0 _).set 1 _).set 2 _) ⟨rfl, bset (bset (bset bb (by omega) 0 _) (by omega) 1 _) (by omega) 2 _⟩
theorem nearest6_l (n0 n1 n2 n3 n4 n5 : Bool) (s0 d0 s1 d1 s2 d2 s3 d3 s4 d4 s5 d5 : ByteArray) (N M : Int) (w : World)
  (HS : Hid (∀ w1, Calls Tryz.prog 18 #[.agg #[.bool n0, .string s0, .string d0, .bool n1, .string s1, .string d1, .bool n2, .string s2, .string d2, .bool n3, .string s3, .string d3, .bool n4, .string s4, .string d4, .bool n5, .string s5, .string d5]] w1 (Re w1 (.bool false))))
  (HL : Hid (∀ w1, Below w.heap.size w w1 → Calls Tryz.prog 19 #[] w1 (Re w1 (.bool true)))) :
  Calls Tryz.prog 7 #[.agg #[.bool n0, .string s0, .string d0, .bool n1, .string s1, .string d1, .bool n2, .string s2, .string d2, .bool n3, .string s3, .string d3, .bool n4, .string s4, .string d4, .bool n5, .string s5, .string d5], .int .i64 N, .int .i64 M] w (Re w (.bool true)) := by
 go_enter Tryz.func7, Tryz.ntmps7
 go_wp2_with (first | (refine wpList_load_row rfl 45 _ rfl w.heap.size rfl 45 _ (0, 0) _ (Cel.new w [.bool n0, .string s0, .string d0, .bool n1, .string s1, .string d1, .bool n2, .string s2, .string d2, .bool n3, .string s3, .string d3, .bool n4, .string s4, .string d4, .bool n5, .string s5, .string d5] 45) Tryz.underlying45 rfl (by kernel_rfl) ?_) | fail)
 go_wp2_with fail
 go_fit (HS.out _)
 rintro e w1 ⟨rfl, b1⟩
 obtain ⟨kt, bb⟩ := al1 b1
 clear b1
 go_wp2_with fail
 go_fit (HL.out _ bb)
 rintro e w2 ⟨rfl, b1⟩
 replace kt := kt.below b1
 replace bb := Below.after bb b1
 clear b1
 go_wp2
 go_ret
 exact ⟨rfl, bb⟩
theorem nearest6_a (n0 n1 n2 n3 n4 n5 : Bool) (s0 d0 s1 d1 s2 d2 s3 d3 s4 d4 s5 d5 : ByteArray) (N M : Int) (E : Int) (w : World) (hE : ¬ E = 0)
  (HS : Hid (∀ w1, Calls Tryz.prog 18 #[.agg #[.bool n0, .string s0, .string d0, .bool n1, .string s1, .string d1, .bool n2, .string s2, .string d2, .bool n3, .string s3, .string d3, .bool n4, .string s4, .string d4, .bool n5, .string s5, .string d5]] w1 (Re w1 (.bool true))))
  (HA : Hid (∀ w1, Below w.heap.size w w1 → Calls Tryz.prog 23 #[.agg #[.bool n0, .string s0, .string d0, .bool n1, .string s1, .string d1], .agg #[.bool n2, .string s2, .string d2, .bool n3, .string s3, .string d3], .agg #[.bool n4, .string s4, .string d4, .bool n5, .string s5, .string d5]] w1 (Re w1 (.int .i64 (E)))))
  (HL : Hid (∀ w1, Below w.heap.size w w1 → Calls Tryz.prog 19 #[] w1 (Re w1 (.bool true)))) :
  Calls Tryz.prog 7 #[.agg #[.bool n0, .string s0, .string d0, .bool n1, .string s1, .string d1, .bool n2, .string s2, .string d2, .bool n3, .string s3, .string d3, .bool n4, .string s4, .string d4, .bool n5, .string s5, .string d5], .int .i64 N, .int .i64 M] w (Re w (.bool true)) := by
 go_enter Tryz.func7, Tryz.ntmps7
 go_wp2_with (first | (refine wpList_load_row rfl 45 _ rfl w.heap.size rfl 45 _ (0, 0) _ (Cel.new w [.bool n0, .string s0, .string d0, .bool n1, .string s1, .string d1, .bool n2, .string s2, .string d2, .bool n3, .string s3, .string d3, .bool n4, .string s4, .string d4, .bool n5, .string s5, .string d5] 45) Tryz.underlying45 rfl (by kernel_rfl) ?_) | fail)
 go_wp2_with fail
 go_fit (HS.out _)
 rintro e w1 ⟨rfl, b1⟩
 obtain ⟨kt, bb⟩ := al1 b1
 clear b1
 obtain ⟨c0, c1, c2, c3, c4, c5, c6, c7, c8, c9, c10, c11, c12, c13, c14, c15, c16, c17⟩ := c18 kt
 go_wp2_with fail
 go_fit (HA.out _ bb)
 rintro e w2 ⟨rfl, b1⟩
 replace kt := kt.below b1
 replace bb := Below.after bb b1
 clear b1
 clear c0 c1 c2 c3 c4 c5 c6 c7 c8 c9 c10 c11 c12 c13 c14 c15 c16 c17
 go_wp2_with fail
 go_fit (HL.out _ bb)
 rintro e w3 ⟨rfl, b1⟩
 replace kt := kt.below b1
 replace bb := Below.after bb b1
 clear b1
 go_wp2
 go_ret
 exact ⟨rfl, bb⟩
theorem nearest6_o (n0 n1 n2 n3 n4 n5 : Bool) (s0 d0 s1 d1 s2 d2 s3 d3 s4 d4 s5 d5 : ByteArray) (N M : Int) (w : World) (hN : ¬ (1 ≤ M ∧ M ≤ 1000 ∧ 0 ≤ N ∧ N ≤ M))
  (HS : Hid (∀ w1, Calls Tryz.prog 18 #[.agg #[.bool n0, .string s0, .string d0, .bool n1, .string s1, .string d1, .bool n2, .string s2, .string d2, .bool n3, .string s3, .string d3, .bool n4, .string s4, .string d4, .bool n5, .string s5, .string d5]] w1 (Re w1 (.bool true))))
  (HA : Hid (∀ w1, Below w.heap.size w w1 → Calls Tryz.prog 23 #[.agg #[.bool n0, .string s0, .string d0, .bool n1, .string s1, .string d1], .agg #[.bool n2, .string s2, .string d2, .bool n3, .string s3, .string d3], .agg #[.bool n4, .string s4, .string d4, .bool n5, .string s5, .string d5]] w1 (Re w1 (.int .i64 (0)))))
  (HL : Hid (∀ w1, Below w.heap.size w w1 → Calls Tryz.prog 19 #[] w1 (Re w1 (.bool true)))) :
  Calls Tryz.prog 7 #[.agg #[.bool n0, .string s0, .string d0, .bool n1, .string s1, .string d1, .bool n2, .string s2, .string d2, .bool n3, .string s3, .string d3, .bool n4, .string s4, .string d4, .bool n5, .string s5, .string d5], .int .i64 N, .int .i64 M] w (Re w (.bool true)) := by
 go_enter Tryz.func7, Tryz.ntmps7
 go_wp2_with (first | (refine wpList_load_row rfl 45 _ rfl w.heap.size rfl 45 _ (0, 0) _ (Cel.new w [.bool n0, .string s0, .string d0, .bool n1, .string s1, .string d1, .bool n2, .string s2, .string d2, .bool n3, .string s3, .string d3, .bool n4, .string s4, .string d4, .bool n5, .string s5, .string d5] 45) Tryz.underlying45 rfl (by kernel_rfl) ?_) | fail)
 go_wp2_with fail
 go_fit (HS.out _)
 rintro e w1 ⟨rfl, b1⟩
 obtain ⟨kt, bb⟩ := al1 b1
 clear b1
 obtain ⟨c0, c1, c2, c3, c4, c5, c6, c7, c8, c9, c10, c11, c12, c13, c14, c15, c16, c17⟩ := c18 kt
 go_wp2_with fail
 go_fit (HA.out _ bb)
 rintro e w2 ⟨rfl, b1⟩
 replace kt := kt.below b1
 replace bb := Below.after bb b1
 clear b1
 clear c0 c1 c2 c3 c4 c5 c6 c7 c8 c9 c10 c11 c12 c13 c14 c15 c16 c17
 have hh : M < 1 ∨ (¬ M < 1 ∧ 1000 < M) ∨ (¬ M < 1 ∧ ¬ 1000 < M ∧ N < 0) ∨ (¬ M < 1 ∧ ¬ 1000 < M ∧ ¬ N < 0 ∧ M < N) := by omega
 clear hN
 rcases hh with h | ⟨h, h2⟩ | ⟨h, h2, h3⟩ | ⟨h, h2, h3, h4⟩
 all_goals
  go_wp2_with fail
  go_fit (HL.out _ bb)
  rintro e wz ⟨rfl, b1⟩
  replace bb := Below.after bb b1
  go_wp2
  go_ret
  exact ⟨rfl, bb⟩
open Go.RowKit
theorem foot_eq {a b c d e f t n : Rat} (hn : n = (c - a) * (c - a) + (d - b) * (d - b)) (ht : t * n = (e - a) * (c - a) + (f - b) * (d - b)) (h0 : n ≠ 0) :
  (a + (c - a) * t - e) * (a + (c - a) * t - e) + (b + (d - b) * t - f) * (b + (d - b) * t - f) = ((c - a) * (f - b) - (d - b) * (e - a)) * ((c - a) * (f - b) - (d - b) * (e - a)) / n := by
 have hr := Rat.mul_inv_cancel _ h0
 rw [Rat.div_def]
 generalize n⁻¹ = i at *
 have h1 : (a + (c - a) * t - e) * (a + (c - a) * t - e) + (b + (d - b) * t - f) * (b + (d - b) * t - f) = (e - a) * (e - a) + (f - b) * (f - b) - t * (t * n) := by grind
 have h2 : ((c - a) * (f - b) - (d - b) * (e - a)) * ((c - a) * (f - b) - (d - b) * (e - a)) = n * ((e - a) * (e - a) + (f - b) * (f - b)) - (t * n) * (t * n) := by grind
 rw [h1, h2]
 generalize (e - a) * (e - a) + (f - b) * (f - b) = m
 generalize hs : t * n = s at *
 clear h1 h2 hn ht
 grind
open Go.RowKit
theorem mk5 (w : World) (c0 c1 c2 c3 c4 : List Value) (t0 t1 t2 t3 t4 : TypeId) : ∃ w', w' = ((((w.alloc (.cells c0.toArray t0)).alloc (.cells c1.toArray t1)).alloc (.cells c2.toArray t2)).alloc (.cells c3.toArray t3)).alloc (.cells c4.toArray t4) ∧ Cel w' w.heap.size c0 t0 ∧ Cel w' (w.heap.size + 1) c1 t1 ∧ Cel w' (w.heap.size + 1 + 1) c2 t2 ∧ Cel w' (w.heap.size + 1 + 1 + 1) c3 t3 ∧ Cel w' (w.heap.size + 1 + 1 + 1 + 1) c4 t4 ∧ Below w.heap.size w w' := by
 obtain ⟨v, hv, k0, k1, k2, k3, b⟩ := mk4 w c0 c1 c2 c3 t0 t1 t2 t3
 obtain ⟨u, hu, k4, b'⟩ := mk1 v c4 t4
 have hs : v.heap.size = w.heap.size + 1 + 1 + 1 + 1 := by rw [hv]; simp
 refine ⟨u, by rw [hu, hv], k0.below b', k1.below b', k2.below b', k3.below b', by rw [← hs]; exact k4, Below.after b b'⟩
open Go.RowKit
theorem nsame_nv (v v' : Value) (U V : Int) (L : Nat) (w : World) (hL : L ≤ 1000) (h : NV w false v U L) (h' : NV w false v' V L) :
  Calls Tryz.prog 110 #[.agg #[.bool false, v], .agg #[.bool false, v']] w (Re w (.bool (decide (U = V)))) := by
 obtain ⟨k, r, hk, rfl⟩ := h
 obtain ⟨k', r', hk', rfl⟩ := h'
 have := nsame_any false false v v' k k' L w r r' hL hk hk'
 have e : decide (sgn false k = sgn false k') = decide (k = k') := by
  simp only [sgn, Bool.false_eq_true, if_false]
  by_cases h : k = k'
  ·rw [decide_eq_true h, decide_eq_true (by omega)]
  ·rw [decide_eq_false h, decide_eq_false (by omega)]
 rw [e]
 exact this
theorem post_s {fn : Func} {p : Tmp} {R : Ending → World → Prop} {a : Act} {w : World} {g : Nat} {x0 x1 x2 x3 x4 x5 : Value} (h : fn.results = #[.cell p 74]) (hp : a.tmps.getD p undef = .pointer (some ⟨g, 0, none⟩)) (hd : a.defers = [])
  (hc : Cel w g [x0, x1, x2, x3, x4, x5] 74) (hR : R (.returned (.agg #[x0, x1, x2, x3, x4, x5])) w) : bodyPost Tryz.prog fn R .ret a w := by
 refine ⟨hd, .agg #[x0, x1, x2, x3, x4, x5], ?_, hR⟩
 exact results_cell_row (P := Tryz.prog) h _ w g 74 #[x0, x1, x2, x3, x4, x5] (0, 0) _ hp hc Tryz.underlying74 rfl (by kernel_rfl)
theorem less_any (n0 n1 : Bool) (s0 d0 s1 d1 : ByteArray) (w : World) (o0 : OkQ n0 s0 d0) (o1 : OkQ n1 s1 d1) (z0 : s0.size ≤ 100 ∧ d0.size ≤ 100) (z1 : s1.size ≤ 100 ∧ d1.size ≤ 100) :
  Calls Tryz.prog 109 #[.agg #[.bool n0, .string s0, .string d0], .agg #[.bool n1, .string s1, .string d1]] w fun e w' => ∃ m a l c a' l' c' X U, e = .returned (.tuple #[.agg #[.bool m, .slice a l c], .agg #[.bool false, .slice a' l' c']]) ∧ NV w' m (.slice a l c) X 27 ∧ NV w' false (.slice a' l' c') U 26 ∧ 0 < U ∧ (X : Rat) = (U : Rat) * (qOf n0 s0 d0 - qOf n1 s1 d1) ∧ Below w.heap.size w w' := by
 have H1 : Hid (∀ w1, Calls Tryz.prog 147 #[.agg #[.bool n0, .string s0]] w1 fun e w' => ∃ v, e = .returned (.agg #[.bool n0, v]) ∧ NV w' n0 v (zOf n0 s0) 13 ∧ Below w1.heap.size w1 w') := fun w1 => numOf_any n0 s0 w1 (by omega) o0.1.1 13 (natOf_lt8 13 (by omega))
 have H2 : Hid (∀ w1, Calls Tryz.prog 147 #[.agg #[.bool n1, .string s1]] w1 fun e w' => ∃ v, e = .returned (.agg #[.bool n1, v]) ∧ NV w' n1 v (zOf n1 s1) 13 ∧ Below w1.heap.size w1 w') := fun w1 => numOf_any n1 s1 w1 (by omega) o1.1.1 13 (natOf_lt8 13 (by omega))
 have H3 : Hid (∀ w1, Calls Tryz.prog 147 #[.agg #[.bool false, .string d0]] w1 fun e w' => ∃ v, e = .returned (.agg #[.bool false, v]) ∧ NV w' false v (natOf d0 : Int) 13 ∧ Below w1.heap.size w1 w') := fun w1 => numOf_any false d0 w1 (by omega) o0.2.1 13 (natOf_lt8 13 (by omega))
 have H4 : Hid (∀ w1, Calls Tryz.prog 147 #[.agg #[.bool false, .string d1]] w1 fun e w' => ∃ v, e = .returned (.agg #[.bool false, v]) ∧ NV w' false v (natOf d1 : Int) 13 ∧ Below w1.heap.size w1 w') := fun w1 => numOf_any false d1 w1 (by omega) o1.2.1 13 (natOf_lt8 13 (by omega))
 have q0 : qOf n0 s0 d0 = (zOf n0 s0 : Rat) / (natOf d0 : Rat) := by unfold qOf; rw [Rat.mkRat_eq_div]
 have q1 : qOf n1 s1 d1 = (zOf n1 s1 : Rat) / (natOf d1 : Rat) := by unfold qOf; rw [Rat.mkRat_eq_div]
 have p0 : (0 : Int) < (natOf d0 : Int) := by have := o0.2.2.1; omega
 have p1 : (0 : Int) < (natOf d1 : Int) := by have := o1.2.2.1; omega
 have r0 : ((natOf d0 : Int) : Rat) ≠ 0 := by
  intro h
  have : (natOf d0 : Int) = 0 := by exact_mod_cast h
  omega
 have r1 : ((natOf d1 : Int) : Rat) ≠ 0 := by
  intro h
  have : (natOf d1 : Int) = 0 := by exact_mod_cast h
  omega
 rw [q0, q1]
 cases hd : (d0.toList == d1.toList)
 ·refine (less_ne n0 n1 s0 d0 s1 d1 _ _ _ _ 13 w (by omega) H1 H2 H3 H4 hd).mono ?_
  rintro e w' ⟨m, a, l, c, a', l', c', rfl, h1, h2, h3⟩
  refine ⟨m, a, l, c, a', l', c', _, _, rfl, h1, h2, Int.mul_pos p0 p1, ?_, h3⟩
  simp only [Rat.intCast_sub, Rat.intCast_mul]
  rw [show ((natOf d0 : Nat) : Rat) = ((natOf d0 : Int) : Rat) from rfl, show ((natOf d1 : Nat) : Rat) = ((natOf d1 : Int) : Rat) from rfl]
  grind
 ·have hdd : d0 = d1 := by
   have : d0.toList = d1.toList := by simpa using hd
   have h2 : d0.data = d1.data := by
    rw [ByteArray.toList_eq, ByteArray.toList_eq] at this
    exact Array.toList_inj.1 this
   cases d0; cases d1; simp_all
  refine (less_eq n0 n1 s0 d0 s1 d1 _ _ _ 13 w (by omega) H1 H2 H3 hd).mono ?_
  rintro e w' ⟨m, a, l, c, a', l', c', rfl, h1, h2, h3⟩
  refine ⟨m, a, l, c, a', l', c', _, _, rfl, h1.mono (by omega), h2.mono (by omega), p0, ?_, h3⟩
  rw [← hdd]
  simp only [Rat.intCast_sub]
  rw [show ((natOf d0 : Nat) : Rat) = ((natOf d0 : Int) : Rat) from rfl]
  grind
end Go.Proofs.YtiiigiggcbbgjaaGreatDoor
