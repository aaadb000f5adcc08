/-
  Package span: a number in its one form.
  Package span: points that may be asked; how they turn, and where one lies.
  Package span: a number divided by others.
  Package span: a number over two others.
  Package poly: what weighed is told in.
  Package poly: weighed.
  gussetlaw06: ConsNear holds.
  Package span: a number over three others.
  Package geom, walked.
  How long the numbers of a way and of a centre are.
  gussetref04: Plus, Minus, Dot, Cross, Norm2, walked.
  Package span: Over of any row of numbers.
  gussetlaw06: ConsNearest, walked; gussetref03: Frac.
  Points compared.
-/
import Derived.Test.YtbafjmjcepcckaaGreatDoorO33
import Derived.Test.YtbafjmjcepcckaaGreatDoorO34
set_option maxRecDepth 100000
set_option maxHeartbeats 16000000
namespace Go.Proofs.YtbafjmjcepcckaaGreatDoor
open Go.RowKit
theorem natAbs_sgn (n : Bool) (k : Nat) : (sgn n k).natAbs = k := by
 unfold sgn
 split <;> omega
theorem nint_any (n : Bool) (v : Value) (z : Int) (L : Nat) (w : World) (hL : L ≤ 1000) (h : NV w n v z L) :
  Calls Tryz.prog 61 #[.agg #[.bool n, v]] w (Re w (.agg #[.bool (nfZ z), .string (sfZ z)])) := by
 have H1 : Hid (∀ w1, Below w.heap.size w w1 → Calls Tryz.prog 96 #[v] w1 (Re w1 (.tuple #[.string (sfZ z), .int .i64 0]))) := fun w1 b => by
  obtain ⟨k, r, hk, rfl⟩ := h
  have := nat_any v _ w1 (r.below b) (M.Low.digs B64_two k) (nv_len hk hL)
  rw [M.val_digs B64_two] at this
  unfold sfZ
  rw [natAbs_sgn]
  exact this
 have H2 : Hid (∀ w1, Below w.heap.size w w1 → Calls Tryz.prog 97 #[.agg #[.bool n, v]] w1 (Re w1 (.int .i64 z.sign))) := fun w1 b => nsign_any n v z L w1 (h.below b)
 have hs : decide (z.sign < 0) = nfZ z := by
  unfold nfZ
  rw [decide_eq_decide]
  constructor
  ·intro k
   rcases Int.lt_trichotomy z 0 with q | q | q
   ·exact q
   ·rw [q] at k; exact absurd k (by decide)
   ·rw [Int.sign_eq_one_of_pos q] at k; exact absurd k (by decide)
  ·intro k
   rw [Int.sign_eq_neg_one_of_neg k]; decide
 obtain ⟨s, hs'⟩ : ∃ s, s = z.sign := ⟨_, rfl⟩
 rw [← hs'] at hs H2
 obtain ⟨N, hN⟩ : ∃ N, N = nfZ z := ⟨_, rfl⟩
 obtain ⟨S, hS⟩ : ∃ S, S = sfZ z := ⟨_, rfl⟩
 rw [← hN] at hs ⊢
 rw [← hS] at H1 ⊢
 obtain ⟨a, l, c, rfl⟩ := h.slice
 clear h hs' hN hS
 go_enter Tryz.func61, Tryz.ntmps61
 go_wp2_with fail
 obtain ⟨w0, hw, k0, kr, bb⟩ := mk2 w [.bool n, .slice a l c] [.bool false, .string { data := #[] }] 68 24
 rw [← hw]
 clear hw
 go_fit (H1.out _ bb)
 rintro e w1 ⟨rfl, b1⟩
 replace k0 := k0.below b1
 replace kr := kr.below b1
 replace bb := Below.after bb b1
 clear b1
 obtain ⟨c0, c1⟩ := xk2 k0
 go_wp2_with fail
 clear c0 c1
 go_fit (H2.out _ bb)
 rintro e w2 ⟨rfl, b1⟩
 replace kr := kr.below b1
 replace bb := Below.after bb b1
 clear b1
 obtain ⟨c0, c1⟩ := xk2 kr
 have f0 := kr.frozen 0
 have f1 := kr.frozen 1
 go_wp2
 exact post_z (p := 2) (by kernel_rfl) rfl rfl ((kr.set 0 _).set 1 _) ⟨rfl, bset (bset bb (by omega) 0 _) (by omega) 1 _⟩
open Go.RowKit
theorem rdpt_3 {w : World} {B : Nat} {t : TypeId} {n0 n1 n2 n3 n4 n5 : Bool} {s0 d0 s1 d1 s2 d2 s3 d3 s4 d4 s5 d5 : ByteArray} (h : Cel w B [.bool n0, .string s0, .string d0, .bool n1, .string s1, .string d1, .bool n2, .string s2, .string d2, .bool n3, .string s3, .string d3, .bool n4, .string s4, .string d4, .bool n5, .string s5, .string d5] t) : RdPt w (some ⟨B, 0, none⟩) 3 (f4 n0 n2 n4 n4) (f4 s0 s2 s4 s4) (f4 d0 d2 d4 d4) (f4 n1 n3 n5 n5) (f4 s1 s3 s5 s5) (f4 d1 d3 d5 d5) := by
 intro j hj
 refine ⟨B, 0, rfl, ?_⟩
 match j, hj with
 | 0, _ => exact ⟨h.cell 0, h.cell 1, h.cell 2, h.cell 3, h.cell 4, h.cell 5⟩
 | 1, _ => exact ⟨h.cell 6, h.cell 7, h.cell 8, h.cell 9, h.cell 10, h.cell 11⟩
 | 2, _ => exact ⟨h.cell 12, h.cell 13, h.cell 14, h.cell 15, h.cell 16, h.cell 17⟩
theorem scheck3 (B : Nat) (n0 n1 n2 n3 n4 n5 : Bool) (s0 d0 s1 d1 s2 d2 s3 d3 s4 d4 s5 d5 : ByteArray) (w : World) (hT : Tab w) (h : Cel w B [.bool n0, .string s0, .string d0, .bool n1, .string s1, .string d1, .bool n2, .string s2, .string d2, .bool n3, .string s3, .string d3, .bool n4, .string s4, .string d4, .bool n5, .string s5, .string d5] 30) (z0 : s0.size ≤ 100 ∧ d0.size ≤ 100) (z1 : s1.size ≤ 100 ∧ d1.size ≤ 100) (z2 : s2.size ≤ 100 ∧ d2.size ≤ 100) (z3 : s3.size ≤ 100 ∧ d3.size ≤ 100) (z4 : s4.size ≤ 100 ∧ d4.size ≤ 100) (z5 : s5.size ≤ 100 ∧ d5.size ≤ 100) :
  Calls Tryz.prog 106 #[.slice (some ⟨B, 0, none⟩) 3 3] w fun e w' => e = .returned (.int .i64 (two (two (twoq n0 s0 d0 n1 s1 d1) (twoq n2 s2 d2 n3 s3 d3)) (twoq n4 s4 d4 n5 s5 d5) : Nat)) ∧ Below w.heap.size w w' := by
 refine scheck_walk (some ⟨B, 0, none⟩) 3 3 _ _ _ _ _ _ (f4 (twoq n0 s0 d0 n1 s1 d1) (twoq n2 s2 d2 n3 s3 d3) (twoq n4 s4 d4 n5 s5 d5) 0) w (by omega) (rdpt_3 h) (fun j hj => ?_) (fun j w1 hj b => ?_)
 ·match j, hj with
  | 0, _ => exact ⟨z0.1, z0.2, z1.1, z1.2⟩
  | 1, _ => exact ⟨z2.1, z2.2, z3.1, z3.2⟩
  | 2, _ => exact ⟨z4.1, z4.2, z5.1, z5.2⟩
 ·match j, hj with
  | 0, _ => exact vCheck_any n0 n1 s0 d0 s1 d1 w1 (hT.below b)
  | 1, _ => exact vCheck_any n2 n3 s2 d2 s3 d3 w1 (hT.below b)
  | 2, _ => exact vCheck_any n4 n5 s4 d4 s5 d5 w1 (hT.below b)
open Go.RowKit
theorem cellsS0 : Value.cells (.string { data := #[] }) = #[.string { data := #[] }] := by kernel_rfl
theorem run_mkS (n : Nat) (hn : n ≤ 1000000) (w : World) :
  ∃ w', (Instr.makeSlice 104 (.int .i64 n) (.int .i64 n)).run Tryz.prog w = .ok (.slice (some ⟨w.heap.size, 0, none⟩) n n) w' ∧ Cells w' w.heap.size 22 n (fun _ => .string ⟨#[]⟩) ∧ Below w.heap.size w w' := by
 obtain ⟨i0, hi, hz0, hz1, hz2⟩ := info_parts (show (Tryz.prog.info? 22).map (fun i => (i.zero, i.size, i.bytes)) = some (some (.string ⟨#[]⟩), 1, 16) by kernel_rfl)
 have h := run_make (P := Tryz.prog) w 104 22 i0 (.string ⟨#[]⟩) Tryz.underlying104 hi hz0 .i64 .i64 n n (by omega) (by omega) (by rw [hz2]; omega) (by omega)
 rw [hz1, cellsS0, Int.toNat_natCast, Nat.mul_one] at h
 refine ⟨_, h, ⟨_, heap_alloc_new w _, size_madeCells _ _, fun i hi => ?_⟩, (Below.refl _ _).alloc (Nat.le_refl _) _⟩
 simp [madeCells, hi, Nat.mod_one]
theorem wpList_mkS {w : World} {ops : Array Oper} {rest : List Oper} {o : Oper} {a : Act} {Q : Exit → Act → World → Prop}
  (hg : o.guard = none) (l c : Operand) (hop : o.op = Op.makeSlice 104 l c) (L : Int) (n : Nat) (hl : a.eval l = .int .i64 L) (hc : a.eval c = .int .i64 L) (hL : L = (n : Int)) (hn : n ≤ 1000000)
  (hK : ∀ w1, Cells w1 w.heap.size 22 n (fun _ => .string ⟨#[]⟩) → Below w.heap.size w w1 → wpList Tryz.prog ops Q rest (a.put o.dst (.slice (some ⟨w.heap.size, 0, none⟩) n n)) w1) :
  wpList Tryz.prog ops Q (o :: rest) a w := by
 refine wpList_plain hg fun K hK' => ?_
 subst hL
 obtain ⟨w', hrun, hc', hb⟩ := run_mkS n hn w
 unfold Oper.wp
 simp [execOp, hop, hl, hc, hrun, Result.andThen]
 exact hK' _ _ (hK _ hc' hb)
def RdN (w : World) (a : Option Addr) (n : Nat) (m : Nat → Bool) (v : Nat → Value) : Prop :=
 ∀ j, j < n → ∃ b off, a = some ⟨b, off, none⟩ ∧ w.cell? ⟨b, off + j * 2, none⟩ = some (.bool (m j)) ∧ w.cell? ⟨b, off + j * 2 + 1, none⟩ = some (v j)
theorem RdN.below {w w' : World} {a : Option Addr} {n : Nat} {m : Nat → Bool} {v : Nat → Value} (h : RdN w a n m v) (hb : Below w.heap.size w w') : RdN w' a n m v := by
 intro j hj
 obtain ⟨b, off, e, h0, h1⟩ := h j hj
 exact ⟨b, off, e, cell_below h0 hb, cell_below h1 hb⟩
def fst' (Z : Nat → Int) (k i : Nat) : Value := if i < k then .string (sfZ (Z i)) else .string ⟨#[]⟩
theorem fst_up (Z : Nat → Int) (k i : Nat) : (if i = k then Value.string (sfZ (Z k)) else fst' Z k i) = fst' Z (k + 1) i := by
 unfold fst'
 by_cases h : i = k
 ·rw [if_pos h, if_pos (by omega), h]
 ·rw [if_neg h]
  by_cases h' : i < k
  ·rw [if_pos h', if_pos (by omega)]
  ·rw [if_neg h', if_neg (by omega)]
theorem over_walk (n0 : Bool) (v0 : Value) (a : Option Addr) (n cap : Nat) (m : Nat → Bool) (al : Nat → Option Addr) (ll cl : Nat → Nat) (z : Int) (Z : Nat → Int) (xN : Bool) (xS xD : ByteArray) (w : World) (hn : n ≤ 1000) (hv0 : ∃ a l c, v0 = .slice a l c)
  (h : RdN w a n m (fun j => .slice (al j) (ll j) (cl j)))
  (H1 : Hid (∀ (k : Nat) (w1 : World), k < n → Below w.heap.size w w1 → Calls Tryz.prog 61 #[.agg #[.bool (m k), .slice (al k) (ll k) (cl k)]] w1 (Re w1 (.agg #[.bool (nfZ (Z k)), .string (sfZ (Z k))]))))
  (H2 : Hid (∀ w1, Below w.heap.size w w1 → Calls Tryz.prog 61 #[.agg #[.bool n0, v0]] w1 (Re w1 (.agg #[.bool (nfZ z), .string (sfZ z)]))))
  (H3 : Hid (∀ (g : Nat) (w1 : World), Below w.heap.size w w1 → Cells w1 g 22 n (fst' Z n) → Calls Tryz.prog 62 #[.agg #[.bool (nfZ z), .string (sfZ z)], .slice (some ⟨g, 0, none⟩) n n] w1 (Re w1 (.agg #[.bool xN, .string xS, .string xD])))) :
  Calls Tryz.prog 36 #[.agg #[.bool n0, v0], .slice a n cap] w (Re w (.agg #[.bool xN, .string xS, .string xD])) := by
 obtain ⟨a0, l0, c0, rfl⟩ := hv0
 replace h := shut h
 go_enter Tryz.func36, Tryz.ntmps36
 go_wp2_with (at_make; refine wpList_mkS rfl _ _ rfl _ n rfl rfl rfl (by omega) ?_; intro w1 k1 b1)
 obtain ⟨k0, kr, bb⟩ := al2 b1
 have K1 : Hid (Cells w1 (w.heap.size + 1 + 1) 22 n (fst' Z 0)) := by
  show Cells _ _ _ _ _
  have k1' : Cells w1 (w.heap.size + 1 + 1) 22 n (fun _ => .string ⟨#[]⟩) := by simpa using k1
  refine k1'.congr fun i hi => ?_
  unfold fst'
  rw [if_neg (by omega)]
 clear k1 b1
 go_loopw [13] (fun i wr => ∃ k : Nat, k ≤ n ∧ i = .int .i64 k ∧ Cells wr (w.heap.size + 1 + 1) 22 n (fst' Z k) ∧ Cel wr w.heap.size [.bool n0, .slice a0 l0 c0] 68 ∧ Cel wr (w.heap.size + 1) [.bool false, .string { data := #[] }, .string { data := #[] }] 26 ∧ Below w.heap.size w wr) (fun i _ => n - (intOf i).toNat)
 case atStart => exact ⟨0, by omega, rfl, K1.out, k0, kr, bb⟩
 case round =>
  clear K1 k0 kr bb
  obtain ⟨k, hk, rfl, kg, k0, kr, bb⟩ := hrel
  by_cases hkn : k < n
  ·obtain ⟨b, off, rfl, h0, h1⟩ := h.out.below bb k hkn
   go_wp2_with fail
   go_fit (H1.out k _ hkn (ba bb _))
   rintro e w2 ⟨rfl, b2⟩
   obtain ⟨-, b2⟩ := al1 b2
   replace kg := kg.below b2
   replace k0 := k0.below b2
   replace kr := kr.below b2
   replace bb := Below.after bb b2
   clear b2 h0 h1
   have fl := fld1 (nfZ (Z k)) (sfZ (Z k))
   have q0 := kg.cell hkn
   have q1 := kg.frozen k
   have kg' : Hid (Cells (w2.setCell ⟨w.heap.size + 1 + 1, k, none⟩ (.string (sfZ (Z k)))) (w.heap.size + 1 + 1) 22 n (fst' Z (k + 1))) := by
    show Cells _ _ _ _ _
    exact (kg.set k (.string (sfZ (Z k)))).congr fun i hi => fst_up Z k i
   have k0' := shut (Cel.other (g' := w.heap.size + 1 + 1) k0 (by omega) k (.string (sfZ (Z k))))
   have kr' := shut (Cel.other (g' := w.heap.size + 1 + 1) kr (by omega) k (.string (sfZ (Z k))))
   have bb' := shut (bset (g := w.heap.size + 1 + 1) bb (by omega) k (.string (sfZ (Z k))))
   clear kg k0 kr bb
   go_wp2
   exact ⟨⟨k + 1, by omega, by go_num, kg'.out, k0'.out, kr'.out, bb'.out⟩, by simp [intOf]; omega⟩
  ·obtain rfl : k = n := by omega
   obtain ⟨c0, c1⟩ := xk2 k0
   go_wp2_with fail
   clear c0 c1
   go_fit (H2.out _ bb)
   rintro e w2 ⟨rfl, b2⟩
   replace kg := kg.below b2
   replace kr := kr.below b2
   replace bb := Below.after bb b2
   clear b2
   go_wp2_with fail
   go_fit (H3.out _ _ bb kg)
   rintro e w3 ⟨rfl, b2⟩
   replace kr := kr.below b2
   replace bb := Below.after bb b2
   clear b2
   have e0 := cel3_0 kr
   have f0 := kr.frozen 0
   have e1 := cel3_1 kr
   have f1 := kr.frozen 1
   have e2 := cel3_2 kr
   have f2 := kr.frozen 2
   go_wp2
   exact post_q (p := 4) (by kernel_rfl) rfl rfl (((kr.set 0 _).set 1 _).set 2 _) ⟨rfl, bset (bset (bset bb (by omega) 0 _) (by omega) 1 _) (by omega) 2 _⟩
open Go.RowKit
theorem NV.bd {w : World} {n : Bool} {v : Value} {z : Int} {L K : Nat} (h : NV w n v z L) (hK : 8 * L ≤ K) : Bd z K := by
 obtain ⟨k, -, hk, rfl⟩ := h
 rw [B64_pow] at hk
 show (sgn n k).natAbs < _
 rw [natAbs_sgn]
 exact Nat.lt_of_lt_of_le hk (Nat.pow_le_pow_right (by omega) hK)
theorem rds_two {w : World} {g : Nat} {t : TypeId} {Z : Nat → Int} (h : Cells w g t 2 (fst' Z 2)) : RdS w (.slice (some ⟨g, 0, none⟩) 2 2) [sfZ (Z 0), sfZ (Z 1)] := by
 refine ⟨_, 2, rfl, Nat.le_refl _, fun j hj => ⟨g, 0, rfl, ?_⟩⟩
 have hj' : j < 2 := hj
 rw [Nat.zero_add, h.cell hj']
 match j, hj' with
 | 0, _ => rfl
 | 1, _ => rfl
def tw2 {α : Type} (x y : α) (j : Nat) : α := if j = 0 then x else y
theorem rdn_two {w : World} {B : Nat} {t : TypeId} {m1 m2 : Bool} {a1 a2 : Option Addr} {l1 c1 l2 c2 : Nat} (h : Cel w B [.bool m1, .slice a1 l1 c1, .bool m2, .slice a2 l2 c2] t) : RdN w (some ⟨B, 0, none⟩) 2 (tw2 m1 m2) (fun j => .slice (tw2 a1 a2 j) (tw2 l1 l2 j) (tw2 c1 c2 j)) := by
 intro j hj
 refine ⟨B, 0, rfl, ?_⟩
 match j, hj with
 | 0, _ => exact ⟨h.cell 0, h.cell 1⟩
 | 1, _ => exact ⟨h.cell 2, h.cell 3⟩
theorem nover2 (m0 m1 m2 : Bool) (v0 : Value) (a1 a2 : Option Addr) (l1 c1 l2 c2 : Nat) (z d1 d2 : Int) (L : Nat) (B : Nat) (w : World) (hT : Tab w) (hL : L ≤ 400) (p1 : 0 < d1) (p2 : 0 < d2)
  (n0 : NV w m0 v0 z L) (n1 : NV w m1 (.slice a1 l1 c1) d1 L) (n2 : NV w m2 (.slice a2 l2 c2) d2 L) (h : Cel w B [.bool m1, .slice a1 l1 c1, .bool m2, .slice a2 l2 c2] 68) :
  Calls Tryz.prog 36 #[.agg #[.bool m0, v0], .slice (some ⟨B, 0, none⟩) 2 2] w (Re w (.agg #[.bool (nfZ (mkRat z (d1.natAbs * d2.natAbs)).num), .string (sfZ (mkRat z (d1.natAbs * d2.natAbs)).num), .string (strOf (mkRat z (d1.natAbs * d2.natAbs)).den)])) := by
 refine over_walk m0 v0 _ 2 2 (tw2 m1 m2) (tw2 a1 a2) (tw2 l1 l2) (tw2 c1 c2) z (tw2 d1 d2) _ _ _ w (by omega) n0.slice (rdn_two h) (fun k w1 hk b => ?_) (fun w1 b => nint_any _ _ z L w1 (by omega) (n0.below b)) (fun g w1 b hc => ?_)
 ·match k, hk with
  | 0, _ => exact nint_any _ _ d1 L w1 (by omega) (n1.below b)
  | 1, _ => exact nint_any _ _ d2 L w1 (by omega) (n2.below b)
 ·have b0 := n0.bd (K := 4000) (by omega)
  have b1 := n1.bd (K := 4000) (by omega)
  have b2 := n2.bd (K := 4000) (by omega)
  have o1 : OkS (sfZ d1) ∧ 0 < natOf (sfZ d1) ∧ (sfZ d1).size ≤ 8000 := ⟨okS_sfZ d1, by rw [natOf_sfZ]; omega, Nat.le_trans b1.size (by omega)⟩
  have o2 : OkS (sfZ d2) ∧ 0 < natOf (sfZ d2) ∧ (sfZ d2).size ≤ 8000 := ⟨okS_sfZ d2, by rw [natOf_sfZ]; omega, Nat.le_trans b2.size (by omega)⟩
  have hm := b1.mul b2
  have := over_any z (.slice (some ⟨g, 0, none⟩) 2 2) [sfZ d1, sfZ d2] w1 (hT.below b) (rds_two hc) (by simp) (fun x hx => by rcases List.mem_cons.1 hx with rfl | hx; exact o1; rcases List.mem_cons.1 hx with rfl | hx; exact o2; cases hx) (K := 4000 + 4000) (by omega) (b0.mono (by omega)) (by
   show natOf (sfZ d1) * (natOf (sfZ d2) * 1) < _
   rw [Nat.mul_one, natOf_sfZ, natOf_sfZ, ← Int.natAbs_mul]
   exact hm)
  rw [show Dt.nprod ([sfZ d1, sfZ d2].map natOf) = d1.natAbs * d2.natAbs by show natOf (sfZ d1) * (natOf (sfZ d2) * 1) = _; rw [Nat.mul_one, natOf_sfZ, natOf_sfZ]] at this
  exact this
open Go.RowKit
def RdW (w : World) (a : Option Addr) (n : Nat) (W : Nat → Int) : Prop := ∀ j, j < n → ∃ b off, a = some ⟨b, off, none⟩ ∧ w.cell? ⟨b, off + j, none⟩ = some (.int .i64 (W j))
theorem RdW.below {w w' : World} {a : Option Addr} {n : Nat} {W : Nat → Int} (h : RdW w a n W) (hb : Below w.heap.size w w') : RdW w' a n W := by
 intro j hj
 obtain ⟨b, off, e, h0⟩ := h j hj
 exact ⟨b, off, e, cell_below h0 hb⟩
def wsum (Z W : Nat → Int) : Nat → Int
 | 0 => 0
 | k + 1 => wsum Z W k + Z k * W k
theorem nv_zero (w : World) (L : Nat) : NV w false (.slice none 0 0) 0 L := by
 have r : Rd w (.slice none 0 0) [] := ⟨none, 0, rfl, by simp, fun j hj => by simp at hj⟩
 exact ⟨0, by simpa [M.digs, M.digsF] using r, Nat.pow_pos (by decide), rfl⟩
open Go.RowKit
theorem cell_oth2 {w : World} {d g i j k : Nat} {u : Value} (h : w.cell? ⟨d, i, none⟩ = some u) (hne : ¬ d = g) (x y : Value) : ((w.setCell ⟨g, j, none⟩ x).setCell ⟨g, k, none⟩ y).cell? ⟨d, i, none⟩ = some u := by
 rw [World.cell?_setCell_other _ _ _ _ (fun e => hne (by injection e with e; exact e.symm)), World.cell?_setCell_other _ _ _ _ (fun e => hne (by injection e with e; exact e.symm))]
 exact h
theorem weighed_walk (la wa : Option Addr) (n lcap m wcap : Nat) (N : Nat → Bool) (v : Nat → Value) (Z W : Nat → Int) (L : Nat) (w : World) (hm : m ≤ n) (hn : n ≤ 10) (hL : L ≤ 900)
  (hl : RdN w la n N v) (hv : NVs w N v Z L n) (hw : RdW w wa m W)
  (HS : Hid (∀ (k : Nat) (w1 : World), k < m → Calls Tryz.prog 109 #[.int .i64 (W k)] w1 fun e w' => ∃ f a l c, e = .returned (.agg #[.bool f, .slice a l c]) ∧ NV w' f (.slice a l c) (W k) 1 ∧ Below w1.heap.size w1 w')) :
  Calls Tryz.prog 67 #[.slice la n lcap, .slice wa m wcap] w fun e w' => ∃ f a l c, e = .returned (.agg #[.bool f, .slice a l c]) ∧ NV w' f (.slice a l c) (wsum Z W m) (L + 1 + m) ∧ Below w.heap.size w w' := by
 replace hl := shut hl
 replace hv := shut hv
 replace hw := shut hw
 go_enter Tryz.func67, Tryz.ntmps67
 go_wp2_with fail
 obtain ⟨w0, hq, kr, ks, bb⟩ := mk2 w [.bool false, .slice none 0 0] [.bool false, .slice none 0 0] 68 68
 rw [← hq]
 clear hq
 go_loopw [11] (fun i wr => Below w.heap.size w wr ∧ ∃ (k : Nat) (f : Bool) (a : Option Addr) (l c : Nat), k ≤ m ∧ i = .int .i64 k ∧ Cel wr (w.heap.size + 1) [.bool f, .slice a l c] 68 ∧ NV wr f (.slice a l c) (wsum Z W k) (L + 1 + k) ∧ Cel wr w.heap.size [.bool false, .slice none 0 0] 68) (fun i _ => m - (intOf i).toNat)
 case atStart => exact ⟨bb, 0, _, _, _, _, by omega, rfl, ks, nv_zero _ _, kr⟩
 case round =>
  clear bb kr ks
  obtain ⟨bb, k, f, a, l, c, hk, rfl, ks, ns, kr⟩ := hrel
  by_cases hkm : k < m
  ·obtain ⟨b, off, rfl, h0⟩ := hw.out.below bb k hkm
   obtain ⟨d, o, rfl, g0, g1⟩ := hl.out.below bb k (by omega)
   have hd : d < w.heap.size := by
    obtain ⟨d', o', e, q0, -⟩ := hl.out k (by omega)
    injection e with e
    injection e with e1 e2
    subst e1
    exact World.block_lt_of_cell? w _ q0
   obtain ⟨nk, ak, lk, ck, ek⟩ := hv.out k (by omega)
   rw [ek] at nk g1
   replace nk := nk.below bb
   have i1 : (k : Int) < (n : Int) := by omega
   have i2 : ¬ (k : Int) < 0 := by omega
   have i3 : (k : Int) < (m : Int) := by omega
   go_wp2_with fail
   clear h0
   have bd := bdrew wr
   replace ks := ks.below bd
   replace kr := kr.below bd
   replace ns := ns.below bd
   replace nk := nk.below bd
   replace g0 := cell_below g0 bd
   replace g1 := cell_below g1 bd
   replace bb := Below.after bb bd
   clear bd
   refine wp_region_held_drew (S := fun w' => w'.cell? ⟨d, o + k * 2, none⟩ = some (.bool (N k)) ∧ w'.cell? ⟨d, o + k * 2 + 1, none⟩ = some (.slice ak lk ck)) (by kernel_rfl) ⟨g0, g1⟩ (fun hS => ?_)
   generalize wr.drew = wd at *
   refine WA.start (n := 10) (by kernel_rfl) ?_
   refine WA.tp 1 rfl ?_
   refine WA.tp 2 rfl ?_
   refine WA.tp 3 rfl ?_
   refine WA.tp 4 rfl ?_
   refine WA.tp 5 rfl ?_
   refine WA.genR (i := 0) (s := 16) (.agg #[.bool f, .slice a l c]) (fun b x hz => ?_)
   simp only [Act.put, List.setIfInBounds_toArray, List.set_cons_zero, List.set_cons_succ]
   obtain ⟨c0, c1⟩ := xk2 ks
   revert b x
   refine WA.oneR 10 62 6 0 rfl rfl hS ?_
   clear hS c0 c1
   intro b x hz K hK
   simp only [List.getElem_toArray, List.getElem_cons_succ, List.getElem_cons_zero]
   go_simp
   go_fit (HS.out k _ hkm)
   rintro e w1 ⟨f1, a1, l1, c1, rfl, n1, b1⟩
   replace ks := ks.below b1
   replace kr := kr.below b1
   replace ns := ns.below b1
   replace nk := nk.below b1
   replace g0 := cell_below g0 b1
   replace g1 := cell_below g1 b1
   replace bb := Below.after bb b1
   clear b1
   try go_wp2_with fail
   refine hK.out _ _ ⟨g0, g1⟩ (fun hS => ?_)
   clear hK K
   obtain ⟨c0, c1⟩ := xk2 ks
   revert b x
   refine WA.oneR 10 126 7 0 rfl rfl hS ?_
   clear hS c0 c1
   intro b x hz K hK
   simp only [List.getElem_toArray, List.getElem_cons_succ, List.getElem_cons_zero]
   go_simp
   go_fit (ntimes_any _ _ _ _ (Z k) (W k) L 1 _ (by omega) (by omega) nk n1)
   rintro e w2 ⟨f2, v2, rfl, n2, -, b1⟩
   obtain ⟨a2, l2, c2, rfl⟩ := n2.slice
   clear nk n1
   replace ks := ks.below b1
   replace kr := kr.below b1
   replace ns := ns.below b1
   replace g0 := cell_below g0 b1
   replace g1 := cell_below g1 b1
   replace bb := Below.after bb b1
   clear b1
   try go_wp2_with fail
   refine hK.out _ _ ⟨g0, g1⟩ (fun hS => ?_)
   clear hK K
   obtain ⟨c0, c1⟩ := xk2 ks
   revert b x
   refine WA.finR 0 rfl hS ?_
   clear c0 c1
   refine WA.cal 8 rfl (fun K hK => ?_)
   simp only [List.getElem_toArray, List.getElem_cons_succ, List.getElem_cons_zero]
   go_simp
   go_fit (nplus_any _ _ _ _ (wsum Z W k) (Z k * W k) (L + 1 + k) _ (by omega) ns (n2.mono (by omega)))
   rintro e w3 ⟨f3, v3, rfl, n3, b1⟩
   obtain ⟨a3, l3, c3, rfl⟩ := n3.slice
   clear ns n2
   replace ks := ks.below b1
   replace kr := kr.below b1
   replace g0 := cell_below g0 b1
   replace g1 := cell_below g1 b1
   replace bb := Below.after bb b1
   clear b1
   try go_wp2_with fail
   clear hS
   refine hK.out _ _ ⟨g0, g1⟩ (fun hS => ?_)
   clear hK K
   obtain ⟨c0, c1⟩ := xk2 ks
   have q0 := Cel.frozen ks 0
   have q1 := Cel.frozen ks 1
   refine WA.cal 9 rfl (fun K hK => ?_)
   simp only [List.getElem_toArray, List.getElem_cons_succ, List.getElem_cons_zero]
   go_simp
   try go_wp2_with fail
   clear c0 c1 q0 q1 hS
   have hne : ¬ (d = w.heap.size + 1) := by omega
   refine hK.out _ _ ⟨cell_oth2 g0 hne _ _, cell_oth2 g1 hne _ _⟩ (fun hS => ?_)
   clear hK K
   refine WA.done (by kernel_rfl) ?_
   clear hS
   replace n3 := n3.set2 ks (.bool f3) (.slice a3 l3 c3)
   replace kr := kr.oth2 (show w.heap.size ≠ w.heap.size + 1 by omega) (.bool f3) (.slice a3 l3 c3)
   have bs := bb
   replace bs := bset (bset bs (show w.heap.size ≤ w.heap.size + 1 by omega) 0 (.bool f3)) (show w.heap.size ≤ w.heap.size + 1 by omega) 1 (.slice a3 l3 c3)
   replace ks := (ks.set 0 (.bool f3)).set 1 (.slice a3 l3 c3)
   clear bb g0 g1
   go_wp2_with fail
   refine ⟨⟨bs, k + 1, f3, a3, l3, c3, by omega, by go_num, ks, n3, kr⟩, ?_⟩
   simp [intOf]; omega
  ·have hkm' : k = m := by omega
   subst hkm'
   have i3 : ¬ (k : Int) < (k : Int) := by omega
   obtain ⟨c0, c1⟩ := xk2 ks
   obtain ⟨d0, d1⟩ := xk2 kr
   have q0 := Cel.frozen kr 0
   have q1 := Cel.frozen kr 1
   have hne : ¬ (w.heap.size + 1 = w.heap.size) := by omega
   go_wp2
   exact post_n (p := 4) (by kernel_rfl) rfl rfl ((kr.set 0 _).set 1 _) (by cases f with | false => exact Or.inl ⟨a, l, c, rfl, ns.set2 kr _ _, bset (bset bb (Nat.le_refl _) 0 _) (Nat.le_refl _) 1 _⟩ | true => exact Or.inr ⟨a, l, c, rfl, ns.set2 kr _ _, bset (bset bb (Nat.le_refl _) 0 _) (Nat.le_refl _) 1 _⟩)
open Go.RowKit
theorem vqm_add {a b : Rat} {k j : Nat} (ha : Bq a k) (hb : Bq b j) : Bq (a + b) (k + j + 1) := by
 rw [Rat.add_def']
 exact vq_mk (Nat.mul_pos a.den_pos b.den_pos) ((ha.1.mul hb.2).add ((hb.1.mul ha.2).mono (by omega))) ((vd_cast _ _ ha.2 hb.2).mono (by omega))
theorem vqm_sub {a b : Rat} {k j : Nat} (ha : Bq a k) (hb : Bq b j) : Bq (a - b) (k + j + 1) := by
 rw [Rat.sub_eq_add_neg]
 exact vqm_add ha (vq_neg hb)
theorem vqm_mul {a b : Rat} {k j : Nat} (ha : Bq a k) (hb : Bq b j) : Bq (a * b) (k + j) := by
 rw [Rat.mul_def']
 exact vq_mk (Nat.mul_pos a.den_pos b.den_pos) (ha.1.mul hb.1) (vd_cast _ _ ha.2 hb.2)
open Go.RowKit
def tw3 {α : Type} (x y z : α) (j : Nat) : α := if j = 0 then x else if j = 1 then y else z
theorem rdn_three {w : World} {B : Nat} {t : TypeId} {m1 m2 m3 : Bool} {a1 a2 a3 : Option Addr} {l1 c1 l2 c2 l3 c3 : Nat} (h : Cel w B [.bool m1, .slice a1 l1 c1, .bool m2, .slice a2 l2 c2, .bool m3, .slice a3 l3 c3] t) : RdN w (some ⟨B, 0, none⟩) 3 (tw3 m1 m2 m3) (fun j => .slice (tw3 a1 a2 a3 j) (tw3 l1 l2 l3 j) (tw3 c1 c2 c3 j)) := by
 intro j hj
 refine ⟨B, 0, rfl, ?_⟩
 match j, hj with
 | 0, _ => exact ⟨h.cell 0, h.cell 1⟩
 | 1, _ => exact ⟨h.cell 2, h.cell 3⟩
 | 2, _ => exact ⟨h.cell 4, h.cell 5⟩
open Go.RowKit
theorem mk5 (w : World) (c0 c1 c2 c3 c4 : List Value) (t0 t1 t2 t3 t4 : TypeId) : ∃ w', w' = ((((w.alloc (.cells c0.toArray t0)).alloc (.cells c1.toArray t1)).alloc (.cells c2.toArray t2)).alloc (.cells c3.toArray t3)).alloc (.cells c4.toArray t4) ∧ Cel w' w.heap.size c0 t0 ∧ Cel w' (w.heap.size + 1) c1 t1 ∧ Cel w' (w.heap.size + 1 + 1) c2 t2 ∧ Cel w' (w.heap.size + 1 + 1 + 1) c3 t3 ∧ Cel w' (w.heap.size + 1 + 1 + 1 + 1) c4 t4 ∧ Below w.heap.size w w' := by
 obtain ⟨v, hv, k0, k1, k2, k3, b⟩ := mk4 w c0 c1 c2 c3 t0 t1 t2 t3
 obtain ⟨u, hu, k4, b'⟩ := mk1 v c4 t4
 have hs : v.heap.size = w.heap.size + 1 + 1 + 1 + 1 := by rw [hv]; simp
 refine ⟨u, by rw [hu, hv], k0.below b', k1.below b', k2.below b', k3.below b', by rw [← hs]; exact k4, Below.after b b'⟩
open Go.RowKit
theorem Gm.way_x {X Y U : Int} {x y : Rat} (h : Gm.Way X Y U x y) : Rat.divInt X U = x := by
 have hp := Gm.upos h.1
 rw [Rat.divInt_eq_div, h.2.1, Rat.div_def]
 have := Rat.mul_inv_cancel (U : Rat) (by grind)
 grind
theorem bq_divI {X U : Int} {k : Nat} (hU : 0 < U) (hX : Bd X k) (hu : Bd U k) : Bq (Rat.divInt X U) k := by
 obtain ⟨m, rfl⟩ := Int.eq_ofNat_of_zero_le (Int.le_of_lt hU)
 show Bq (mkRat X m) k
 exact vq_mk (by omega) hX hu
theorem bq_wayx {X Y U : Int} {x y : Rat} {k : Nat} (h : Gm.Way X Y U x y) (hX : Bd X k) (hu : Bd U k) : Bq x k := by
 rw [← Gm.way_x h]; exact bq_divI h.1 hX hu
end Go.Proofs.YtbafjmjcepcckaaGreatDoor
namespace Go.Proofs.YtbafjmjcepcckaaGreatDoor
open Go.RowKit Go.Shelf
theorem rplus4_walk (n0 n1 n2 n3 xN yN : Bool) (s0 d0 s1 d1 s2 d2 s3 d3 xS xD yS yD : ByteArray) (w : World)
  (H1 : Hid (∀ w1, Calls Tryz.prog 24 #[.agg #[.bool n0, .string s0, .string d0], .agg #[.bool n2, .string s2, .string d2]] w1 (Re w1 (.agg #[.bool xN, .string xS, .string xD]))))
  (H2 : Hid (∀ w1, Calls Tryz.prog 24 #[.agg #[.bool n1, .string s1, .string d1], .agg #[.bool n3, .string s3, .string d3]] w1 (Re w1 (.agg #[.bool yN, .string yS, .string yD])))) :
  Calls Tryz.prog 113 #[.agg #[.bool n0, .string s0, .string d0, .bool n1, .string s1, .string d1], .agg #[.bool n2, .string s2, .string d2, .bool n3, .string s3, .string d3]] w (Re w (.agg #[.bool xN, .string xS, .string xD, .bool yN, .string yS, .string yD])) := by
 go_enter Tryz.func113, Tryz.ntmps113
 go_wp2_with fail
 obtain ⟨w1, hw, ka, kb, kr, b1⟩ := mk3 w [.bool n0, .string s0, .string d0, .bool n1, .string s1, .string d1] [.bool n2, .string s2, .string d2, .bool n3, .string s3, .string d3] [.bool false, .string { data := #[] }, .string { data := #[] }, .bool false, .string { data := #[] }, .string { data := #[] }] 30 30 30
 rw [← hw]
 clear hw
 have sz := b1.size
 have ta := ka.lt
 have tb := kb.lt
 have tr := kr.lt
 have bb := b1
 clear b1
 have qa : w.heap.size ≠ w.heap.size + 1 + 1 := by omega
 have qb : w.heap.size + 1 ≠ w.heap.size + 1 + 1 := by omega
 have mkS : Hid (∀ w', Cel w' (w.heap.size) [.bool n0, .string s0, .string d0, .bool n1, .string s1, .string d1] 30 → Cel w' (w.heap.size + 1) [.bool n2, .string s2, .string d2, .bool n3, .string s3, .string d3] 30 → (xc6 w' w.heap.size (.bool n0) (.string s0) (.string d0) (.bool n1) (.string s1) (.string d1) ∧ xc6 w' (w.heap.size + 1) (.bool n2) (.string s2) (.string d2) (.bool n3) (.string s3) (.string d3))) := fun w' ha hb => ⟨xk6 ha, xk6 hb⟩
 go_region_held3 (fun w' => xc6 w' w.heap.size (.bool n0) (.string s0) (.string d0) (.bool n1) (.string s1) (.string d1) ∧ xc6 w' (w.heap.size + 1) (.bool n2) (.string s2) (.string d2) (.bool n3) (.string s3) (.string d3)) (first | with_reducible exact mkS.out _ ka kb | with_reducible exact mkS.out _ (ka.alloc _) (kb.alloc _) | with_reducible exact mkS.out _ (Cel.other (Cel.other (Cel.other (Cel.other (Cel.other (Cel.other ka qa 0 _) qa 1 _) qa 2 _) qa 3 _) qa 4 _) qa 5 _) (Cel.other (Cel.other (Cel.other (Cel.other (Cel.other (Cel.other kb qb 0 _) qb 1 _) qb 2 _) qb 3 _) qb 4 _) qb 5 _) | exact mkS.out _ ka kb) (first | (go_at_call 24; go_fit (H1.out _); rintro e wn ⟨rfl, bn⟩; replace ka := ka.below (un bn); replace kb := kb.below (un bn); replace kr := kr.below (un bn); replace bb := Below.after bb (un bn)) | (go_at_call 24; go_fit (H2.out _); rintro e wn ⟨rfl, bn⟩; replace ka := ka.below (un bn); replace kb := kb.below (un bn); replace kr := kr.below (un bn); replace bb := Below.after bb (un bn); have e0 := cel6_0 kr; have f0 := Cel.frozen kr 0; have e1 := cel6_1 kr; have f1 := Cel.frozen kr 1; have e2 := cel6_2 kr; have f2 := Cel.frozen kr 2; have e3 := cel6_3 kr; have f3 := Cel.frozen kr 3; have e4 := cel6_4 kr; have f4 := Cel.frozen kr 4; have e5 := cel6_5 kr; have f5 := Cel.frozen kr 5))
 go_wp2
 exact post_p (p := 4) (by kernel_rfl) rfl rfl (kr.set6 _ _ _ _ _ _) ⟨rfl, bset6 bb (by omega) _ _ _ _ _ _⟩
theorem rminus4_walk (n0 n1 n2 n3 xN yN : Bool) (s0 d0 s1 d1 s2 d2 s3 d3 xS xD yS yD : ByteArray) (w : World)
  (H1 : Hid (∀ w1, Calls Tryz.prog 53 #[.agg #[.bool n0, .string s0, .string d0], .agg #[.bool n2, .string s2, .string d2]] w1 (Re w1 (.agg #[.bool xN, .string xS, .string xD]))))
  (H2 : Hid (∀ w1, Calls Tryz.prog 53 #[.agg #[.bool n1, .string s1, .string d1], .agg #[.bool n3, .string s3, .string d3]] w1 (Re w1 (.agg #[.bool yN, .string yS, .string yD])))) :
  Calls Tryz.prog 71 #[.agg #[.bool n0, .string s0, .string d0, .bool n1, .string s1, .string d1], .agg #[.bool n2, .string s2, .string d2, .bool n3, .string s3, .string d3]] w (Re w (.agg #[.bool xN, .string xS, .string xD, .bool yN, .string yS, .string yD])) := by
 go_enter Tryz.func71, Tryz.ntmps71
 go_wp2_with fail
 obtain ⟨w1, hw, ka, kb, kr, b1⟩ := mk3 w [.bool n0, .string s0, .string d0, .bool n1, .string s1, .string d1] [.bool n2, .string s2, .string d2, .bool n3, .string s3, .string d3] [.bool false, .string { data := #[] }, .string { data := #[] }, .bool false, .string { data := #[] }, .string { data := #[] }] 30 30 30
 rw [← hw]
 clear hw
 have sz := b1.size
 have ta := ka.lt
 have tb := kb.lt
 have tr := kr.lt
 have bb := b1
 clear b1
 have qa : w.heap.size ≠ w.heap.size + 1 + 1 := by omega
 have qb : w.heap.size + 1 ≠ w.heap.size + 1 + 1 := by omega
 have mkS : Hid (∀ w', Cel w' (w.heap.size) [.bool n0, .string s0, .string d0, .bool n1, .string s1, .string d1] 30 → Cel w' (w.heap.size + 1) [.bool n2, .string s2, .string d2, .bool n3, .string s3, .string d3] 30 → (xc6 w' w.heap.size (.bool n0) (.string s0) (.string d0) (.bool n1) (.string s1) (.string d1) ∧ xc6 w' (w.heap.size + 1) (.bool n2) (.string s2) (.string d2) (.bool n3) (.string s3) (.string d3))) := fun w' ha hb => ⟨xk6 ha, xk6 hb⟩
 go_region_held3 (fun w' => xc6 w' w.heap.size (.bool n0) (.string s0) (.string d0) (.bool n1) (.string s1) (.string d1) ∧ xc6 w' (w.heap.size + 1) (.bool n2) (.string s2) (.string d2) (.bool n3) (.string s3) (.string d3)) (first | with_reducible exact mkS.out _ ka kb | with_reducible exact mkS.out _ (ka.alloc _) (kb.alloc _) | with_reducible exact mkS.out _ (Cel.other (Cel.other (Cel.other (Cel.other (Cel.other (Cel.other ka qa 0 _) qa 1 _) qa 2 _) qa 3 _) qa 4 _) qa 5 _) (Cel.other (Cel.other (Cel.other (Cel.other (Cel.other (Cel.other kb qb 0 _) qb 1 _) qb 2 _) qb 3 _) qb 4 _) qb 5 _) | exact mkS.out _ ka kb) (first | (go_at_call 53; go_fit (H1.out _); rintro e wn ⟨rfl, bn⟩; replace ka := ka.below (un bn); replace kb := kb.below (un bn); replace kr := kr.below (un bn); replace bb := Below.after bb (un bn)) | (go_at_call 53; go_fit (H2.out _); rintro e wn ⟨rfl, bn⟩; replace ka := ka.below (un bn); replace kb := kb.below (un bn); replace kr := kr.below (un bn); replace bb := Below.after bb (un bn); have e0 := cel6_0 kr; have f0 := Cel.frozen kr 0; have e1 := cel6_1 kr; have f1 := Cel.frozen kr 1; have e2 := cel6_2 kr; have f2 := Cel.frozen kr 2; have e3 := cel6_3 kr; have f3 := Cel.frozen kr 3; have e4 := cel6_4 kr; have f4 := Cel.frozen kr 4; have e5 := cel6_5 kr; have f5 := Cel.frozen kr 5))
 go_wp2
 exact post_p (p := 4) (by kernel_rfl) rfl rfl (kr.set6 _ _ _ _ _ _) ⟨rfl, bset6 bb (by omega) _ _ _ _ _ _⟩
theorem rcross4_walk (n0 n1 n2 n3 xN yN rN : Bool) (s0 d0 s1 d1 s2 d2 s3 d3 xS xD yS yD rS rD : ByteArray) (w : World)
  (H1 : Hid (∀ w1, Calls Tryz.prog 40 #[.agg #[.bool n0, .string s0, .string d0], .agg #[.bool n3, .string s3, .string d3]] w1 (Re w1 (.agg #[.bool xN, .string xS, .string xD]))))
  (H2 : Hid (∀ w1, Calls Tryz.prog 40 #[.agg #[.bool n1, .string s1, .string d1], .agg #[.bool n2, .string s2, .string d2]] w1 (Re w1 (.agg #[.bool yN, .string yS, .string yD]))))
  (H3 : Hid (∀ w1, Calls Tryz.prog 53 #[.agg #[.bool xN, .string xS, .string xD], .agg #[.bool yN, .string yS, .string yD]] w1 (Re w1 (.agg #[.bool rN, .string rS, .string rD])))) :
  Calls Tryz.prog 70 #[.agg #[.bool n0, .string s0, .string d0, .bool n1, .string s1, .string d1], .agg #[.bool n2, .string s2, .string d2, .bool n3, .string s3, .string d3]] w (Re w (.agg #[.bool rN, .string rS, .string rD])) := by
 go_enter Tryz.func70, Tryz.ntmps70
 go_wp2_with fail
 obtain ⟨w1, hw, ka, kb, kr, b1⟩ := mk3 w [.bool n0, .string s0, .string d0, .bool n1, .string s1, .string d1] [.bool n2, .string s2, .string d2, .bool n3, .string s3, .string d3] [.bool false, .string { data := #[] }, .string { data := #[] }] 30 30 26
 rw [← hw]
 clear hw
 have sz := b1.size
 have ta := ka.lt
 have tb := kb.lt
 have tr := kr.lt
 have bb := b1
 clear b1
 have qa : w.heap.size ≠ w.heap.size + 1 + 1 := by omega
 have qb : w.heap.size + 1 ≠ w.heap.size + 1 + 1 := by omega
 have mkS : Hid (∀ w', Cel w' (w.heap.size) [.bool n0, .string s0, .string d0, .bool n1, .string s1, .string d1] 30 → Cel w' (w.heap.size + 1) [.bool n2, .string s2, .string d2, .bool n3, .string s3, .string d3] 30 → (xc6 w' w.heap.size (.bool n0) (.string s0) (.string d0) (.bool n1) (.string s1) (.string d1) ∧ xc6 w' (w.heap.size + 1) (.bool n2) (.string s2) (.string d2) (.bool n3) (.string s3) (.string d3))) := fun w' ha hb => ⟨xk6 ha, xk6 hb⟩
 go_region_held3 (fun w' => xc6 w' w.heap.size (.bool n0) (.string s0) (.string d0) (.bool n1) (.string s1) (.string d1) ∧ xc6 w' (w.heap.size + 1) (.bool n2) (.string s2) (.string d2) (.bool n3) (.string s3) (.string d3)) (first | with_reducible exact mkS.out _ ka kb | with_reducible exact mkS.out _ (ka.alloc _) (kb.alloc _) | with_reducible exact mkS.out _ (Cel.other (Cel.other (Cel.other ka qa 0 _) qa 1 _) qa 2 _) (Cel.other (Cel.other (Cel.other kb qb 0 _) qb 1 _) qb 2 _) | exact mkS.out _ ka kb) (first | (go_at_call 40; go_fit (H1.out _); rintro e wn ⟨rfl, bn⟩; replace ka := ka.below (un bn); replace kb := kb.below (un bn); replace kr := kr.below (un bn); replace bb := Below.after bb (un bn)) | (go_at_call 40; go_fit (H2.out _); rintro e wn ⟨rfl, bn⟩; replace ka := ka.below (un bn); replace kb := kb.below (un bn); replace kr := kr.below (un bn); replace bb := Below.after bb (un bn)) | (go_at_call 53; go_fit (H3.out _); rintro e wn ⟨rfl, bn⟩; replace ka := ka.below (un bn); replace kb := kb.below (un bn); replace kr := kr.below (un bn); replace bb := Below.after bb (un bn); have e0 := cel3_0 kr; have f0 := Cel.frozen kr 0; have e1 := cel3_1 kr; have f1 := Cel.frozen kr 1; have e2 := cel3_2 kr; have f2 := Cel.frozen kr 2))
 go_wp2
 exact post_q (p := 4) (by kernel_rfl) rfl rfl (((kr.set 0 _).set 1 _).set 2 _) ⟨rfl, bset (bset (bset bb (by omega) 0 _) (by omega) 1 _) (by omega) 2 _⟩
open Go.RowKit
theorem NV.sharp {w : World} {n : Bool} {v : Value} {z : Int} {L K M' : Nat} (h : NV w n v z L) (hz : Bd z K) (hM : K ≤ 8 * M') : NV w n v z M' := by
 obtain ⟨k, r, -, rfl⟩ := h
 refine ⟨k, r, ?_, rfl⟩
 have e : (sgn n k).natAbs = k := natAbs_sgn n k
 unfold Bd at hz
 rw [e] at hz
 refine Nat.lt_of_lt_of_le hz ?_
 rw [show B64 = 256 ^ 8 by unfold B64; decide, ← Nat.pow_mul]
 exact Nat.pow_le_pow_right (by omega) hM
def vsa : Value → Option Addr | .slice a _ _ => a | _ => none
def vsl : Value → Nat | .slice _ l _ => l | _ => 0
def vsc : Value → Nat | .slice _ _ c => c | _ => 0
theorem vs_eq {v : Value} (h : ∃ a l c, v = .slice a l c) : v = .slice (vsa v) (vsl v) (vsc v) := by
 obtain ⟨a, l, c, rfl⟩ := h
 rfl
theorem nt_map (f : Nat → ByteArray) {n j : Nat} (h : j < n) : nt ((List.range n).map f) j = f j := by
 unfold nt
 simp [List.getD, h]
theorem rds_any {w : World} {g n : Nat} {t : TypeId} {Z : Nat → Int} (h : Cells w g t n (fst' Z n)) : RdS w (.slice (some ⟨g, 0, none⟩) n n) ((List.range n).map fun k => sfZ (Z k)) := by
 refine ⟨some ⟨g, 0, none⟩, n, by simp, by simp, fun j hj => ⟨g, 0, rfl, ?_⟩⟩
 have hj' : j < n := by simpa using hj
 rw [Nat.zero_add, h.cell hj', nt_map _ hj']
 unfold fst'
 rw [if_pos hj']
def zprod (Z : Nat → Int) (n : Nat) : Nat := Dt.nprod ((List.range n).map fun k => (Z k).natAbs)
theorem le_nprod {l : List Nat} (h : ∀ x ∈ l, 0 < x) {x : Nat} (hx : x ∈ l) : x ≤ Dt.nprod l := by
 induction l with
 | nil => cases hx
 | cons y l ih =>
  have hp : 0 < Dt.nprod l := Dt.nprod_pos fun z hz => h z (by simp [hz])
  show x ≤ y * Dt.nprod l
  rcases List.mem_cons.1 hx with rfl | hx
  ·exact Nat.le_mul_of_pos_right _ hp
  ·exact Nat.le_trans (ih (fun z hz => h z (by simp [hz])) hx) (Nat.le_mul_of_pos_left _ (h y (by simp)))
theorem zprod_le {Z : Nat → Int} {n : Nat} (h : ∀ k, k < n → 0 < Z k) {k : Nat} (hk : k < n) : (Z k).natAbs ≤ zprod Z n := by
 refine le_nprod (fun x hx => ?_) (List.mem_map.2 ⟨k, List.mem_range.2 hk, rfl⟩)
 rw [List.mem_map] at hx
 obtain ⟨j, hj, rfl⟩ := hx
 have := h j (List.mem_range.1 hj)
 omega
theorem nover_any (m0 : Bool) (v0 : Value) (a : Option Addr) (n cap : Nat) (m : Nat → Bool) (v : Nat → Value) (z : Int) (Z : Nat → Int) (L K : Nat) (w : World) (hT : Tab w) (hn : n ≤ 1000) (hL : L ≤ 1000) (hK : K ≤ 8000)
  (n0 : NV w m0 v0 z L) (hr : RdN w a n m v) (hv : NVs w m v Z L n) (hp : ∀ k, k < n → 0 < Z k) (hz : Bd z K) (hs : ∀ k, k < n → Bd (Z k) 8000) (hP : zprod Z n < 256 ^ K) {x : Rat} (hx : mkRat z (zprod Z n) = x) :
  Calls Tryz.prog 36 #[.agg #[.bool m0, v0], .slice a n cap] w (Re w (.agg #[.bool (nfZ x.num), .string (sfZ x.num), .string (strOf x.den)])) := by
 subst hx
 have hr' : RdN w a n m (fun j => .slice (vsa (v j)) (vsl (v j)) (vsc (v j))) := fun j hj => by
  obtain ⟨b, off, e, h0, h1⟩ := hr j hj
  refine ⟨b, off, e, h0, ?_⟩
  show _ = some (Value.slice (vsa (v j)) (vsl (v j)) (vsc (v j)))
  rw [← vs_eq (hv j hj).2]
  exact h1
 refine over_walk m0 v0 a n cap m (fun j => vsa (v j)) (fun j => vsl (v j)) (fun j => vsc (v j)) z Z _ _ _ w hn n0.slice hr' (fun k w1 hk b => ?_) (fun w1 b => nint_any _ _ z L w1 hL (n0.below b)) (fun g w1 b hc => ?_)
 ·have := nint_any (m k) (v k) (Z k) L w1 hL ((hv k hk).1.below b)
  rw [vs_eq (hv k hk).2] at this
  exact this
 ·have e : ((List.range n).map fun k => sfZ (Z k)).map natOf = (List.range n).map fun k => (Z k).natAbs := by
   rw [List.map_map]
   exact List.map_congr_left fun k _ => natOf_sfZ (Z k)
  have := over_any z (.slice (some ⟨g, 0, none⟩) n n) ((List.range n).map fun k => sfZ (Z k)) w1 (hT.below b) (rds_any hc) (by simpa using hn) (fun y hy => by
   rw [List.mem_map] at hy
   obtain ⟨k, hk, rfl⟩ := hy
   rw [List.mem_range] at hk
   have := hp k hk
   exact ⟨okS_sfZ _, by rw [natOf_sfZ]; omega, (hs k hk).size⟩) hK hz (by rw [e]; exact hP)
  rw [e] at this
  exact this
theorem Bd.abs {z : Int} {k : Nat} (h : Bd z k) : Bd ((z.natAbs : Nat) : Int) k := by unfold Bd at h ⊢; simpa using h
theorem nover_big (m0 : Bool) (v0 : Value) (a : Option Addr) (n cap : Nat) (m : Nat → Bool) (v : Nat → Value) (z : Int) (Z : Nat → Int) (L K : Nat) (w : World) (hT : Tab w) (hn : n ≤ 1000) (hK : K ≤ 8000)
  (n0 : NV w m0 v0 z L) (hr : RdN w a n m v) (hv : NVs w m v Z L n) (hp : ∀ k, k < n → 0 < Z k) (hz : Bd z K) (hB : Bd ((zprod Z n : Nat) : Int) K) {x : Rat} (hx : mkRat z (zprod Z n) = x) :
  Calls Tryz.prog 36 #[.agg #[.bool m0, v0], .slice a n cap] w (Re w (.agg #[.bool (nfZ x.num), .string (sfZ x.num), .string (strOf x.den)])) := by
 have hP : zprod Z n < 256 ^ K := by unfold Bd at hB; simpa using hB
 have hb : ∀ k, k < n → Bd (Z k) K := fun k hk => Nat.lt_of_le_of_lt (zprod_le hp hk) hP
 exact nover_any m0 v0 a n cap m v z Z 1000 K w hT hn (by omega) hK (n0.sharp hz (by omega)) hr (fun k hk => ⟨(hv k hk).1.sharp (hb k hk) (by omega), (hv k hk).2⟩) hp hz (fun k hk => (hb k hk).mono hK) hP hx
open Go.RowKit
theorem frac6_walk (N M : Int) (xN yN : Bool) (xS yS : ByteArray) (rN : Bool) (rS rD : ByteArray) (w : World)
  (H1 : Hid (∀ w1, Below w.heap.size w w1 → Calls Tryz.prog 48 #[.int .i64 N] w1 (Re w1 (.agg #[.bool xN, .string xS]))))
  (H2 : Hid (∀ w1, Below w.heap.size w w1 → Calls Tryz.prog 48 #[.int .i64 M] w1 (Re w1 (.agg #[.bool yN, .string yS]))))
  (H3 : Hid (∀ w1, Below w.heap.size w w1 → Calls Tryz.prog 52 #[.agg #[.bool xN, .string xS], .agg #[.bool yN, .string yS]] w1 (Re w1 (.agg #[.bool rN, .string rS, .string rD])))) :
  Calls Tryz.prog 27 #[.int .i64 N, .int .i64 M] w (Re w (.agg #[.bool rN, .string rS, .string rD])) := by
 go_enter Tryz.func27, Tryz.ntmps27
 go_wp2_with fail
 obtain ⟨w0, hw, kr, bb⟩ := mk1 w [.bool false, .string { data := #[] }, .string { data := #[] }] 26
 rw [← hw]
 clear hw
 go_fit (H1.out _ bb)
 rintro e w1 ⟨rfl, b1⟩
 replace kr := kr.below b1
 replace bb := Below.after bb b1
 clear b1
 go_wp2_with fail
 go_fit (H2.out _ bb)
 rintro e w2 ⟨rfl, b1⟩
 replace kr := kr.below b1
 replace bb := Below.after bb b1
 clear b1
 go_wp2_with fail
 go_fit (H3.out _ bb)
 rintro e w3 ⟨rfl, b1⟩
 replace kr := kr.below b1
 replace bb := Below.after bb b1
 clear b1
 obtain ⟨e0, e1, e2⟩ := xk3 kr
 have f0 := Cel.frozen kr 0
 have f1 := Cel.frozen kr 1
 have f2 := Cel.frozen kr 2
 go_wp2
 exact post_q (p := 4) (by kernel_rfl) rfl rfl (((kr.set 0 _).set 1 _).set 2 _) ⟨rfl, bset (bset (bset bb (by omega) 0 _) (by omega) 1 _) (by omega) 2 _⟩
open Go.RowKit
def SpV (w : World) (m0 : Bool) (a0 : Option Addr) (l0 c0 : Nat) (m1 : Bool) (a1 : Option Addr) (l1 c1 : Nat) (a2 : Option Addr) (l2 c2 : Nat) (X Y U : Int) (x y : Rat) : Prop := NV w m0 (.slice a0 l0 c0) X 53 ∧ NV w m1 (.slice a1 l1 c1) Y 53 ∧ NV w false (.slice a2 l2 c2) U 52 ∧ Gm.Way X Y U x y
theorem SpV.below {w w' : World} {m0 : Bool} {a0 : Option Addr} {l0 c0 : Nat} {m1 : Bool} {a1 : Option Addr} {l1 c1 : Nat} {a2 : Option Addr} {l2 c2 : Nat} {X Y U : Int} {x y : Rat} (h : SpV w m0 a0 l0 c0 m1 a1 l1 c1 a2 l2 c2 X Y U x y) (b : Below w.heap.size w w') : SpV w' m0 a0 l0 c0 m1 a1 l1 c1 a2 l2 c2 X Y U x y := ⟨h.1.below b, h.2.1.below b, h.2.2.1.below b, h.2.2.2⟩
theorem SpV.set6 {w : World} {n0 : Bool} {a0 : Option Addr} {l0 c0 : Nat} {n1 : Bool} {a1 : Option Addr} {l1 c1 : Nat} {a2 : Option Addr} {l2 c2 : Nat} {X Y U : Int} {rx ry : Rat} {m o p : Bool} {g : Nat} {a b d : Option Addr} {l c l3 c3 l4 c4 : Nat} {t : TypeId} (h : SpV w n0 a0 l0 c0 n1 a1 l1 c1 a2 l2 c2 X Y U rx ry) (hc : Cel w g [.bool m, .slice a l c, .bool o, .slice b l3 c3, .bool p, .slice d l4 c4] t) (x0 x1 x2 x3 x4 x5 : Value) : SpV ((((((w.setCell ⟨g, 0, none⟩ x0).setCell ⟨g, 1, none⟩ x1).setCell ⟨g, 2, none⟩ x2).setCell ⟨g, 3, none⟩ x3).setCell ⟨g, 4, none⟩ x4).setCell ⟨g, 5, none⟩ x5) n0 a0 l0 c0 n1 a1 l1 c1 a2 l2 c2 X Y U rx ry := ⟨h.1.set6 hc x0 x1 x2 x3 x4 x5, h.2.1.set6 hc x0 x1 x2 x3 x4 x5, h.2.2.1.set6 hc x0 x1 x2 x3 x4 x5, h.2.2.2⟩
end Go.Proofs.YtbafjmjcepcckaaGreatDoor
