/-
  'append' within a row's own room.
  Package span: CheckNumbers, walked.
  Package cons: far2, walked.
  A region whose order is open, state by state.
  Package whole: read of one number; powersUpTo of one limb.
  Package vec: isSquare, Det, of any rows.
  Package span: numbers as a sign and limbs.
-/
import Derived.ArgAppend
import Derived.Deep.Upon
import Derived.Laws.AppendOwnNone
import Derived.Lib.AppendIntMem
import Derived.Lib.AppendZeros
import Derived.Lib.BufferGrow
import Derived.Lib.SliceRun
import Derived.Shelf.LaysM
import Derived.Shelf.Spec.TrailingZeros
import Derived.Shelf.Strconv.Itoa1
import Derived.Shelf.Strconv.Itoa2
import Derived.Shelf.Strings.BuilderK
import Derived.Shelf.Strings.Prefix
import Derived.Shelf.Strings.Repeat
import Derived.Shelf.Strings.Trim
import Derived.Test.YtbafjmjcepcckaaGreatDoorO27
set_option maxRecDepth 100000
set_option maxHeartbeats 8000000
namespace Go.Proofs.YtbafjmjcepcckaaGreatDoor
open Go.RowKit
theorem blk_put : ∀ (ys : List Nat) (w : World) (g : Nat) (p q : List Nat), Blk w g (p ++ q) → ys.length ≤ q.length →
  Blk (w.setCells g p.length (ys.map fun x => Value.int .u64 (x : Nat))) g (p ++ ys ++ q.drop ys.length) ∧ Only g w (w.setCells g p.length (ys.map fun x => Value.int .u64 (x : Nat)))
 | [], w, g, p, q, h, _ => ⟨by simpa [World.setCells] using h, Only.refl _ _⟩
 | y :: ys, w, g, p, x :: q, h, hn => by
  have h1 : Blk (w.setCell ⟨g, p.length, none⟩ (.int .u64 (y : Nat))) g ((p ++ [y]) ++ q) := by
   have := h.set p.length y
   rwa [show (p ++ x :: q).set p.length y = (p ++ [y]) ++ q by simp] at this
  have r := blk_put ys _ g (p ++ [y]) q h1 (by simpa using hn)
  rw [List.length_append, List.length_singleton] at r
  refine ⟨?_, ?_⟩
  ·have := r.1
   rw [show p ++ y :: ys ++ (x :: q).drop (y :: ys).length = p ++ [y] ++ ys ++ q.drop ys.length by simp]
   exact this
  ·exact ((Only.refl g w).setCell _ _).trans r.2
 | y :: ys, w, g, p, [], h, hn => by simp at hn
theorem wpList_appB {w : World} {ops : Array Oper} {rest : List Oper} {o : Oper} {a : Act} {Q : Exit → Act → World → Prop}
  (hg : o.guard = none) (s x : Operand) (hop : o.op = Op.call { callee := Callee.builtin Builtin.append, args := #[s, x], argTypes := #[66, 66] })
  (g cap : Nat) (q ys : List Nat) (hs : a.eval s = .slice (some ⟨g, 0, none⟩) 0 cap) (hB : Blk w g q) (hcap : q.length = cap) (v : Value) (hx : a.eval x = v) (hv : Rd w v ys) (hfit : ys.length ≤ cap)
  (hK : ∀ w', Blk w' g (ys ++ q.drop ys.length) → Only g w w' → wpList Tryz.prog ops Q rest (a.put o.dst (.slice (some ⟨g, 0, none⟩) ys.length cap)) w') :
  wpList Tryz.prog ops Q (o :: rest) a w := by
 obtain ⟨i0, hi, hz0, hz1, hz2⟩ := info_parts (show (Tryz.prog.info? 118).map (fun i => (i.zero, i.size, i.bytes)) = some (some (.int .u64 0), 1, 8) by kernel_rfl)
 obtain ⟨ao, c, rfl, hc1, hcell⟩ := hv
 refine wpList_plain hg fun K hK' => ?_
 rcases Nat.eq_zero_or_pos ys.length with h0 | h0
 ·have hy : ys = [] := List.eq_nil_of_length_eq_zero h0
  subst hy
  have hrun : ∀ ty, (Builtin.append_ #[66, 66] ty #[.slice (some ⟨g, 0, none⟩) 0 cap, .slice ao 0 c]).run Tryz.prog w = .ok (.slice (some ⟨g, 0, none⟩) 0 cap) w := fun ty => by
   cases ao with
   | none => simp [Builtin.append_, run_underlying Tryz.underlying66, sizeOf, typeInfo, hi, Builtin.lenOf, Builtin.firstCells, storeCells]
   | some ad =>
    have := run_append_room_cells (P := Tryz.prog) w 66 ty 118 i0 Tryz.underlying66 hi g 0 0 cap ad 0 c [] (by simp) (by simp) (by simp) (by omega) (by simp) (by simp)
    simpa [World.setCells] using this
  unfold Oper.wp
  simp at hx
  simp [execOp, hop, resolve, invoke, builtin, hs, hx, hrun, Result.andThen]
  exact hK' _ _ (hK _ (by simpa using hB) (Only.refl _ _))
 ·obtain ⟨b, off, rfl, -⟩ := hcell 0 h0
  have hrun := fun ty => run_append_room_cells (P := Tryz.prog) w 66 ty 118 i0 Tryz.underlying66 hi g 0 0 cap ⟨b, off, none⟩ ys.length c (ys.map fun x => Value.int .u64 (x : Nat)) (by simp [hz1])
   (fun j u hu => by
    have hj : j < ys.length := by simpa using (List.getElem?_eq_some_iff.1 hu).1
    obtain ⟨b', off', e, hcl⟩ := hcell j hj
    cases e
    rw [Addr.add_lit, hcl]
    simp [lm, hj] at hu ⊢
    exact hu)
   (fun u hu => by simp at hu; obtain ⟨y, _, rfl⟩ := hu; rfl) (by omega)
   (fun j hj => by rw [hB.cell (by simp at hj; simp; omega)]; rfl) (fun j hj => hB.frozen _)
  have hp := blk_put ys w g [] q (by simpa using hB) (by omega)
  unfold Oper.wp
  simp [execOp, hop, resolve, invoke, builtin, hs, hx, hrun, Result.andThen]
  simp at hp
  exact hK' _ _ (hK _ hp.1 hp.2)
open Go.RowKit
theorem toolong2_no (B : Nat) (s0 s1 : ByteArray) (w : World) (h : Cel w B [.string s0, .string s1] 22) (z0 : s0.size ≤ 100) (z1 : s1.size ≤ 100) :
  Calls Tryz.prog 64 #[.slice (some ⟨B, 0, none⟩) 2 2] w (Re w (.bool false)) := by
 have i0 : ¬ (100 : Int) < s0.size := by omega
 have i1 : ¬ (100 : Int) < s1.size := by omega
 go_enter Tryz.func64, Tryz.ntmps64
 go_wp2
 go_loopw [7] (fun i wr => Below w.heap.size w wr ∧ (i = .int .i64 0 ∨ i = .int .i64 1 ∨ i = .int .i64 2)) (fun i _ => 2 - (intOf i).toNat)
 case atStart => exact ⟨Below.refl _ _, Or.inl rfl⟩
 case round =>
  obtain ⟨bb, hi⟩ := hrel
  obtain ⟨c0, c1⟩ := xk2 (h.below bb)
  rcases hi with rfl | rfl | rfl
  ·go_wp2
   exact ⟨⟨bb, Or.inr (Or.inl (by go_num))⟩, by simp [intOf]⟩
  ·go_wp2
   exact ⟨⟨bb, Or.inr (Or.inr (by go_num))⟩, by simp [intOf]⟩
  ·go_wp2
   go_ret
   exact ⟨rfl, bb⟩
theorem cnums_walk (a : Option Addr) (n cap : Nat) (N : Nat → Bool) (S D : Nat → ByteArray) (c : Nat → Nat) (w : World) (hn : n ≤ 1000000) (h : RdQ w a n N S D)
  (HZ : Hid (∀ k, k < n → (S k).size ≤ 100 ∧ (D k).size ≤ 100))
  (HC : Hid (∀ (k : Nat) (w1 : World), k < n → Below w.heap.size w w1 → Calls Tryz.prog 65 #[.agg #[.bool (N k), .string (S k), .string (D k)]] w1 (Re w1 (.int .i64 (c k : Nat))))) :
  Calls Tryz.prog 38 #[.slice a n cap] w (Re w (.int .i64 (firstE c n : Nat))) := by
 replace h := shut h
 go_enter Tryz.func38, Tryz.ntmps38
 go_wp2
 go_loopw [8] (fun i wr => Below w.heap.size w wr ∧ ∃ k : Nat, k ≤ n ∧ i = .int .i64 k ∧ firstE c k = 0) (fun i _ => n - (intOf i).toNat)
 case atStart => exact ⟨Below.refl _ _, 0, by omega, rfl, rfl⟩
 case round =>
  obtain ⟨bb, k, hk, rfl, hz⟩ := hrel
  by_cases hkn : k < n
  ·obtain ⟨b, off, rfl, h0, h1, h2⟩ := h.out.below bb k hkn
   go_wp2_with fail
   obtain ⟨w1, hw, kp, kq, b1⟩ := mk2 wr [.bool (N k), .string (S k), .string (D k)] [.string (S k), .string (D k)] 26 22
   rw [← hw]
   clear hw
   replace bb := Below.after bb b1
   clear b1 h0 h1 h2
   go_fit (toolong2_no _ _ _ _ kq (HZ.out k hkn).1 (HZ.out k hkn).2)
   rintro e w2 ⟨rfl, b1⟩
   replace kp := kp.below b1
   replace bb := Below.after bb b1
   clear b1 kq
   obtain ⟨c0, c1, c2⟩ := xk3 kp
   go_wp2_with fail
   go_fit (HC.out k _ hkn bb)
   rintro e w3 ⟨rfl, b1⟩
   replace bb := Below.after bb b1
   clear b1 c0 c1 c2 kp
   by_cases hc : c k = 0
   ·have hs : firstE c (k + 1) = 0 := by unfold firstE; rw [if_pos hz, hc]
    replace hs := shut hs
    replace hz := shut hz
    rw [hc]
    go_wp2
    exact ⟨⟨bb, k + 1, by omega, by go_num, hs.out⟩, by simp [intOf]; omega⟩
   ·have hs := firstE_stop hz hc n hkn
    replace hs := shut hs
    replace hz := shut hz
    go_wp2
    go_ret
    exact ⟨by rw [hs.out]; rfl, bb⟩
  ·obtain rfl : k = n := by omega
   replace hz := shut hz
   go_wp2
   go_ret
   exact ⟨by rw [hz.out]; rfl, bb⟩
open Go.RowKit
theorem al1e {w w' : World} {c0 : List Value} {t0 : TypeId} (b : Below (w.alloc (.cells c0.toArray t0)).drew.heap.size (w.alloc (.cells c0.toArray t0)).drew w') : Cel w' w.heap.size c0 t0 ∧ Below w.heap.size w w' := by
 have b' : Below (w.alloc (.cells c0.toArray t0)).heap.size (w.alloc (.cells c0.toArray t0)) w' := ⟨b.os, b.tape, b.output, b.size, b.block⟩
 exact al1 b'
open Go.RowKit
def ls (n : Nat) (l : List Nat) : Array Bool := (Array.range n).map fun i => l.contains i
theorem bset {N : Nat} {w wn : World} {g : Nat} (b : Below N w wn) (h : N ≤ g) (j : Nat) (v : Value) : Below N w (wn.setCell ⟨g, j, none⟩ v) := b.setCell h v
end Go.Proofs.YtbafjmjcepcckaaGreatDoor
namespace Go.Proofs.YtbafjmjcepcckaaGreatDoor
open Go.RowKit Go.Shelf
def slen : Value → Nat
 | .slice _ n _ => n
 | _ => 0
open Go.RowKit
def sq (n : Nat) (len : Nat → Nat) : Prop := 1 ≤ n ∧ n ≤ 4 ∧ ∀ i, i < n → len i = n
open Go.RowKit
def NV (w : World) (n : Bool) (v : Value) (z : Int) (L : Nat) : Prop := ∃ k, Rd w v (M.digs B64 k) ∧ k < B64 ^ L ∧ z = sgn n k
theorem NV.below {w w' : World} {n : Bool} {v : Value} {z : Int} {L : Nat} (h : NV w n v z L) (hb : Below w.heap.size w w') : NV w' n v z L := by
 obtain ⟨k, r, h1, h2⟩ := h
 exact ⟨k, r.below hb, h1, h2⟩
theorem NV.mono {w : World} {n : Bool} {v : Value} {z : Int} {L M' : Nat} (h : NV w n v z L) (hL : L ≤ M') : NV w n v z M' := by
 obtain ⟨k, r, h1, h2⟩ := h
 exact ⟨k, r, Nat.lt_of_lt_of_le h1 (pow_le_B64 hL), h2⟩
theorem rd_slice {w : World} {v : Value} {xs : List Nat} (h : Rd w v xs) : ∃ a l c, v = .slice a l c := by
 obtain ⟨a, c, rfl, -, -⟩ := h
 exact ⟨_, _, _, rfl⟩
theorem NV.slice {w : World} {n : Bool} {v : Value} {z : Int} {L : Nat} (h : NV w n v z L) : ∃ a l c, v = .slice a l c := by
 obtain ⟨k, r, -⟩ := h
 exact rd_slice r
theorem no_ints2 (n : Bool) (a : Option Addr) (l c : Nat) : ∀ (j : Nat) (k : IntKind) (i : Int), [Value.bool n, .slice a l c][j]? ≠ some (.int k i) := by
 intro j k i
 match j with
 | 0 => simp
 | 1 => simp
 | j + 2 => simp
theorem no_ints6 (n m o : Bool) (a b d : Option Addr) (l c l1 c1 l2 c2 : Nat) : ∀ (j : Nat) (k : IntKind) (i : Int), [Value.bool n, .slice a l c, .bool m, .slice b l1 c1, .bool o, .slice d l2 c2][j]? ≠ some (.int k i) := by
 intro j k i
 match j with
 | 0 => simp
 | 1 => simp
 | 2 => simp
 | 3 => simp
 | 4 => simp
 | 5 => simp
 | j + 6 => simp
theorem NV.set2 {w : World} {n m : Bool} {v : Value} {z : Int} {L g : Nat} {a : Option Addr} {l c : Nat} {t : TypeId} (h : NV w n v z L) (hc : Cel w g [.bool m, .slice a l c] t) (x y : Value) :
  NV ((w.setCell ⟨g, 0, none⟩ x).setCell ⟨g, 1, none⟩ y) n v z L := by
 obtain ⟨k, r, h1, h2⟩ := h
 exact ⟨k, (((rdx_of_cel r hc (no_ints2 _ _ _ _)).setX 0 x).setX 1 y).rd, h1, h2⟩
theorem NV.set6 {w : World} {n m o p : Bool} {v : Value} {z : Int} {L g : Nat} {a b d : Option Addr} {l c l1 c1 l2 c2 : Nat} {t : TypeId} (h : NV w n v z L) (hc : Cel w g [.bool m, .slice a l c, .bool o, .slice b l1 c1, .bool p, .slice d l2 c2] t) (x0 x1 x2 x3 x4 x5 : Value) :
  NV ((((((w.setCell ⟨g, 0, none⟩ x0).setCell ⟨g, 1, none⟩ x1).setCell ⟨g, 2, none⟩ x2).setCell ⟨g, 3, none⟩ x3).setCell ⟨g, 4, none⟩ x4).setCell ⟨g, 5, none⟩ x5) n v z L := by
 obtain ⟨k, r, h1, h2⟩ := h
 exact ⟨k, (((((((rdx_of_cel r hc (no_ints6 _ _ _ _ _ _ _ _ _ _ _ _)).setX 0 x0).setX 1 x1).setX 2 x2).setX 3 x3).setX 4 x4).setX 5 x5).rd, h1, h2⟩
theorem load_n {w : World} {g : Nat} {x y : Value} (h : Cel w g [x, y] 68) : (loadVar 68 ⟨g, 0, none⟩).run Tryz.prog w = .ok (.agg #[x, y]) w :=
 run_loadVar_row w g 68 68 #[x, y] (0, 0) _ h Tryz.underlying68 rfl (by kernel_rfl)
theorem post_n {fn : Func} {p : Tmp} {R : Ending → World → Prop} {a : Act} {w : World} {g : Nat} {x y : Value} (h : fn.results = #[.cell p 68]) (hp : a.tmps.getD p undef = .pointer (some ⟨g, 0, none⟩)) (hd : a.defers = [])
  (hc : Cel w g [x, y] 68) (hR : R (.returned (.agg #[x, y])) w) : bodyPost Tryz.prog fn R .ret a w := by
 refine ⟨hd, .agg #[x, y], ?_, hR⟩
 exact results_cell_row (P := Tryz.prog) h _ w g 68 #[x, y] (0, 0) _ hp hc Tryz.underlying68 rfl (by kernel_rfl)
theorem sgn_sign (n : Bool) (k : Nat) : (sgn n k).sign = if k = 0 then 0 else if n then -1 else 1 := by
 unfold sgn
 by_cases h : k = 0
 ·subst h; cases n <;> rfl
 ·rw [if_neg h]
  cases n
  ·exact Int.sign_eq_one_of_pos (by simp; omega)
  ·exact Int.sign_eq_neg_one_of_neg (by simp; omega)
theorem digs_len_zero {k : Nat} : (M.digs B64 k).length = 0 ↔ k = 0 := by
 constructor
 ·intro h
  have h1 := M.val_digs B64_two k
  rw [List.length_eq_zero_iff.1 h] at h1
  exact h1.symm
 ·intro h; subst h; exact Nat.le_zero.1 (M.digs_len_of_lt B64_two (by simp))
theorem numOf_any (n : Bool) (s : ByteArray) (w : World) (hm : s.size ≤ 8000) (h0 : 0 < s.size → lm (byts s) 0 ≠ 0) (L : Nat) (hL : natOf s < B64 ^ L) :
  Calls Tryz.prog 58 #[.agg #[.bool n, .string s]] w fun e w' => ∃ v, e = .returned (.agg #[.bool n, v]) ∧ NV w' n v (sgn n (natOf s)) L ∧ Below w.heap.size w w' := by
 have H := shut (fun w1 => of_any s w1 (by omega) h0)
 clear h0 hm
 go_enter Tryz.func58, Tryz.ntmps58
 go_wp2_with fail
 obtain ⟨w0, hw, k0, k1, bb⟩ := mk2 w [.bool n, .string s] [.bool false, .slice none 0 0] 24 68
 rw [← hw]
 clear hw
 go_fit (H.out _)
 rintro e w1 ⟨v, rfl, r, b1⟩
 obtain ⟨a, l, c, rfl⟩ := rd_slice r
 replace k0 := k0.below b1
 replace k1 := k1.below b1
 replace bb := Below.after bb b1
 clear b1
 have c0 := cel2_0 k0
 obtain ⟨c1, c2⟩ := xk2 k1
 have f0 := k1.frozen 0
 have f1 := k1.frozen 1
 replace r := shut r
 go_wp2
 have nv : NV w1 n (.slice a l c) (sgn n (natOf s)) L := ⟨_, r.out, hL, rfl⟩
 exact post_n (p := 2) (by kernel_rfl) rfl rfl ((k1.set 0 _).set 1 _) ⟨_, rfl, nv.set2 k1 _ _, (bb.setCell (by simp) _).setCell (by simp) _⟩
theorem nsign_any (n : Bool) (v : Value) (z : Int) (L : Nat) (w : World) (h : NV w n v z L) :
  Calls Tryz.prog 97 #[.agg #[.bool n, v]] w (Re w (.int .i64 z.sign)) := by
 obtain ⟨k, r, hk, rfl⟩ := h
 rw [sgn_sign]
 by_cases h0 : k = 0
 ·rw [if_pos h0]
  have hl := digs_len_zero.2 h0
  obtain ⟨a, c, rfl, -, -⟩ := r
  rw [hl]
  go_enter Tryz.func97, Tryz.ntmps97
  go_wp2
  go_ret
  exact ⟨rfl, by go_grown⟩
 ·rw [if_neg h0]
  have hl : ¬ ((M.digs B64 k).length : Int) = 0 := fun h => h0 (digs_len_zero.1 (by omega))
  obtain ⟨a, c, rfl, -, -⟩ := r
  generalize (M.digs B64 k).length = l at *
  cases n with
  | false =>
   go_enter Tryz.func97, Tryz.ntmps97
   go_wp2
   go_ret
   exact ⟨rfl, by go_grown⟩
  | true =>
   go_enter Tryz.func97, Tryz.ntmps97
   go_wp2
   go_ret
   exact ⟨rfl, by go_grown⟩
theorem nv_len {k L : Nat} (h : k < B64 ^ L) (hL : L ≤ 1000) : (M.digs B64 k).length ≤ 4000 := Nat.le_trans (M.digs_len_of_lt B64_two h) (by omega)
theorem nisone_any (n : Bool) (v : Value) (z : Int) (L : Nat) (w : World) (h : NV w n v z L) :
  Calls Tryz.prog 95 #[.agg #[.bool n, v]] w fun e w' => ∃ b, e = .returned (.bool b) ∧ (b = true → z = 1 ∧ n = false) ∧ Below w.heap.size w w' := by
 obtain ⟨k, r, hk, rfl⟩ := h
 clear hk
 by_cases h1 : (M.digs B64 k).length = 1
 ·obtain ⟨a, c, rfl, -, hc⟩ := r
  obtain ⟨b, off, rfl, h0⟩ := hc 0 (by omega)
  clear hc
  have hv : Hid (lm (M.digs B64 k) 0 = k) := by
   show _ = _
   have h2 := M.val_digs B64_two k
   match hd : M.digs B64 k, h1 with
   | [x], _ => rw [hd] at h2; simpa [M.val, lm] using h2
  rw [h1]
  rw [hv.out] at h0
  simp only [Nat.add_zero] at h0
  clear h1
  by_cases hk : k = 1
  ·subst hk
   cases n with
   | true =>
    have h1 := cell_below h0 (bel_al w (.cells #[.bool true, .slice (some ⟨b, off, none⟩) 1 c] 68))
    go_enter Tryz.func95, Tryz.ntmps95
    go_wp2
    go_ret
    exact ⟨_, rfl, fun h => by simp at h, by go_grown⟩
   | false =>
    have h1 := cell_below h0 (bel_al w (.cells #[.bool false, .slice (some ⟨b, off, none⟩) 1 c] 68))
    go_enter Tryz.func95, Tryz.ntmps95
    go_wp2
    go_ret
    exact ⟨_, rfl, fun h => by simp [sgn], by go_grown⟩
  ·have hk' : ¬ (k : Int) = 1 := by omega
   clear hv
   have h1 := cell_below h0 (bel_al w (.cells #[.bool n, .slice (some ⟨b, off, none⟩) 1 c] 68))
   go_enter Tryz.func95, Tryz.ntmps95
   go_wp2
   go_ret
   exact ⟨_, rfl, fun h => by simp at h, by go_grown⟩
 ·have hl : ¬ ((M.digs B64 k).length : Int) = 1 := by omega
  obtain ⟨a, c, rfl, -, -⟩ := r
  generalize (M.digs B64 k).length = l at *
  go_enter Tryz.func95, Tryz.ntmps95
  go_wp2
  go_ret
  exact ⟨_, rfl, fun h => by simp at h, by go_grown⟩
theorem nsame_any (n n' : Bool) (v v' : Value) (k k' L : Nat) (w : World) (h : Rd w v (M.digs B64 k)) (h' : Rd w v' (M.digs B64 k')) (hL : L ≤ 1000) (hk : k < B64 ^ L) (hk' : k' < B64 ^ L) :
  Calls Tryz.prog 143 #[.agg #[.bool n, v], .agg #[.bool n', v']] w (Re w (.bool (decide (k = k')))) := by
 have H : Hid (∀ w1, Below w.heap.size w w1 → Calls Tryz.prog 118 #[v, v'] w1 (Re w1 (.tuple #[.int .i64 (cmpN k k'), .int .i64 0]))) := fun w1 b => by
  have := cmp_any v v' _ _ w1 (h.below b) (h'.below b) (M.Low.digs B64_two k) (M.Low.digs B64_two k') (nv_len hk hL) (nv_len hk' hL)
  rwa [M.val_digs B64_two, M.val_digs B64_two] at this
 obtain ⟨a, l, c, rfl⟩ := rd_slice h
 obtain ⟨a', l', c', rfl⟩ := rd_slice h'
 clear h h' hk hk'
 have hc : (k = k' ∧ cmpN k k' = 0) ∨ (¬ k = k' ∧ ¬ cmpN k k' = 0) := by
  unfold cmpN
  by_cases e : k = k'
  ·exact Or.inl ⟨e, by simp [e]⟩
  ·refine Or.inr ⟨e, ?_⟩
   split
   ·decide
   ·rw [if_pos (by omega)]; decide
 generalize cmpN k k' = cm at *
 go_enter Tryz.func143, Tryz.ntmps143
 go_wp2_with fail
 obtain ⟨w0, hw, k0, k1, bb⟩ := mk2 w [.bool n, .slice a l c] [.bool n', .slice a' l' c'] 68 68
 rw [← hw]
 clear hw
 go_fit (H.out _ bb)
 rintro e w1 ⟨rfl, b1⟩
 replace bb := Below.after bb b1
 rcases hc with ⟨e, h0⟩ | ⟨e, h0⟩
 ·subst h0
  go_wp2
  go_ret
  exact ⟨by rw [decide_eq_true e]; rfl, bb⟩
 ·go_wp2
  go_ret
  exact ⟨by rw [decide_eq_false e, ← beq_eq_false_iff_ne.2 h0]; rfl, bb⟩
theorem sgn_add (n : Bool) (k k' : Nat) : sgn n (k + k') = sgn n k + sgn n k' := by unfold sgn; cases n <;> simp <;> omega
theorem pow_add_lt {k k' L : Nat} (h : k < B64 ^ L) (h' : k' < B64 ^ L) : k + k' < B64 ^ (L + 1) := by
 have h2 : 2 * B64 ^ L ≤ B64 * B64 ^ L := Nat.mul_le_mul_right _ B64_two
 rw [Nat.pow_succ, Nat.mul_comm]
 omega
theorem pow_mul_lt {k k' L L' : Nat} (h : k < B64 ^ L) (h' : k' < B64 ^ L') : k * k' < B64 ^ (L + L') := by
 rw [Nat.pow_add]
 exact Nat.mul_lt_mul'' h h'
theorem nplus_any (n n' : Bool) (v v' : Value) (z z' : Int) (L : Nat) (w : World) (hL : L ≤ 1000) (h : NV w n v z L) (h' : NV w n' v' z' L) :
  Calls Tryz.prog 60 #[.agg #[.bool n, v], .agg #[.bool n', v']] w fun e w' => ∃ m u, e = .returned (.agg #[.bool m, u]) ∧ NV w' m u (z + z') (L + 1) ∧ Below w.heap.size w w' := by
 obtain ⟨k, r, hk, rfl⟩ := h
 obtain ⟨k', r', hk', rfl⟩ := h'
 have l1 := nv_len hk hL
 have l2 := nv_len hk' hL
 by_cases hn : n = n'
 ·subst hn
  have H : Hid (∀ w1, Below w.heap.size w w1 → Calls Tryz.prog 91 #[v, v'] w1 fun e w' => ∃ v, e = .returned (.tuple #[v, .int .i64 0]) ∧ Rd w' v (M.digs B64 (k + k')) ∧ Below w1.heap.size w1 w') := fun w1 b => by
   have := add_any v v' _ _ w1 (r.below b) (r'.below b) (M.Low.digs B64_two k) (M.Low.digs B64_two k') l1 l2
   rwa [M.val_digs B64_two, M.val_digs B64_two] at this
  obtain ⟨a, l, c, rfl⟩ := rd_slice r
  obtain ⟨a', l', c', rfl⟩ := rd_slice r'
  have HR : Hid (∀ w u, Rd w u (M.digs B64 (k + k')) → NV w n u (sgn n k + sgn n k') (L + 1)) := fun w u r => ⟨_, r, pow_add_lt hk hk', (sgn_add _ _ _).symm⟩
  generalize sgn n k + sgn n k' = z at *
  clear r r' l1 l2 hk hk'
  go_enter Tryz.func60, Tryz.ntmps60
  go_wp2_with fail
  obtain ⟨w0, hw, k0, k1, k2, bb⟩ := mk3 w [.bool n, .slice a l c] [.bool n, .slice a' l' c'] [.bool false, .slice none 0 0] 68 68 68
  rw [← hw]
  clear hw
  go_fit (H.out _ bb)
  rintro e w1 ⟨u, rfl, ru, b1⟩
  obtain ⟨a2, l2, c2, rfl⟩ := rd_slice ru
  replace k0 := k0.below b1
  replace k2 := k2.below b1
  replace bb := Below.after bb b1
  clear b1 k1
  have c0 := cel2_0 k0
  obtain ⟨c1, c3⟩ := xk2 k2
  have f0 := k2.frozen 0
  have f1 := k2.frozen 1
  replace ru := shut ru
  go_wp2
  exact post_n (p := 4) (by kernel_rfl) rfl rfl ((k2.set 0 _).set 1 _) ⟨_, _, rfl, (HR.out _ _ ru.out).set2 k2 _ _, (bb.setCell (by simp; omega) _).setCell (by simp; omega) _⟩
 ·have hq : (n == n') = false := by simpa using hn
  obtain rfl : n' = !n := by cases n <;> cases n' <;> simp_all
  by_cases hlt : k < k'
  ·have H : Hid (∀ w1, Below w.heap.size w w1 → Calls Tryz.prog 92 #[v, v'] w1 (Re w1 (.tuple #[.slice none 0 0, .int .i64 2]))) := fun w1 b => by
    have := sub_any v v' _ _ w1 (r.below b) (r'.below b) (M.Low.digs B64_two k) (M.Low.digs B64_two k') l1 l2
    rw [M.val_digs B64_two, M.val_digs B64_two] at this
    exact this.mono fun e w' h => ⟨h.2.1 hlt, h.2.2⟩
   have H2 : Hid (∀ w1, Below w.heap.size w w1 → Calls Tryz.prog 92 #[v', v] w1 fun e w' => ∃ v, e = .returned (.tuple #[v, .int .i64 0]) ∧ Rd w' v (M.digs B64 (k' - k)) ∧ Below w1.heap.size w1 w') := fun w1 b => by
    have := sub_any v' v _ _ w1 (r'.below b) (r.below b) (M.Low.digs B64_two k') (M.Low.digs B64_two k) l2 l1
    rw [M.val_digs B64_two, M.val_digs B64_two] at this
    exact this.mono fun e w' h => by obtain ⟨v, h1, h2⟩ := h.1 (Nat.le_of_lt hlt); exact ⟨v, h1, h2, h.2.2⟩
   obtain ⟨a, l, c, rfl⟩ := rd_slice r
   obtain ⟨a', l', c', rfl⟩ := rd_slice r'
   have HR : Hid (∀ w u, Rd w u (M.digs B64 (k' - k)) → NV w (!n) u (sgn n k + sgn (!n) k') (L + 1)) := fun w u r => ⟨_, r, Nat.lt_of_lt_of_le (show k' - k < B64 ^ L by omega) (pow_le_B64 (by omega)), by rw [← difz_eq]; unfold difz; rw [if_pos hlt]⟩
   generalize sgn n k + sgn (!n) k' = z at *
   clear r r' l1 l2 hk hk'
   go_enter Tryz.func60, Tryz.ntmps60
   go_wp2_with fail
   obtain ⟨w0, hw, k0, k1, k2, bb⟩ := mk3 w [.bool n, .slice a l c] [.bool (!n), .slice a' l' c'] [.bool false, .slice none 0 0] 68 68 68
   rw [← hw]
   clear hw
   go_fit (H.out _ bb)
   rintro e w1 ⟨rfl, b1⟩
   replace k0 := k0.below b1
   replace k1 := k1.below b1
   replace k2 := k2.below b1
   replace bb := Below.after bb b1
   clear b1
   have c0 := cel2_1 k0
   have c1 := cel2_1 k1
   go_wp2_with fail
   go_fit (H2.out _ bb)
   rintro e w2 ⟨u, rfl, ru, b1⟩
   obtain ⟨a2, l2, c2, rfl⟩ := rd_slice ru
   replace k1 := k1.below b1
   replace k2 := k2.below b1
   replace bb := Below.after bb b1
   clear b1 c0 c1 k0
   have c0 := cel2_0 k1
   obtain ⟨c1, c3⟩ := xk2 k2
   have f0 := k2.frozen 0
   have f1 := k2.frozen 1
   replace ru := shut ru
   go_wp2
   exact post_n (p := 4) (by kernel_rfl) rfl rfl ((k2.set 0 _).set 1 _) ⟨_, _, rfl, (HR.out _ _ ru.out).set2 k2 _ _, (bb.setCell (by simp; omega) _).setCell (by simp; omega) _⟩
  ·have H : Hid (∀ w1, Below w.heap.size w w1 → Calls Tryz.prog 92 #[v, v'] w1 fun e w' => ∃ v, e = .returned (.tuple #[v, .int .i64 0]) ∧ Rd w' v (M.digs B64 (k - k')) ∧ Below w1.heap.size w1 w') := fun w1 b => by
    have := sub_any v v' _ _ w1 (r.below b) (r'.below b) (M.Low.digs B64_two k) (M.Low.digs B64_two k') l1 l2
    rw [M.val_digs B64_two, M.val_digs B64_two] at this
    exact this.mono fun e w' h => by obtain ⟨v, h1, h2⟩ := h.1 (Nat.le_of_not_lt hlt); exact ⟨v, h1, h2, h.2.2⟩
   obtain ⟨a, l, c, rfl⟩ := rd_slice r
   obtain ⟨a', l', c', rfl⟩ := rd_slice r'
   have HR : Hid (∀ w u, Rd w u (M.digs B64 (k - k')) → NV w n u (sgn n k + sgn (!n) k') (L + 1)) := fun w u r => ⟨_, r, Nat.lt_of_lt_of_le (show k - k' < B64 ^ L by omega) (pow_le_B64 (by omega)), by rw [← difz_eq]; unfold difz; rw [if_neg hlt]⟩
   generalize sgn n k + sgn (!n) k' = z at *
   clear r r' l1 l2 hk hk'
   go_enter Tryz.func60, Tryz.ntmps60
   go_wp2_with fail
   obtain ⟨w0, hw, k0, k1, k2, bb⟩ := mk3 w [.bool n, .slice a l c] [.bool (!n), .slice a' l' c'] [.bool false, .slice none 0 0] 68 68 68
   rw [← hw]
   clear hw
   go_fit (H.out _ bb)
   rintro e w1 ⟨u, rfl, ru, b1⟩
   obtain ⟨a2, l2, c2, rfl⟩ := rd_slice ru
   replace k0 := k0.below b1
   replace k2 := k2.below b1
   replace bb := Below.after bb b1
   clear b1 k1
   have c0 := cel2_0 k0
   obtain ⟨c1, c3⟩ := xk2 k2
   have f0 := k2.frozen 0
   have f1 := k2.frozen 1
   replace ru := shut ru
   go_wp2
   exact post_n (p := 4) (by kernel_rfl) rfl rfl ((k2.set 0 _).set 1 _) ⟨_, _, rfl, (HR.out _ _ ru.out).set2 k2 _ _, (bb.setCell (by simp; omega) _).setCell (by simp; omega) _⟩
theorem nsgn_not (n : Bool) (k : Nat) : sgn (!n) k = -sgn n k := by unfold sgn; cases n <;> simp
theorem nminus_any (n n' : Bool) (v v' : Value) (z z' : Int) (L : Nat) (w : World) (hL : L ≤ 1000) (h : NV w n v z L) (h' : NV w n' v' z' L) :
  Calls Tryz.prog 144 #[.agg #[.bool n, v], .agg #[.bool n', v']] w fun e w' => ∃ m u, e = .returned (.agg #[.bool m, u]) ∧ NV w' m u (z - z') (L + 1) ∧ Below w.heap.size w w' := by
 have h2 : NV w (!n') v' (-z') L := by
  obtain ⟨k, r, hk, rfl⟩ := h'
  exact ⟨k, r, hk, (nsgn_not _ _).symm⟩
 have H : Hid (∀ w1, Below w.heap.size w w1 → Calls Tryz.prog 60 #[.agg #[.bool n, v], .agg #[.bool (!n'), v']] w1 fun e w' => ∃ m u, e = .returned (.agg #[.bool m, u]) ∧ NV w' m u (z - z') (L + 1) ∧ Below w1.heap.size w1 w') := fun w1 b => by
  have := nplus_any n (!n') v v' z (-z') L w1 hL (h.below b) (h2.below b)
  rwa [← Int.sub_eq_add_neg] at this
 obtain ⟨a, l, c, rfl⟩ := h.slice
 obtain ⟨a', l', c', rfl⟩ := h'.slice
 clear h h' h2
 go_enter Tryz.func144, Tryz.ntmps144
 go_wp2_with fail
 obtain ⟨w0, hw, k0, k1, k2, bb⟩ := mk3 w [.bool n, .slice a l c] [.bool n', .slice a' l' c'] [.bool false, .slice none 0 0] 68 68 68
 rw [← hw]
 clear hw
 go_fit (H.out _ bb)
 rintro e w1 ⟨m, u, rfl, nv, b1⟩
 obtain ⟨a2, l2, c2, rfl⟩ := nv.slice
 replace k2 := k2.below b1
 replace bb := Below.after bb b1
 clear b1 k1 k0
 obtain ⟨c1, c3⟩ := xk2 k2
 have f0 := k2.frozen 0
 have f1 := k2.frozen 1
 replace nv := shut nv
 go_wp2
 exact post_n (p := 4) (by kernel_rfl) rfl rfl ((k2.set 0 _).set 1 _) ⟨_, _, rfl, nv.out.set2 k2 _ _, (bb.setCell (by simp; omega) _).setCell (by simp; omega) _⟩
theorem nsgn_mul (n n' : Bool) (k k' : Nat) : sgn (n != n') (k * k') = sgn n k * sgn n' k' := by
 unfold sgn
 cases n <;> cases n' <;> simp <;> grind
theorem ntimes_any (n n' : Bool) (v v' : Value) (z z' : Int) (L L' : Nat) (w : World) (hL : L ≤ 1000) (hL' : L' ≤ 1000) (h : NV w n v z L) (h' : NV w n' v' z' L') :
  Calls Tryz.prog 59 #[.agg #[.bool n, v], .agg #[.bool n', v']] w fun e w' => ∃ m u, e = .returned (.agg #[.bool m, u]) ∧ NV w' m u (z * z') (L + L') ∧ (n = false → n' = false → m = false) ∧ Below w.heap.size w w' := by
 have H1 := shut (fun w1 (b : Below w.heap.size w w1) => nisone_any n v z L w1 (h.below b))
 have H2 := shut (fun w1 (b : Below w.heap.size w w1) => nisone_any n' v' z' L' w1 (h'.below b))
 have H3 : Hid (∀ w1, Below w.heap.size w w1 → Calls Tryz.prog 93 #[v, v'] w1 fun e w' => ∃ u, e = .returned (.tuple #[u, .int .i64 0]) ∧ NV w' (n != n') u (z * z') (L + L') ∧ Below w1.heap.size w1 w') := fun w1 b => by
  obtain ⟨k, r, hk, rfl⟩ := h
  obtain ⟨k', r', hk', rfl⟩ := h'
  have := mul_any v v' _ _ w1 (r.below b) (r'.below b) (M.Low.digs B64_two k) (M.Low.digs B64_two k') (nv_len hk hL) (nv_len hk' hL')
  rw [M.val_digs B64_two, M.val_digs B64_two] at this
  exact this.mono fun e w' ⟨u, h1, h2, h3⟩ => ⟨u, h1, ⟨_, h2, pow_mul_lt hk hk', (nsgn_mul _ _ _ _).symm⟩, h3⟩
 have HA : Hid (z = 1 → ∀ w1, Below w.heap.size w w1 → NV w1 n' v' (z * z') (L + L')) := fun e w1 b => by
  rw [e, Int.one_mul]
  exact (h'.below b).mono (by omega)
 have HB : Hid (z' = 1 → ∀ w1, Below w.heap.size w w1 → NV w1 n v (z * z') (L + L')) := fun e w1 b => by
  rw [e, Int.mul_one]
  exact (h.below b).mono (by omega)
 obtain ⟨a, l, c, rfl⟩ := h.slice
 obtain ⟨a', l', c', rfl⟩ := h'.slice
 clear h h'
 go_enter Tryz.func59, Tryz.ntmps59
 go_wp2_with fail
 obtain ⟨w0, hw, k0, k1, k2, bb⟩ := mk3 w [.bool n, .slice a l c] [.bool n', .slice a' l' c'] [.bool false, .slice none 0 0] 68 68 68
 rw [← hw]
 clear hw
 go_fit (H1.out _ bb)
 rintro e w1 ⟨b, rfl, hb, b1⟩
 replace k0 := k0.below b1
 replace k1 := k1.below b1
 replace k2 := k2.below b1
 replace bb := Below.after bb b1
 clear b1
 obtain ⟨c0, c1⟩ := xk2 k0
 obtain ⟨c2, c3⟩ := xk2 k1
 obtain ⟨c4, c5⟩ := xk2 k2
 have f0 := k2.frozen 0
 have f1 := k2.frozen 1
 cases b with
 | true =>
  have hz := (hb rfl).1
  clear hb
  have nv := shut ((HA.out hz _ bb).set2 k2 (.bool n') (.slice a' l' c'))
  clear hz
  go_wp2
  exact post_n (p := 4) (by kernel_rfl) rfl rfl ((k2.set 0 _).set 1 _) ⟨_, _, rfl, nv.out, fun _ h => h, (bb.setCell (by simp; omega) _).setCell (by simp; omega) _⟩
 | false =>
 clear hb
 go_wp2_with fail
 go_fit (H2.out _ bb)
 rintro e w2 ⟨b, rfl, hb, b1⟩
 replace k0 := k0.below b1
 replace k1 := k1.below b1
 replace k2 := k2.below b1
 replace bb := Below.after bb b1
 clear b1 c0 c1 c2 c3 c4 c5 f0 f1
 obtain ⟨c0, c1⟩ := xk2 k0
 obtain ⟨c2, c3⟩ := xk2 k1
 obtain ⟨c4, c5⟩ := xk2 k2
 have f0 := k2.frozen 0
 have f1 := k2.frozen 1
 cases b with
 | true =>
  have hz := (hb rfl).1
  clear hb
  have nv := shut ((HB.out hz _ bb).set2 k2 (.bool n) (.slice a l c))
  clear hz
  go_wp2
  exact post_n (p := 4) (by kernel_rfl) rfl rfl ((k2.set 0 _).set 1 _) ⟨_, _, rfl, nv.out, fun h _ => h, (bb.setCell (by simp; omega) _).setCell (by simp; omega) _⟩
 | false =>
 clear hb
 go_wp2_with fail
 go_fit (H3.out _ bb)
 rintro e w3 ⟨u, rfl, nv, b1⟩
 obtain ⟨a2, l2, c2', rfl⟩ := nv.slice
 replace k0 := k0.below b1
 replace k1 := k1.below b1
 replace k2 := k2.below b1
 replace bb := Below.after bb b1
 clear b1 c0 c1 c2 c3 c4 c5 f0 f1
 have c0 := cel2_0 k0
 have c2 := cel2_0 k1
 obtain ⟨c4, c5⟩ := xk2 k2
 have f0 := k2.frozen 0
 have f1 := k2.frozen 1
 replace nv := shut nv
 go_wp2
 exact post_n (p := 4) (by kernel_rfl) rfl rfl ((k2.set 0 _).set 1 _) ⟨_, _, rfl, nv.out.set2 k2 _ _, fun h h' => by rw [h, h']; rfl, (bb.setCell (by simp; omega) _).setCell (by simp; omega) _⟩
end Go.Proofs.YtbafjmjcepcckaaGreatDoor
