import Derived.ArgAppend
import Derived.Deep.Upon
import Derived.Laws.AppendOwnNone
import Derived.Lib.AppendIntMem
import Derived.Lib.AppendZeros
import Derived.Lib.BufferGrow
import Derived.Lib.SliceRun
import Derived.Shelf.LaysM
import Derived.Shelf.Spec.TrailingZeros
import Derived.Shelf.Strconv.Itoa1
import Derived.Shelf.Strconv.Itoa2
import Derived.Shelf.Strings.BuilderK
import Derived.Shelf.Strings.Prefix
import Derived.Shelf.Strings.Repeat
import Derived.Shelf.Strings.Trim
import Derived.Test.YtnplifkgeeicjaaGreatDoorQ29
set_option maxRecDepth 100000
set_option maxHeartbeats 8000000
namespace Go.Proofs.YtnplifkgeeicjaaGreatDoor
open Go.RowKit
theorem Xe : ∀ (ys : List Nat) (w : World) (g : Nat) (p q : List Nat), B6 w g (p ++ q) → ys.length ≤ q.length →
  B6 (w.setCells g p.length (ys.map fun x => Value.int .u64 (x : Nat))) g (p ++ ys ++ q.drop ys.length) ∧ Ca g w (w.setCells g p.length (ys.map fun x => Value.int .u64 (x : Nat)))
 | [], w, g, p, q, h, _ => ⟨by simpa [World.setCells] using h, Ca.refl _ _⟩
 | y :: ys, w, g, p, x :: q, h, hn => by
  have h1 : B6 (w.setCell ⟨g, p.length, none⟩ (.int .u64 (y : Nat))) g ((p ++ [y]) ++ q) := by
   have := h.set p.length y
   rwa [show (p ++ x :: q).set p.length y = (p ++ [y]) ++ q by simp] at this
  have r := Xe ys _ g (p ++ [y]) q h1 (by simpa using hn)
  rw [Ji, List.length_singleton] at r
  refine ⟨?_, ?_⟩
  ·have := r.1
   rw [show p ++ y :: ys ++ (x :: q).drop (y :: ys).length = p ++ [y] ++ ys ++ q.drop ys.length by simp]
   exact this
  ·exact ((Ca.refl g w).setCell _ _).trans r.2
 | y :: ys, w, g, p, [], h, hn => by simp at hn
theorem Gd {w : World} {ops : Array Oper} {rest : List Oper} {o : Oper} {a : Act} {Q : Exit → Act → World → Prop}
  (hg : o.guard = none) (s x : Operand) (hop : o.op = Op.call { callee := Callee.builtin Builtin.append, args := #[s, x], argTypes := #[64, 64] })
  (g cap : Nat) (q ys : List Nat) (hs : a.eval s = .slice (some ⟨g, 0, none⟩) 0 cap) (hB : B6 w g q) (hcap : q.length = cap) (v : Value) (hx : a.eval x = v) (hv : Rd w v ys) (hfit : ys.length ≤ cap)
  (hK : ∀ w', B6 w' g (ys ++ q.drop ys.length) → Ca g w w' → wpList Tryz.prog ops Q rest (a.put o.dst (.slice (some ⟨g, 0, none⟩) ys.length cap)) w') :
  wpList Tryz.prog ops Q (o :: rest) a w := by
 obtain ⟨i0, hi, hz0, hz1, hz2⟩ := info_parts (show (Tryz.prog.info? 170).map (fun i => (i.zero, i.size, i.bytes)) = some (some (.int .u64 0), 1, 8) by kernel_rfl)
 obtain ⟨ao, c, rfl, hc1, hcell⟩ := hv
 refine wpList_plain hg fun K hK' => ?_
 rcases Nat.eq_zero_or_pos ys.length with h0 | h0
 ·have hy : ys = [] := List.eq_nil_of_length_eq_zero h0
  subst hy
  have hrun : ∀ ty, (Builtin.append_ #[64, 64] ty #[.slice (some ⟨g, 0, none⟩) 0 cap, .slice ao 0 c]).run Tryz.prog w = .ok (.slice (some ⟨g, 0, none⟩) 0 cap) w := fun ty => by
   cases ao with
   | none => simp [Builtin.append_, run_underlying Tryz.underlying64, sizeOf, typeInfo, hi, Builtin.lenOf, Builtin.firstCells, storeCells]
   | some ad =>
    have := run_append_room_cells (P := Tryz.prog) w 64 ty 170 i0 Tryz.underlying64 hi g 0 0 cap ad 0 c [] (by simp) (by simp) (by simp) (by omega) (by simp) (by simp)
    simpa [World.setCells] using this
  unfold Oper.wp
  simp at hx
  simp [execOp, hop, resolve, invoke, builtin, hs, hx, hrun, Result.andThen]
  exact hK' _ _ (hK _ (by simpa using hB) (Ca.refl _ _))
 ·obtain ⟨b, off, rfl, -⟩ := hcell 0 h0
  have hrun := fun ty => run_append_room_cells (P := Tryz.prog) w 64 ty 170 i0 Tryz.underlying64 hi g 0 0 cap ⟨b, off, none⟩ ys.length c (ys.map fun x => Value.int .u64 (x : Nat)) (by simp [hz1])
   (fun j u hu => by
    have hj : j < ys.length := by simpa using (List.getElem?_eq_some_iff.1 hu).1
    obtain ⟨b', off', e, hcl⟩ := hcell j hj
    cases e
    rw [Addr.add_lit, hcl]
    simp [lm, hj] at hu ⊢
    exact hu)
   (fun u hu => by simp at hu; obtain ⟨y, _, rfl⟩ := hu; rfl) (by omega)
   (fun j hj => by rw [hB.cell (by simp at hj; simp; omega)]; rfl) (fun j hj => hB.o _)
  have hp := Xe ys w g [] q (by simpa using hB) (by omega)
  unfold Oper.wp
  simp [execOp, hop, resolve, invoke, builtin, hs, hx, hrun, Result.andThen]
  simp at hp
  exact hK' _ _ (hK _ hp.1 hp.2)
open Go.RowKit
theorem Ro (B : Nat) (s0 s1 : ByteArray) (w : World) (h : Be w B [I s0, I s1] 22) (z0 : s0.size ≤ 100) (z1 : s1.size ≤ 100) :
  Calls Tryz.prog 162 #[.slice (some ⟨B, 0, none⟩) 2 2] w (Re w (Iz false)) := by
 have i0 : ¬ (100 : Int) < s0.size := by omega
 have i1 : ¬ (100 : Int) < s1.size := by omega
 go_enter Tryz.func162, Tryz.ntmps162
 go_wp2
 go_loopw [7] (fun i wr => Below w.heap.size w wr ∧ (i = .int .i64 0 ∨ i = .int .i64 1 ∨ i = .int .i64 2)) (fun i _ => 2 - (intOf i).toNat)
 case atStart => exact ⟨Jg _ _, Or.inl rfl⟩
 case round =>
  obtain ⟨bb, hi⟩ := hrel
  obtain ⟨c0, c1⟩ := B7 (h.b bb)
  rcases hi with rfl | rfl | rfl
  ·go_wp2
   exact ⟨⟨bb, Or.inr (Or.inl (by go_num))⟩, by simp [intOf]⟩
  ·go_wp2
   exact ⟨⟨bb, Or.inr (Or.inr (by go_num))⟩, by simp [intOf]⟩
  ·go_wp2
   go_ret
   exact ⟨rfl, bb⟩
theorem Oi (a : Option Addr) (n cap : Nat) (N : Nat → Bool) (S D : Nat → ByteArray) (c : Nat → Nat) (w : World) (hn : n ≤ 1000000) (h : RdQ w a n N S D)
  (HZ : Hid (∀ k, k < n → (S k).size ≤ 100 ∧ (D k).size ≤ 100))
  (HC : Hid (∀ (k : Nat) (w1 : World), k < n → Below w.heap.size w w1 → Calls Tryz.prog 163 #[(Bo (N k) (S k) (D k))] w1 (Re w1 (.int .i64 (c k : Nat))))) :
  Calls Tryz.prog 118 #[.slice a n cap] w (Re w (.int .i64 (Br c n : Nat))) := by
 replace h := Ba h
 go_enter Tryz.func118, Tryz.ntmps118
 go_wp2
 go_loopw [8] (fun i wr => Below w.heap.size w wr ∧ ∃ k : Nat, k ≤ n ∧ i = .int .i64 k ∧ Br c k = 0) (fun i _ => n - (intOf i).toNat)
 case atStart => exact ⟨Jg _ _, 0, by omega, rfl, rfl⟩
 case round =>
  obtain ⟨bb, k, hk, rfl, hz⟩ := hrel
  by_cases hkn : k < n
  ·obtain ⟨b, off, rfl, h0, h1, h2⟩ := h.out.b bb k hkn
   go_wp2_with fail
   obtain ⟨w1, hw, kp, kq, b1⟩ := Gx wr (Bx (N k) (S k) (D k)) [I (S k), I (D k)] 26 22
   rw [← hw]
   clear hw
   replace bb := Ia bb b1
   clear b1 h0 h1 h2
   go_fit (Ro _ _ _ _ kq (HZ.out k hkn).1 (HZ.out k hkn).2)
   rintro e w2 ⟨rfl, b1⟩
   replace kp := kp.b b1
   replace bb := Ia bb b1
   clear b1 kq
   obtain ⟨c0, c1, c2⟩ := Ch kp
   go_wp2_with fail
   go_fit (HC.out k _ hkn bb)
   rintro e w3 ⟨rfl, b1⟩
   replace bb := Ia bb b1
   clear b1 c0 c1 c2 kp
   by_cases hc : c k = 0
   ·have hs : Br c (k + 1) = 0 := by unfold Br; rw [if_pos hz, hc]
    replace hs := Ba hs
    replace hz := Ba hz
    rw [hc]
    go_wp2
    exact ⟨⟨bb, k + 1, by omega, by go_num, hs.out⟩, by simp [intOf]; omega⟩
   ·have hs := Dv hz hc n hkn
    replace hs := Ba hs
    replace hz := Ba hz
    go_wp2
    go_ret
    exact ⟨by rw [hs.out]; rfl, bb⟩
  ·obtain rfl : k = n := by omega
   replace hz := Ba hz
   go_wp2
   go_ret
   exact ⟨by rw [hz.out]; rfl, bb⟩
open Go.RowKit Go.Shelf
def Bg7 : Value → Nat
 | .slice _ n _ => n
 | _ => 0
open Go.RowKit
def f5 {α : Type} (x y z u v : α) (j : Nat) : α := if j = 0 then x else if j = 1 then y else if j = 2 then z else if j = 3 then u else v
open Go.RowKit
def NV (w : World) (n : Bool) (v : Value) (z : Int) (L : Nat) : Prop := ∃ k, Rd w v (M.digs Bb k) ∧ k < Bb ^ L ∧ z = C4 n k
theorem NV.b {w w' : World} {n : Bool} {v : Value} {z : Int} {L : Nat} (h : NV w n v z L) (hb : Below w.heap.size w w') : NV w' n v z L := by
 obtain ⟨k, r, h1, h2⟩ := h
 exact ⟨k, r.b hb, h1, h2⟩
theorem NV.mono {w : World} {n : Bool} {v : Value} {z : Int} {L M' : Nat} (h : NV w n v z L) (hL : L ≤ M') : NV w n v z M' := by
 obtain ⟨k, r, h1, h2⟩ := h
 exact ⟨k, r, Jl h1 (Ks hL), h2⟩
theorem Dq {w : World} {v : Value} {xs : List Nat} (h : Rd w v xs) : ∃ a l c, v = .slice a l c := by
 obtain ⟨a, c, rfl, -, -⟩ := h
 exact ⟨_, _, _, rfl⟩
theorem NV.slice {w : World} {n : Bool} {v : Value} {z : Int} {L : Nat} (h : NV w n v z L) : ∃ a l c, v = .slice a l c := by
 obtain ⟨k, r, -⟩ := h
 exact Dq r
theorem Bbh (n : Bool) (a : Option Addr) (l c : Nat) : ∀ (j : Nat) (k : IntKind) (i : Int), [Value.bool n, .slice a l c][j]? ≠ some (.int k i) := by
 intro j k i
 match j with
 | 0 => simp
 | 1 => simp
 | j + 2 => simp
theorem Bbg (n m o : Bool) (a b d : Option Addr) (l c l1 c1 l2 c2 : Nat) : ∀ (j : Nat) (k : IntKind) (i : Int), [Value.bool n, .slice a l c, Iz m, .slice b l1 c1, Iz o, .slice d l2 c2][j]? ≠ some (.int k i) := by
 intro j k i
 match j with
 | 0 => simp
 | 1 => simp
 | 2 => simp
 | 3 => simp
 | 4 => simp
 | 5 => simp
 | j + 6 => simp
theorem NV.set2 {w : World} {n m : Bool} {v : Value} {z : Int} {L g : Nat} {a : Option Addr} {l c : Nat} {t : TypeId} (h : NV w n v z L) (hc : Be w g [Iz m, .slice a l c] t) (x y : Value) :
  NV ((w.setCell ⟨g, 0, none⟩ x).setCell ⟨g, 1, none⟩ y) n v z L := by
 obtain ⟨k, r, h1, h2⟩ := h
 exact ⟨k, (((F8 r hc (Bbh _ _ _ _)).setX 0 x).setX 1 y).rd, h1, h2⟩
theorem NV.set6 {w : World} {n m o p : Bool} {v : Value} {z : Int} {L g : Nat} {a b d : Option Addr} {l c l1 c1 l2 c2 : Nat} {t : TypeId} (h : NV w n v z L) (hc : Be w g [Iz m, .slice a l c, Iz o, .slice b l1 c1, Iz p, .slice d l2 c2] t) (x0 x1 x2 x3 x4 x5 : Value) :
  NV ((((((w.setCell ⟨g, 0, none⟩ x0).setCell ⟨g, 1, none⟩ x1).setCell ⟨g, 2, none⟩ x2).setCell ⟨g, 3, none⟩ x3).setCell ⟨g, 4, none⟩ x4).setCell ⟨g, 5, none⟩ x5) n v z L := by
 obtain ⟨k, r, h1, h2⟩ := h
 exact ⟨k, (((((((F8 r hc (Bbg _ _ _ _ _ _ _ _ _ _ _ _)).setX 0 x0).setX 1 x1).setX 2 x2).setX 3 x3).setX 4 x4).setX 5 x5).rd, h1, h2⟩
theorem Uv {w : World} {g : Nat} {x y : Value} (h : Be w g [x, y] 66) : (loadVar 66 ⟨g, 0, none⟩).run Tryz.prog w = .ok (.agg #[x, y]) w :=
 run_loadVar_row w g 66 66 #[x, y] (0, 0) _ h Tryz.underlying66 rfl (by kernel_rfl)
theorem Fj {fn : Func} {p : Tmp} {R : Ending → World → Prop} {a : Act} {w : World} {g : Nat} {x y : Value} (h : fn.results = #[.cell p 66]) (hp : a.tmps.getD p undef = .pointer (some ⟨g, 0, none⟩)) (hd : a.defers = [])
  (hc : Be w g [x, y] 66) (hR : R (.returned (.agg #[x, y])) w) : bodyPost Tryz.prog fn R .ret a w := by
 refine ⟨hd, .agg #[x, y], ?_, hR⟩
 exact results_cell_row (P := Tryz.prog) h _ w g 66 #[x, y] (0, 0) _ hp hc Tryz.underlying66 rfl (by kernel_rfl)
theorem Bah (n : Bool) (k : Nat) : (C4 n k).sign = if k = 0 then 0 else if n then -1 else 1 := by
 unfold C4
 by_cases h : k = 0
 ·subst h; cases n <;> rfl
 ·rw [if_neg h]
  cases n
  ·exact Int.sign_eq_one_of_pos (by simp; omega)
  ·exact Int.sign_eq_neg_one_of_neg (by simp; omega)
theorem Ko {k : Nat} : (M.digs Bb k).length = 0 ↔ k = 0 := by
 constructor
 ·intro h
  have h1 := M.val_digs Bg k
  rw [List.length_eq_zero_iff.1 h] at h1
  exact h1.symm
 ·intro h; subst h; exact Nat.le_zero.1 (M.digs_len_of_lt Bg (by simp))
theorem Ee (n : Bool) (s : ByteArray) (w : World) (hm : s.size ≤ 8000) (h0 : 0 < s.size → lm (B9 s) 0 ≠ 0) (L : Nat) (hL : Bc s < Bb ^ L) :
  Calls Tryz.prog 66 #[.agg #[Iz n, I s]] w fun e w' => ∃ v, e = .returned (.agg #[Iz n, v]) ∧ NV w' n v (C4 n (Bc s)) L ∧ Below w.heap.size w w' := by
 have H := Ba (fun w1 => Uq s w1 (by omega) h0)
 clear h0 hm
 go_enter Tryz.func66, Tryz.ntmps66
 go_wp2_with fail
 obtain ⟨w0, hw, k0, k1, bb⟩ := Gx w [Iz n, I s] [Iz false, .slice none 0 0] 24 66
 rw [← hw]
 clear hw
 go_fit (H.out _)
 rintro e w1 ⟨v, rfl, r, b1⟩
 obtain ⟨a, l, c, rfl⟩ := Dq r
 replace k0 := k0.b b1
 replace k1 := k1.b b1
 replace bb := Ia bb b1
 clear b1
 have c0 := Dy k0
 obtain ⟨c1, c2⟩ := B7 k1
 have f0 := k1.o 0
 have f1 := k1.o 1
 replace r := Ba r
 go_wp2
 have nv : NV w1 n (.slice a l c) (C4 n (Bc s)) L := ⟨_, r.out, hL, rfl⟩
 exact Fj (p := 2) (by kernel_rfl) rfl rfl ((k1.set 0 _).set 1 _) ⟨_, rfl, nv.set2 k1 _ _, (bb.setCell (by simp) _).setCell (by simp) _⟩
theorem Yh (n : Bool) (v : Value) (z : Int) (L : Nat) (w : World) (h : NV w n v z L) :
  Calls Tryz.prog 200 #[.agg #[Iz n, v]] w (Re w (.int .i64 z.sign)) := by
 obtain ⟨k, r, hk, rfl⟩ := h
 rw [Bah]
 by_cases h0 : k = 0
 ·rw [if_pos h0]
  have hl := Ko.2 h0
  obtain ⟨a, c, rfl, -, -⟩ := r
  rw [hl]
  go_enter Tryz.func200, Tryz.ntmps200
  go_wp2
  go_ret
  exact ⟨rfl, by go_grown⟩
 ·rw [if_neg h0]
  have hl : ¬ ((M.digs Bb k).length : Int) = 0 := fun h => h0 (Ko.1 (by omega))
  obtain ⟨a, c, rfl, -, -⟩ := r
  generalize (M.digs Bb k).length = l at *
  cases n with
  | false =>
   go_enter Tryz.func200, Tryz.ntmps200
   go_wp2
   go_ret
   exact ⟨rfl, by go_grown⟩
  | true =>
   go_enter Tryz.func200, Tryz.ntmps200
   go_wp2
   go_ret
   exact ⟨rfl, by go_grown⟩
theorem Ku {k L : Nat} (h : k < Bb ^ L) (hL : L ≤ 1000) : (M.digs Bb k).length ≤ 4000 := Jf (M.digs_len_of_lt Bg h) (by omega)
theorem Oa (n : Bool) (v : Value) (z : Int) (L : Nat) (w : World) (h : NV w n v z L) :
  Calls Tryz.prog 131 #[.agg #[Iz n, v]] w fun e w' => ∃ b, e = .returned (Iz b) ∧ (b = true → z = 1 ∧ n = false) ∧ Below w.heap.size w w' := by
 obtain ⟨k, r, hk, rfl⟩ := h
 clear hk
 by_cases h1 : (M.digs Bb k).length = 1
 ·obtain ⟨a, c, rfl, -, hc⟩ := r
  obtain ⟨b, off, rfl, h0⟩ := hc 0 (by omega)
  clear hc
  have hv : Hid (lm (M.digs Bb k) 0 = k) := by
   show _ = _
   have h2 := M.val_digs Bg k
   match hd : M.digs Bb k, h1 with
   | [x], _ => rw [hd] at h2; simpa [M.val, lm] using h2
  rw [h1]
  rw [hv.out] at h0
  simp only [Nat.add_zero] at h0
  clear h1
  by_cases hk : k = 1
  ·subst hk
   cases n with
   | true =>
    have h1 := Bh h0 (Ct w (.cells #[Iz true, .slice (some ⟨b, off, none⟩) 1 c] 66))
    go_enter Tryz.func131, Tryz.ntmps131
    go_wp2
    go_ret
    exact ⟨_, rfl, fun h => by simp at h, by go_grown⟩
   | false =>
    have h1 := Bh h0 (Ct w (.cells #[Iz false, .slice (some ⟨b, off, none⟩) 1 c] 66))
    go_enter Tryz.func131, Tryz.ntmps131
    go_wp2
    go_ret
    exact ⟨_, rfl, fun h => by simp [C4], by go_grown⟩
  ·have hk' : ¬ (k : Int) = 1 := by omega
   clear hv
   have h1 := Bh h0 (Ct w (.cells #[Iz n, .slice (some ⟨b, off, none⟩) 1 c] 66))
   go_enter Tryz.func131, Tryz.ntmps131
   go_wp2
   go_ret
   exact ⟨_, rfl, fun h => by simp at h, by go_grown⟩
 ·have hl : ¬ ((M.digs Bb k).length : Int) = 1 := by omega
  obtain ⟨a, c, rfl, -, -⟩ := r
  generalize (M.digs Bb k).length = l at *
  go_enter Tryz.func131, Tryz.ntmps131
  go_wp2
  go_ret
  exact ⟨_, rfl, fun h => by simp at h, by go_grown⟩
theorem Yi (n n' : Bool) (v v' : Value) (k k' L : Nat) (w : World) (h : Rd w v (M.digs Bb k)) (h' : Rd w v' (M.digs Bb k')) (hL : L ≤ 1000) (hk : k < Bb ^ L) (hk' : k' < Bb ^ L) :
  Calls Tryz.prog 166 #[.agg #[Iz n, v], .agg #[Iz n', v']] w (Re w (Iz (decide (k = k')))) := by
 have H : Hid (∀ w1, Below w.heap.size w w1 → Calls Tryz.prog 198 #[v, v'] w1 (Re w1 (.tuple #[.int .i64 (Dj k k'), .int .i64 0]))) := fun w1 b => by
  have := Xa v v' _ _ w1 (h.b b) (h'.b b) (M.Low.digs Bg k) (M.Low.digs Bg k') (Ku hk hL) (Ku hk' hL)
  rwa [M.val_digs Bg, M.val_digs Bg] at this
 obtain ⟨a, l, c, rfl⟩ := Dq h
 obtain ⟨a', l', c', rfl⟩ := Dq h'
 clear h h' hk hk'
 have hc : (k = k' ∧ Dj k k' = 0) ∨ (¬ k = k' ∧ ¬ Dj k k' = 0) := by
  unfold Dj
  by_cases e : k = k'
  ·exact Or.inl ⟨e, by simp [e]⟩
  ·refine Or.inr ⟨e, ?_⟩
   split
   ·decide
   ·rw [if_pos (by omega)]; decide
 generalize Dj k k' = cm at *
 go_enter Tryz.func166, Tryz.ntmps166
 go_wp2_with fail
 obtain ⟨w0, hw, k0, k1, bb⟩ := Gx w [Iz n, .slice a l c] [Iz n', .slice a' l' c'] 66 66
 rw [← hw]
 clear hw
 go_fit (H.out _ bb)
 rintro e w1 ⟨rfl, b1⟩
 replace bb := Ia bb b1
 rcases hc with ⟨e, h0⟩ | ⟨e, h0⟩
 ·subst h0
  go_wp2
  go_ret
  exact ⟨by rw [decide_eq_true e]; rfl, bb⟩
 ·go_wp2
  go_ret
  exact ⟨by rw [decide_eq_false e, ← beq_eq_false_iff_ne.2 h0]; rfl, bb⟩
theorem Bda (n : Bool) (k k' : Nat) : C4 n (k + k') = C4 n k + C4 n k' := by unfold C4; cases n <;> simp <;> omega
theorem Um {k k' L : Nat} (h : k < Bb ^ L) (h' : k' < Bb ^ L) : k + k' < Bb ^ (L + 1) := by
 have h2 : 2 * Bb ^ L ≤ Bb * Bb ^ L := Jo _ Bg
 rw [Nat.pow_succ, Nat.mul_comm]
 omega
theorem Ul {k k' L L' : Nat} (h : k < Bb ^ L) (h' : k' < Bb ^ L') : k * k' < Bb ^ (L + L') := by
 rw [Nat.pow_add]
 exact Nat.mul_lt_mul'' h h'
theorem Ef (n n' : Bool) (v v' : Value) (z z' : Int) (L : Nat) (w : World) (hL : L ≤ 1000) (h : NV w n v z L) (h' : NV w n' v' z' L) :
  Calls Tryz.prog 63 #[.agg #[Iz n, v], .agg #[Iz n', v']] w fun e w' => ∃ m u, e = .returned (.agg #[Iz m, u]) ∧ NV w' m u (z + z') (L + 1) ∧ Below w.heap.size w w' := by
 obtain ⟨k, r, hk, rfl⟩ := h
 obtain ⟨k', r', hk', rfl⟩ := h'
 have l1 := Ku hk hL
 have l2 := Ku hk' hL
 by_cases hn : n = n'
 ·subst hn
  have H : Hid (∀ w1, Below w.heap.size w w1 → Calls Tryz.prog 127 #[v, v'] w1 fun e w' => ∃ v, e = .returned (.tuple #[v, .int .i64 0]) ∧ Rd w' v (M.digs Bb (k + k')) ∧ Below w1.heap.size w1 w') := fun w1 b => by
   have := Xg v v' _ _ w1 (r.b b) (r'.b b) (M.Low.digs Bg k) (M.Low.digs Bg k') l1 l2
   rwa [M.val_digs Bg, M.val_digs Bg] at this
  obtain ⟨a, l, c, rfl⟩ := Dq r
  obtain ⟨a', l', c', rfl⟩ := Dq r'
  have HR : Hid (∀ w u, Rd w u (M.digs Bb (k + k')) → NV w n u (C4 n k + C4 n k') (L + 1)) := fun w u r => ⟨_, r, Um hk hk', (Bda _ _ _).symm⟩
  generalize C4 n k + C4 n k' = z at *
  clear r r' l1 l2 hk hk'
  go_enter Tryz.func63, Tryz.ntmps63
  go_wp2_with fail
  obtain ⟨w0, hw, k0, k1, k2, bb⟩ := K9 w [Iz n, .slice a l c] [Iz n, .slice a' l' c'] [Iz false, .slice none 0 0] 66 66 66
  rw [← hw]
  clear hw
  go_fit (H.out _ bb)
  rintro e w1 ⟨u, rfl, ru, b1⟩
  obtain ⟨a2, l2, c2, rfl⟩ := Dq ru
  replace k0 := k0.b b1
  replace k2 := k2.b b1
  replace bb := Ia bb b1
  clear b1 k1
  have c0 := Dy k0
  obtain ⟨c1, c3⟩ := B7 k2
  have f0 := k2.o 0
  have f1 := k2.o 1
  replace ru := Ba ru
  go_wp2
  exact Fj (p := 4) (by kernel_rfl) rfl rfl ((k2.set 0 _).set 1 _) ⟨_, _, rfl, (HR.out _ _ ru.out).set2 k2 _ _, (bb.setCell (by simp; omega) _).setCell (by simp; omega) _⟩
 ·have hq : (n == n') = false := by simpa using hn
  obtain rfl : n' = !n := by cases n <;> cases n' <;> simp_all
  by_cases hlt : k < k'
  ·have H : Hid (∀ w1, Below w.heap.size w w1 → Calls Tryz.prog 128 #[v, v'] w1 (Re w1 (.tuple #[.slice none 0 0, .int .i64 2]))) := fun w1 b => by
    have := Mz v v' _ _ w1 (r.b b) (r'.b b) (M.Low.digs Bg k) (M.Low.digs Bg k') l1 l2
    rw [M.val_digs Bg, M.val_digs Bg] at this
    exact this.mono fun e w' h => ⟨h.2.1 hlt, h.2.2⟩
   have H2 : Hid (∀ w1, Below w.heap.size w w1 → Calls Tryz.prog 128 #[v', v] w1 fun e w' => ∃ v, e = .returned (.tuple #[v, .int .i64 0]) ∧ Rd w' v (M.digs Bb (k' - k)) ∧ Below w1.heap.size w1 w') := fun w1 b => by
    have := Mz v' v _ _ w1 (r'.b b) (r.b b) (M.Low.digs Bg k') (M.Low.digs Bg k) l2 l1
    rw [M.val_digs Bg, M.val_digs Bg] at this
    exact this.mono fun e w' h => by obtain ⟨v, h1, h2⟩ := h.1 (Nat.le_of_lt hlt); exact ⟨v, h1, h2, h.2.2⟩
   obtain ⟨a, l, c, rfl⟩ := Dq r
   obtain ⟨a', l', c', rfl⟩ := Dq r'
   have HR : Hid (∀ w u, Rd w u (M.digs Bb (k' - k)) → NV w (!n) u (C4 n k + C4 (!n) k') (L + 1)) := fun w u r => ⟨_, r, Jl (show k' - k < Bb ^ L by omega) (Ks (by omega)), by rw [← W7]; unfold Bep; rw [if_pos hlt]⟩
   generalize C4 n k + C4 (!n) k' = z at *
   clear r r' l1 l2 hk hk'
   go_enter Tryz.func63, Tryz.ntmps63
   go_wp2_with fail
   obtain ⟨w0, hw, k0, k1, k2, bb⟩ := K9 w [Iz n, .slice a l c] [Iz (!n), .slice a' l' c'] [Iz false, .slice none 0 0] 66 66 66
   rw [← hw]
   clear hw
   go_fit (H.out _ bb)
   rintro e w1 ⟨rfl, b1⟩
   replace k0 := k0.b b1
   replace k1 := k1.b b1
   replace k2 := k2.b b1
   replace bb := Ia bb b1
   clear b1
   have c0 := H9 k0
   have c1 := H9 k1
   go_wp2_with fail
   go_fit (H2.out _ bb)
   rintro e w2 ⟨u, rfl, ru, b1⟩
   obtain ⟨a2, l2, c2, rfl⟩ := Dq ru
   replace k1 := k1.b b1
   replace k2 := k2.b b1
   replace bb := Ia bb b1
   clear b1 c0 c1 k0
   have c0 := Dy k1
   obtain ⟨c1, c3⟩ := B7 k2
   have f0 := k2.o 0
   have f1 := k2.o 1
   replace ru := Ba ru
   go_wp2
   exact Fj (p := 4) (by kernel_rfl) rfl rfl ((k2.set 0 _).set 1 _) ⟨_, _, rfl, (HR.out _ _ ru.out).set2 k2 _ _, (bb.setCell (by simp; omega) _).setCell (by simp; omega) _⟩
  ·have H : Hid (∀ w1, Below w.heap.size w w1 → Calls Tryz.prog 128 #[v, v'] w1 fun e w' => ∃ v, e = .returned (.tuple #[v, .int .i64 0]) ∧ Rd w' v (M.digs Bb (k - k')) ∧ Below w1.heap.size w1 w') := fun w1 b => by
    have := Mz v v' _ _ w1 (r.b b) (r'.b b) (M.Low.digs Bg k) (M.Low.digs Bg k') l1 l2
    rw [M.val_digs Bg, M.val_digs Bg] at this
    exact this.mono fun e w' h => by obtain ⟨v, h1, h2⟩ := h.1 (Nat.le_of_not_lt hlt); exact ⟨v, h1, h2, h.2.2⟩
   obtain ⟨a, l, c, rfl⟩ := Dq r
   obtain ⟨a', l', c', rfl⟩ := Dq r'
   have HR : Hid (∀ w u, Rd w u (M.digs Bb (k - k')) → NV w n u (C4 n k + C4 (!n) k') (L + 1)) := fun w u r => ⟨_, r, Jl (show k - k' < Bb ^ L by omega) (Ks (by omega)), by rw [← W7]; unfold Bep; rw [if_neg hlt]⟩
   generalize C4 n k + C4 (!n) k' = z at *
   clear r r' l1 l2 hk hk'
   go_enter Tryz.func63, Tryz.ntmps63
   go_wp2_with fail
   obtain ⟨w0, hw, k0, k1, k2, bb⟩ := K9 w [Iz n, .slice a l c] [Iz (!n), .slice a' l' c'] [Iz false, .slice none 0 0] 66 66 66
   rw [← hw]
   clear hw
   go_fit (H.out _ bb)
   rintro e w1 ⟨u, rfl, ru, b1⟩
   obtain ⟨a2, l2, c2, rfl⟩ := Dq ru
   replace k0 := k0.b b1
   replace k2 := k2.b b1
   replace bb := Ia bb b1
   clear b1 k1
   have c0 := Dy k0
   obtain ⟨c1, c3⟩ := B7 k2
   have f0 := k2.o 0
   have f1 := k2.o 1
   replace ru := Ba ru
   go_wp2
   exact Fj (p := 4) (by kernel_rfl) rfl rfl ((k2.set 0 _).set 1 _) ⟨_, _, rfl, (HR.out _ _ ru.out).set2 k2 _ _, (bb.setCell (by simp; omega) _).setCell (by simp; omega) _⟩
theorem Bbd (n : Bool) (k : Nat) : C4 (!n) k = -C4 n k := by unfold C4; cases n <;> simp
theorem Kv (n n' : Bool) (v v' : Value) (z z' : Int) (L : Nat) (w : World) (hL : L ≤ 1000) (h : NV w n v z L) (h' : NV w n' v' z' L) :
  Calls Tryz.prog 167 #[.agg #[Iz n, v], .agg #[Iz n', v']] w fun e w' => ∃ m u, e = .returned (.agg #[Iz m, u]) ∧ NV w' m u (z - z') (L + 1) ∧ Below w.heap.size w w' := by
 have h2 : NV w (!n') v' (-z') L := by
  obtain ⟨k, r, hk, rfl⟩ := h'
  exact ⟨k, r, hk, (Bbd _ _).symm⟩
 have H : Hid (∀ w1, Below w.heap.size w w1 → Calls Tryz.prog 63 #[.agg #[Iz n, v], .agg #[Iz (!n'), v']] w1 fun e w' => ∃ m u, e = .returned (.agg #[Iz m, u]) ∧ NV w' m u (z - z') (L + 1) ∧ Below w1.heap.size w1 w') := fun w1 b => by
  have := Ef n (!n') v v' z (-z') L w1 hL (h.b b) (h2.b b)
  rwa [← Int.sub_eq_add_neg] at this
 obtain ⟨a, l, c, rfl⟩ := h.slice
 obtain ⟨a', l', c', rfl⟩ := h'.slice
 clear h h' h2
 go_enter Tryz.func167, Tryz.ntmps167
 go_wp2_with fail
 obtain ⟨w0, hw, k0, k1, k2, bb⟩ := K9 w [Iz n, .slice a l c] [Iz n', .slice a' l' c'] [Iz false, .slice none 0 0] 66 66 66
 rw [← hw]
 clear hw
 go_fit (H.out _ bb)
 rintro e w1 ⟨m, u, rfl, nv, b1⟩
 obtain ⟨a2, l2, c2, rfl⟩ := nv.slice
 replace k2 := k2.b b1
 replace bb := Ia bb b1
 clear b1 k1 k0
 obtain ⟨c1, c3⟩ := B7 k2
 have f0 := k2.o 0
 have f1 := k2.o 1
 replace nv := Ba nv
 go_wp2
 exact Fj (p := 4) (by kernel_rfl) rfl rfl ((k2.set 0 _).set 1 _) ⟨_, _, rfl, nv.out.set2 k2 _ _, (bb.setCell (by simp; omega) _).setCell (by simp; omega) _⟩
theorem Bbe (n n' : Bool) (k k' : Nat) : C4 (n != n') (k * k') = C4 n k * C4 n' k' := by
 unfold C4
 cases n <;> cases n' <;> simp <;> grind
theorem B5 (n n' : Bool) (v v' : Value) (z z' : Int) (L L' : Nat) (w : World) (hL : L ≤ 1000) (hL' : L' ≤ 1000) (h : NV w n v z L) (h' : NV w n' v' z' L') :
  Calls Tryz.prog 68 #[.agg #[Iz n, v], .agg #[Iz n', v']] w fun e w' => ∃ m u, e = .returned (.agg #[Iz m, u]) ∧ NV w' m u (z * z') (L + L') ∧ (n = false → n' = false → m = false) ∧ Below w.heap.size w w' := by
 have H1 := Ba (fun w1 (b : Below w.heap.size w w1) => Oa n v z L w1 (h.b b))
 have H2 := Ba (fun w1 (b : Below w.heap.size w w1) => Oa n' v' z' L' w1 (h'.b b))
 have H3 : Hid (∀ w1, Below w.heap.size w w1 → Calls Tryz.prog 132 #[v, v'] w1 fun e w' => ∃ u, e = .returned (.tuple #[u, .int .i64 0]) ∧ NV w' (n != n') u (z * z') (L + L') ∧ Below w1.heap.size w1 w') := fun w1 b => by
  obtain ⟨k, r, hk, rfl⟩ := h
  obtain ⟨k', r', hk', rfl⟩ := h'
  have := Wv v v' _ _ w1 (r.b b) (r'.b b) (M.Low.digs Bg k) (M.Low.digs Bg k') (Ku hk hL) (Ku hk' hL')
  rw [M.val_digs Bg, M.val_digs Bg] at this
  exact this.mono fun e w' ⟨u, h1, h2, h3⟩ => ⟨u, h1, ⟨_, h2, Ul hk hk', (Bbe _ _ _ _).symm⟩, h3⟩
 have HA : Hid (z = 1 → ∀ w1, Below w.heap.size w w1 → NV w1 n' v' (z * z') (L + L')) := fun e w1 b => by
  rw [e, Int.one_mul]
  exact (h'.b b).mono (by omega)
 have HB : Hid (z' = 1 → ∀ w1, Below w.heap.size w w1 → NV w1 n v (z * z') (L + L')) := fun e w1 b => by
  rw [e, Int.mul_one]
  exact (h.b b).mono (by omega)
 obtain ⟨a, l, c, rfl⟩ := h.slice
 obtain ⟨a', l', c', rfl⟩ := h'.slice
 clear h h'
 go_enter Tryz.func68, Tryz.ntmps68
 go_wp2_with fail
 obtain ⟨w0, hw, k0, k1, k2, bb⟩ := K9 w [Iz n, .slice a l c] [Iz n', .slice a' l' c'] [Iz false, .slice none 0 0] 66 66 66
 rw [← hw]
 clear hw
 go_fit (H1.out _ bb)
 rintro e w1 ⟨b, rfl, hb, b1⟩
 replace k0 := k0.b b1
 replace k1 := k1.b b1
 replace k2 := k2.b b1
 replace bb := Ia bb b1
 clear b1
 obtain ⟨c0, c1⟩ := B7 k0
 obtain ⟨c2, c3⟩ := B7 k1
 obtain ⟨c4, c5⟩ := B7 k2
 have f0 := k2.o 0
 have f1 := k2.o 1
 cases b with
 | true =>
  have hz := (hb rfl).1
  clear hb
  have nv := Ba ((HA.out hz _ bb).set2 k2 (Iz n') (.slice a' l' c'))
  clear hz
  go_wp2
  exact Fj (p := 4) (by kernel_rfl) rfl rfl ((k2.set 0 _).set 1 _) ⟨_, _, rfl, nv.out, fun _ h => h, (bb.setCell (by simp; omega) _).setCell (by simp; omega) _⟩
 | false =>
 clear hb
 go_wp2_with fail
 go_fit (H2.out _ bb)
 rintro e w2 ⟨b, rfl, hb, b1⟩
 replace k0 := k0.b b1
 replace k1 := k1.b b1
 replace k2 := k2.b b1
 replace bb := Ia bb b1
 clear b1 c0 c1 c2 c3 c4 c5 f0 f1
 obtain ⟨c0, c1⟩ := B7 k0
 obtain ⟨c2, c3⟩ := B7 k1
 obtain ⟨c4, c5⟩ := B7 k2
 have f0 := k2.o 0
 have f1 := k2.o 1
 cases b with
 | true =>
  have hz := (hb rfl).1
  clear hb
  have nv := Ba ((HB.out hz _ bb).set2 k2 (Iz n) (.slice a l c))
  clear hz
  go_wp2
  exact Fj (p := 4) (by kernel_rfl) rfl rfl ((k2.set 0 _).set 1 _) ⟨_, _, rfl, nv.out, fun h _ => h, (bb.setCell (by simp; omega) _).setCell (by simp; omega) _⟩
 | false =>
 clear hb
 go_wp2_with fail
 go_fit (H3.out _ bb)
 rintro e w3 ⟨u, rfl, nv, b1⟩
 obtain ⟨a2, l2, c2', rfl⟩ := nv.slice
 replace k0 := k0.b b1
 replace k1 := k1.b b1
 replace k2 := k2.b b1
 replace bb := Ia bb b1
 clear b1 c0 c1 c2 c3 c4 c5 f0 f1
 have c0 := Dy k0
 have c2 := Dy k1
 obtain ⟨c4, c5⟩ := B7 k2
 have f0 := k2.o 0
 have f1 := k2.o 1
 replace nv := Ba nv
 go_wp2
 exact Fj (p := 4) (by kernel_rfl) rfl rfl ((k2.set 0 _).set 1 _) ⟨_, _, rfl, nv.out.set2 k2 _ _, fun h h' => by rw [h, h']; rfl, (bb.setCell (by simp; omega) _).setCell (by simp; omega) _⟩
end Go.Proofs.YtnplifkgeeicjaaGreatDoor
