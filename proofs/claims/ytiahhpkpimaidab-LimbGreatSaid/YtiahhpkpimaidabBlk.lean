/-
  Rows of limbs in blocks of the call's own; math/bits.Add64 and Sub64 at this dump.
-/
import Derived.Test.YtiahhpkpimaidabBase
import Derived.Shelf.Spec.BitsCarry
namespace Go.Proofs.Ytiahhpkpimaidab
open Go.RowKit

def cellsOf (ys : List Nat) : Array Value := (ys.map fun x => Value.int .u64 (x : Nat)).toArray
/-- Block g is a row of the call's own: the limbs ys, none of them frozen. -/
def Blk (w : World) (g : Nat) (ys : List Nat) : Prop := w.heap[g]? = some (.cells (cellsOf ys) 22 (0, 0))

theorem Blk.lt {w : World} {g : Nat} {ys : List Nat} (h : Blk w g ys) : g < w.heap.size := by
  unfold Blk at h
  by_cases hg : g < w.heap.size
  · exact hg
  · rw [Array.getElem?_eq_none (by omega)] at h; cases h

theorem Blk.cell {w : World} {g : Nat} {ys : List Nat} (h : Blk w g ys) {j : Nat} (hj : j < ys.length) : w.cell? ⟨g, j, none⟩ = some (.int .u64 (lm ys j : Nat)) := by
  unfold Blk at h
  simp [World.cell?, h, cellsOf, lm, hj]

theorem Blk.frozen {w : World} {g : Nat} {ys : List Nat} (h : Blk w g ys) (j : Nat) : w.frozen? ⟨g, j, none⟩ = false := by
  unfold Blk at h
  simp [World.frozen?, h]

theorem Blk.set {w : World} {g : Nat} {ys : List Nat} (h : Blk w g ys) (j x : Nat) : Blk (w.setCell ⟨g, j, none⟩ (.int .u64 (x : Nat))) g (ys.set j x) := by
  unfold Blk at h ⊢
  simp [World.setCell, Array.getElem?_modify, h, cellsOf]

theorem Blk.below {w w' : World} {g : Nat} {ys : List Nat} (h : Blk w g ys) (hb : Below w.heap.size w w') : Blk w' g ys := by
  have := h.lt
  unfold Blk at h ⊢
  rw [hb.block g this]; exact h

theorem Blk.rd {w : World} {g : Nat} {ys : List Nat} (h : Blk w g ys) (off n cap : Nat) (hn : off + n ≤ ys.length) (hc : n ≤ cap) : Rd w (.slice (some ⟨g, off, none⟩) n cap) ((ys.drop off).take n) := by
  have e : ((ys.drop off).take n).length = n := by simp; omega
  refine ⟨_, cap, by rw [e], by omega, fun j hj => ⟨g, off, rfl, ?_⟩⟩
  rw [e] at hj
  rw [h.cell (by omega), lm_take hj]
  simp [lm]

theorem Blk.rd0 {w : World} {g : Nat} {ys : List Nat} (h : Blk w g ys) (cap : Nat) (hc : ys.length ≤ cap) : Rd w (.slice (some ⟨g, 0, none⟩) ys.length cap) ys := by
  simpa using h.rd 0 ys.length cap (by omega) hc

theorem cell_below {w w' : World} {p : Addr} {v : Value} (h : w.cell? p = some v) (hb : Below w.heap.size w w') : w'.cell? p = some v := by
  rw [hb.cell (World.block_lt_of_cell? w _ h)]; exact h

theorem Below.after {w w1 w2 : World} (h : Below w.heap.size w w1) (k : Below w1.heap.size w1 w2) : Below w.heap.size w w2 := h.trans (k.mono h.size)

/-- make([]uint64, l, n). -/
theorem run_mk (l n : Nat) (hl : l ≤ n) (hn : n ≤ 100000000) (w : World) :
    (Instr.makeSlice 24 (.int .i64 l) (.int .i64 n)).run Try.prog w = .ok (.slice (some ⟨w.heap.size, 0, none⟩) l n) (w.alloc (.cells (cellsOf (List.replicate n 0)) 22)) := by
  obtain ⟨i0, hi, hz0, hz1, hz2⟩ := info_parts (show (Try.prog.info? 22).map (fun i => (i.zero, i.size, i.bytes)) = some (some (.int .u64 0), 1, 8) by kernel_rfl)
  have h := run_make (P := Try.prog) w 24 22 i0 (.int .u64 0) Try.underlying24 hi hz0 .i64 .i64 l n (by omega) (by omega) (by rw [hz2]; omega) (by omega)
  rw [h, hz1]
  have e : madeCells (Value.cells (.int .u64 0)) (Int.toNat n * 1) = cellsOf (List.replicate n 0) := by
    apply Array.toList_inj.1
    simp only [Value.cells, toList_madeCells_one]
    simp [cellsOf]
  rw [e]; simp

theorem blk_new (w : World) (ys : List Nat) : Blk (w.alloc (.cells (cellsOf ys) 22)) w.heap.size ys := heap_alloc_new w _

theorem wpList_mk2 {w : World} {ops : Array Oper} {rest : List Oper} {o : Oper} {a : Act} {Q : Exit → Act → World → Prop}
    (hg : o.guard = none) (l c : Operand) (hop : o.op = Op.makeSlice 24 l c) (L C : Int) (m n : Nat) (hl : a.eval l = .int .i64 L) (hc : a.eval c = .int .i64 C) (hL : L = (m : Int)) (hC : C = (n : Int)) (hmn : m ≤ n) (hn : n ≤ 100000000)
    (hK : ∀ w1, Blk w1 w.heap.size (List.replicate n 0) → Below w.heap.size w w1 → wpList Try.prog ops Q rest (a.put o.dst (.slice (some ⟨w.heap.size, 0, none⟩) m n)) w1) :
    wpList Try.prog ops Q (o :: rest) a w := by
  refine wpList_plain hg fun K hK' => ?_
  subst hL hC
  have hrun := run_mk m n hmn hn w
  unfold Oper.wp
  simp [execOp, hop, hl, hc, hrun, Result.andThen]
  exact hK' _ _ (hK _ (blk_new w _) ((Below.refl _ _).alloc (Nat.le_refl _) _))

theorem wpList_mk {w : World} {ops : Array Oper} {rest : List Oper} {o : Oper} {a : Act} {Q : Exit → Act → World → Prop}
    (hg : o.guard = none) (l c : Operand) (hop : o.op = Op.makeSlice 24 l c) (L : Int) (n : Nat) (hl : a.eval l = .int .i64 L) (hc : a.eval c = .int .i64 L) (hL : L = (n : Int)) (hn : n ≤ 100000000)
    (hK : ∀ w1, Blk w1 w.heap.size (List.replicate n 0) → Below w.heap.size w w1 → wpList Try.prog ops Q rest (a.put o.dst (.slice (some ⟨w.heap.size, 0, none⟩) n n)) w1) :
    wpList Try.prog ops Q (o :: rest) a w := wpList_mk2 hg l c hop L L n n hl hc hL hL (Nat.le_refl _) hn hK

def sum64 (x y c : Nat) : Nat := (x + y + c) % 18446744073709551616
def car64 (x y c : Nat) : Nat := (x + y + c) / 18446744073709551616
def dif64 (x y c : Nat) : Nat := (x + 18446744073709551616 - y - c) % 18446744073709551616
def bor64 (x y c : Nat) : Nat := if x < y + c then 1 else 0

theorem add64 (x y c : Nat) (hc : c ≤ 1) (w : World) : (callFunc 16 #[.int .u64 (x : Nat), .int .u64 (y : Nat), .int .u64 (c : Nat)]).run Try.prog w =
    .ok (.value (.tuple #[.int .u64 (sum64 x y c : Nat), .int .u64 (car64 x y c : Nat)])) w := by
  rw [run_callFunc_extern Try.func16 (by kernel_rfl) (by kernel_rfl) (by kernel_rfl) (e := add64Entry) (by kernel_rfl), run_add64 x y c (by omega) (by omega) (by omega) (by omega)]
  simp only [Result.andThen, sum64, car64]
  congr 5 <;> omega
theorem sub64 (x y c : Nat) (hc : c ≤ 1) (w : World) : (callFunc 18 #[.int .u64 (x : Nat), .int .u64 (y : Nat), .int .u64 (c : Nat)]).run Try.prog w =
    .ok (.value (.tuple #[.int .u64 (dif64 x y c : Nat), .int .u64 (bor64 x y c : Nat)])) w := by
  rw [run_callFunc_extern Try.func18 (by kernel_rfl) (by kernel_rfl) (by kernel_rfl) (e := sub64Entry) (by kernel_rfl), run_sub64 x y c hc]
  rfl
end Go.Proofs.Ytiahhpkpimaidab
