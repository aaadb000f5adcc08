/-
  Rows of bytes in blocks of the call's own; package gussetref01: Nat.
-/
import Derived.Test.YtiahhpkpimaidabDigs
import Derived.Test.YtiahhpkpimaidabShort
import Derived.Laws.BytesArg
import Derived.Shelf.Bytes.SlSmallAll
namespace Go.Proofs.Ytiahhpkpimaidab
open Go.RowKit

def bcellsOf (ys : List Nat) : Array Value := (ys.map fun x => Value.int .u8 (x : Nat)).toArray
/-- Block g is a row of the call's own: the limbs ys, none of them frozen. -/
def BBlk (w : World) (g : Nat) (ys : List Nat) : Prop := w.heap[g]? = some (.cells (bcellsOf ys) 5 (0, 0))

theorem BBlk.lt {w : World} {g : Nat} {ys : List Nat} (h : BBlk w g ys) : g < w.heap.size := by
  unfold BBlk at h
  by_cases hg : g < w.heap.size
  · exact hg
  · rw [Array.getElem?_eq_none (by omega)] at h; cases h

theorem BBlk.cell {w : World} {g : Nat} {ys : List Nat} (h : BBlk w g ys) {j : Nat} (hj : j < ys.length) : w.cell? ⟨g, j, none⟩ = some (.int .u8 (lm ys j : Nat)) := by
  unfold BBlk at h
  simp [World.cell?, h, bcellsOf, lm, hj]

theorem BBlk.frozen {w : World} {g : Nat} {ys : List Nat} (h : BBlk w g ys) (j : Nat) : w.frozen? ⟨g, j, none⟩ = false := by
  unfold BBlk at h
  simp [World.frozen?, h]

theorem BBlk.set {w : World} {g : Nat} {ys : List Nat} (h : BBlk w g ys) (j x : Nat) : BBlk (w.setCell ⟨g, j, none⟩ (.int .u8 (x : Nat))) g (ys.set j x) := by
  unfold BBlk at h ⊢
  simp [World.setCell, Array.getElem?_modify, h, bcellsOf]

theorem BBlk.below {w w' : World} {g : Nat} {ys : List Nat} (h : BBlk w g ys) (hb : Below w.heap.size w w') : BBlk w' g ys := by
  have := h.lt
  unfold BBlk at h ⊢
  rw [hb.block g this]; exact h

/-- make([]byte, l, n). -/
theorem run_bmk (l n : Nat) (hl : l ≤ n) (hn : n ≤ 100000000) (w : World) :
    (Instr.makeSlice 51 (.int .i64 l) (.int .i64 n)).run Try.prog w = .ok (.slice (some ⟨w.heap.size, 0, none⟩) l n) (w.alloc (.cells (bcellsOf (List.replicate n 0)) 5)) := by
  obtain ⟨i0, hi, hz0, hz1, hz2⟩ := info_parts (show (Try.prog.info? 5).map (fun i => (i.zero, i.size, i.bytes)) = some (some (.int .u8 0), 1, 1) by kernel_rfl)
  have h := run_make (P := Try.prog) w 51 5 i0 (.int .u8 0) Try.underlying51 hi hz0 .i64 .i64 l n (by omega) (by omega) (by rw [hz2]; omega) (by omega)
  rw [h, hz1]
  have e : madeCells (Value.cells (.int .u8 0)) (Int.toNat n * 1) = bcellsOf (List.replicate n 0) := by
    apply Array.toList_inj.1
    simp only [Value.cells, toList_madeCells_one]
    simp [bcellsOf]
  rw [e]; simp

theorem bblk_new (w : World) (ys : List Nat) : BBlk (w.alloc (.cells (bcellsOf ys) 5)) w.heap.size ys := heap_alloc_new w _

theorem wpList_bmk2 {w : World} {ops : Array Oper} {rest : List Oper} {o : Oper} {a : Act} {Q : Exit → Act → World → Prop}
    (hg : o.guard = none) (l c : Operand) (hop : o.op = Op.makeSlice 51 l c) (L C : Int) (m n : Nat) (hl : a.eval l = .int .i64 L) (hc : a.eval c = .int .i64 C) (hL : L = (m : Int)) (hC : C = (n : Int)) (hmn : m ≤ n) (hn : n ≤ 100000000)
    (hK : ∀ w1, BBlk w1 w.heap.size (List.replicate n 0) → Below w.heap.size w w1 → wpList Try.prog ops Q rest (a.put o.dst (.slice (some ⟨w.heap.size, 0, none⟩) m n)) w1) :
    wpList Try.prog ops Q (o :: rest) a w := by
  refine wpList_plain hg fun K hK' => ?_
  subst hL hC
  have hrun := run_bmk m n hmn hn w
  unfold Oper.wp
  simp [execOp, hop, hl, hc, hrun, Result.andThen]
  exact hK' _ _ (hK _ (bblk_new w _) ((Below.refl _ _).alloc (Nat.le_refl _) _))

theorem wpList_bmk {w : World} {ops : Array Oper} {rest : List Oper} {o : Oper} {a : Act} {Q : Exit → Act → World → Prop}
    (hg : o.guard = none) (l c : Operand) (hop : o.op = Op.makeSlice 51 l c) (L : Int) (n : Nat) (hl : a.eval l = .int .i64 L) (hc : a.eval c = .int .i64 L) (hL : L = (n : Int)) (hn : n ≤ 100000000)
    (hK : ∀ w1, BBlk w1 w.heap.size (List.replicate n 0) → Below w.heap.size w w1 → wpList Try.prog ops Q rest (a.put o.dst (.slice (some ⟨w.heap.size, 0, none⟩) n n)) w1) :
    wpList Try.prog ops Q (o :: rest) a w := wpList_bmk2 hg l c hop L L n n hl hc hL hL (Nat.le_refl _) hn hK


/-- The string of bytes. -/
def strB (bs : List Nat) : ByteArray := ⟨(bs.map UInt8.ofNat).toArray⟩
/-- The Nat of a number. -/
def strOf (n : Nat) : ByteArray := strB (M.digs 256 n).reverse
theorem strB_eq (bs : List Nat) : strOfNums (bs.map fun x : Nat => (x : Int)) = strB bs := by
  simp [strOfNums, strB]
theorem run_str (w : World) (g off n cap : Nat) (bs : List Nat) (h : BBlk w g bs) (hn : off + n = bs.length) :
    (convert 51 32 (.slice (some ⟨g, off, none⟩) n cap)).run Try.prog w = .ok (.string (strB (bs.drop off))) w := by
  rw [← strB_eq]
  refine run_convert_bytes_arg w 51 5 Try.underlying51 Try.underlying5 g off n cap _ (by simp; omega) ?_ 32 Try.underlying32
  intro i hi
  rw [h.cell (by omega)]
  have hd : off + i < bs.length := by omega
  have hl : ((bs.drop off).map fun x : Nat => (x : Int)).getD i 0 = (lm bs (off + i) : Int) := by
    simp [lm, List.getD_eq_getElem?_getD, List.getElem?_drop, hd]
  rw [hl]

/-- Byte i of a number in digits of 32 bits. -/
theorem byte_of {V m t : Nat} (ht : t < 4) : V / 256 ^ (4 * m + t) % 256 = V / D32 ^ m % D32 / 256 ^ t % 256 := by
  have e1 : 256 ^ (4 * m + t) = D32 ^ m * 256 ^ t := by rw [Nat.pow_add, Nat.pow_mul]; rfl
  rw [e1, ← Nat.div_div_eq_div_mul]
  generalize V / D32 ^ m = W
  have e2 : D32 = 256 ^ t * 256 ^ (4 - t) := by rw [← Nat.pow_add, show t + (4 - t) = 4 by omega]; rfl
  have e3 : 256 ^ (4 - t) = 256 * 256 ^ (3 - t) := by rw [show 4 - t = (3 - t) + 1 by omega, Nat.pow_succ, Nat.mul_comm]
  have e4 : W % D32 / 256 ^ t = W / 256 ^ t % 256 ^ (4 - t) := by rw [e2, Nat.mod_mul_right_div_self]
  rw [e4, e3, Nat.mod_mul_right_mod]

def BtAt (V : Nat) (done : List Nat) (k : Nat) : Prop := done.length = k ∧ M.Low 256 done ∧ M.val 256 done.reverse = V % 256 ^ k
theorem BtAt.step {V : Nat} {done : List Nat} {k y : Nat} (h : BtAt V done k) (hy : y = V / 256 ^ k % 256) : BtAt V (y :: done) (k + 1) := by
  obtain ⟨h1, h2, h3⟩ := h
  refine ⟨by simp [h1], M.Low.cons (by rw [hy]; exact Nat.mod_lt _ (by omega)) h2, ?_⟩
  rw [List.reverse_cons, M.val_snoc, List.length_reverse, h1, h3, hy, Nat.mod_pow_succ]

theorem drop_digs {bs : List Nat} {V k : Nat} (hl : M.Low 256 bs) (hv : M.val 256 bs.reverse = V) (hk : k ≤ bs.length) (hz : ∀ j, j < k → lm bs j = 0) (ht : k < bs.length → lm bs k ≠ 0) : bs.drop k = (M.digs 256 V).reverse := by
  have e : bs.reverse.take (bs.length - k) = M.digs 256 V := by
    rw [← hv]
    refine M.take_eq_digs (by omega) (Low_reverse hl) (by simp) ?_ ?_
    · intro j hj
      by_cases hjl : j < bs.length
      · rw [List.getD_eq_getElem?_getD, List.getElem?_reverse hjl]
        have := hz (bs.length - 1 - j) (by omega)
        unfold lm at this
        rwa [List.getD_eq_getElem?_getD] at this
      · rw [List.getD_eq_getElem?_getD, List.getElem?_eq_none (by simp; omega)]; rfl
    · intro j hj
      have := ht (by omega)
      rw [List.getD_eq_getElem?_getD, List.getElem?_reverse (by omega), show bs.length - 1 - j = k by omega]
      unfold lm at this
      rwa [List.getD_eq_getElem?_getD] at this
  rw [← e, List.take_reverse, List.reverse_reverse]
  congr 1
  omega

end Go.Proofs.Ytiahhpkpimaidab
