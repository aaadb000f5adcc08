/-
  Rows of limbs in blocks of the call's own; math/bits.Add64 and Sub64 at this dump.
  limb.Add.
  limb.Sub.
  Blocks of whatever cells.
  Words: the cells of a block.
-/
import Derived.Shelf.Spec.BitsCarry
import Derived.Test.YtnplifkgeeicjaaGreatDoorU02
namespace Go.Proofs.YtnplifkgeeicjaaGreatDoor
open Go.RowKit
def cellsOf (ys : List Nat) : Array Value := (ys.map fun x => Value.int .u64 (x : Nat)).toArray
def Blk (w : World) (g : Nat) (ys : List Nat) : Prop := w.heap[g]? = some (.cells (cellsOf ys) 170 (0, 0))
theorem Blk.lt {w : World} {g : Nat} {ys : List Nat} (h : Blk w g ys) : g < w.heap.size := by
 unfold Blk at h
 by_cases hg : g < w.heap.size
 ·exact hg
 ·rw [Array.getElem?_eq_none (by omega)] at h; cases h
theorem Blk.cell {w : World} {g : Nat} {ys : List Nat} (h : Blk w g ys) {j : Nat} (hj : j < ys.length) : w.cell? ⟨g, j, none⟩ = some (.int .u64 (lm ys j : Nat)) := by
 unfold Blk at h
 simp [World.cell?, h, cellsOf, lm, hj]
theorem Blk.frozen {w : World} {g : Nat} {ys : List Nat} (h : Blk w g ys) (j : Nat) : w.frozen? ⟨g, j, none⟩ = false := by
 unfold Blk at h
 simp [World.frozen?, h]
theorem Blk.set {w : World} {g : Nat} {ys : List Nat} (h : Blk w g ys) (j x : Nat) : Blk (w.setCell ⟨g, j, none⟩ (.int .u64 (x : Nat))) g (ys.set j x) := by
 unfold Blk at h ⊢
 simp [World.setCell, Array.getElem?_modify, h, cellsOf]
theorem Blk.below {w w' : World} {g : Nat} {ys : List Nat} (h : Blk w g ys) (hb : Below w.heap.size w w') : Blk w' g ys := by
 have := h.lt
 unfold Blk at h ⊢
 rw [hb.block g this]; exact h
theorem Blk.rd {w : World} {g : Nat} {ys : List Nat} (h : Blk w g ys) (off n cap : Nat) (hn : off + n ≤ ys.length) (hc : n ≤ cap) : Rd w (.slice (some ⟨g, off, none⟩) n cap) ((ys.drop off).take n) := by
 have e : ((ys.drop off).take n).length = n := by simp; omega
 refine ⟨_, cap, by rw [e], by omega, fun j hj => ⟨g, off, rfl, ?_⟩⟩
 rw [e] at hj
 rw [h.cell (by omega), lm_take hj]
 simp [lm]
theorem Blk.rd0 {w : World} {g : Nat} {ys : List Nat} (h : Blk w g ys) (cap : Nat) (hc : ys.length ≤ cap) : Rd w (.slice (some ⟨g, 0, none⟩) ys.length cap) ys := by
 simpa using h.rd 0 ys.length cap (by omega) hc
theorem cell_below {w w' : World} {p : Addr} {v : Value} (h : w.cell? p = some v) (hb : Below w.heap.size w w') : w'.cell? p = some v := by
 rw [hb.cell (World.block_lt_of_cell? w _ h)]; exact h
theorem Below.after {w w1 w2 : World} (h : Below w.heap.size w w1) (k : Below w1.heap.size w1 w2) : Below w.heap.size w w2 := h.trans (k.mono h.size)
theorem run_mk (l n : Nat) (hl : l ≤ n) (hn : n ≤ 100000000) (w : World) :
  (Instr.makeSlice 64 (.int .i64 l) (.int .i64 n)).run Tryz.prog w = .ok (.slice (some ⟨w.heap.size, 0, none⟩) l n) (w.alloc (.cells (cellsOf (List.replicate n 0)) 170)) := by
 obtain ⟨i0, hi, hz0, hz1, hz2⟩ := info_parts (show (Tryz.prog.info? 170).map (fun i => (i.zero, i.size, i.bytes)) = some (some (.int .u64 0), 1, 8) by kernel_rfl)
 have h := run_make (P := Tryz.prog) w 64 170 i0 (.int .u64 0) Tryz.underlying64 hi hz0 .i64 .i64 l n (by omega) (by omega) (by rw [hz2]; omega) (by omega)
 rw [h, hz1]
 have e : madeCells (Value.cells (.int .u64 0)) (Int.toNat n * 1) = cellsOf (List.replicate n 0) := by
  apply Array.toList_inj.1
  simp only [Value.cells, toList_madeCells_one]
  simp [cellsOf]
 rw [e]; simp
theorem blk_new (w : World) (ys : List Nat) : Blk (w.alloc (.cells (cellsOf ys) 170)) w.heap.size ys := heap_alloc_new w _
theorem wpList_mk2 {w : World} {ops : Array Oper} {rest : List Oper} {o : Oper} {a : Act} {Q : Exit → Act → World → Prop}
  (hg : o.guard = none) (l c : Operand) (hop : o.op = Op.makeSlice 64 l c) (L C : Int) (m n : Nat) (hl : a.eval l = .int .i64 L) (hc : a.eval c = .int .i64 C) (hL : L = (m : Int)) (hC : C = (n : Int)) (hmn : m ≤ n) (hn : n ≤ 100000000)
  (hK : ∀ w1, Blk w1 w.heap.size (List.replicate n 0) → Below w.heap.size w w1 → wpList Tryz.prog ops Q rest (a.put o.dst (.slice (some ⟨w.heap.size, 0, none⟩) m n)) w1) :
  wpList Tryz.prog ops Q (o :: rest) a w := by
 refine wpList_plain hg fun K hK' => ?_
 subst hL hC
 have hrun := run_mk m n hmn hn w
 unfold Oper.wp
 simp [execOp, hop, hl, hc, hrun, Result.andThen]
 exact hK' _ _ (hK _ (blk_new w _) ((Below.refl _ _).alloc (Nat.le_refl _) _))
theorem wpList_mk {w : World} {ops : Array Oper} {rest : List Oper} {o : Oper} {a : Act} {Q : Exit → Act → World → Prop}
  (hg : o.guard = none) (l c : Operand) (hop : o.op = Op.makeSlice 64 l c) (L : Int) (n : Nat) (hl : a.eval l = .int .i64 L) (hc : a.eval c = .int .i64 L) (hL : L = (n : Int)) (hn : n ≤ 100000000)
  (hK : ∀ w1, Blk w1 w.heap.size (List.replicate n 0) → Below w.heap.size w w1 → wpList Tryz.prog ops Q rest (a.put o.dst (.slice (some ⟨w.heap.size, 0, none⟩) n n)) w1) :
  wpList Tryz.prog ops Q (o :: rest) a w := wpList_mk2 hg l c hop L L n n hl hc hL hL (Nat.le_refl _) hn hK
def sum64 (x y c : Nat) : Nat := (x + y + c) % 18446744073709551616
def car64 (x y c : Nat) : Nat := (x + y + c) / 18446744073709551616
def dif64 (x y c : Nat) : Nat := (x + 18446744073709551616 - y - c) % 18446744073709551616
def bor64 (x y c : Nat) : Nat := if x < y + c then 1 else 0
theorem add64 (x y c : Nat) (hc : c ≤ 1) (w : World) : (callFunc 176 #[.int .u64 (x : Nat), .int .u64 (y : Nat), .int .u64 (c : Nat)]).run Tryz.prog w =
  .ok (.value (.tuple #[.int .u64 (sum64 x y c : Nat), .int .u64 (car64 x y c : Nat)])) w := by
 rw [run_callFunc_extern Tryz.func176 (by kernel_rfl) (by kernel_rfl) (by kernel_rfl) (e := add64Entry) (by kernel_rfl), run_add64 x y c (by omega) (by omega) (by omega) (by omega)]
 simp only [Result.andThen, sum64, car64]
 congr 5 <;> omega
theorem sub64 (x y c : Nat) (hc : c ≤ 1) (w : World) : (callFunc 178 #[.int .u64 (x : Nat), .int .u64 (y : Nat), .int .u64 (c : Nat)]).run Tryz.prog w =
  .ok (.value (.tuple #[.int .u64 (dif64 x y c : Nat), .int .u64 (bor64 x y c : Nat)])) w := by
 rw [run_callFunc_extern Tryz.func178 (by kernel_rfl) (by kernel_rfl) (by kernel_rfl) (e := sub64Entry) (by kernel_rfl), run_sub64 x y c hc]
 rfl
theorem add_step {X Y V p x y c : Nat} (h : V + p * c = X + Y) : (V + p * sum64 x y c) + p * B64 * car64 x y c = (X + p * x) + (Y + p * y) := by
 have e : sum64 x y c + B64 * car64 x y c = x + y + c := Nat.mod_add_div _ _
 have : p * (sum64 x y c + B64 * car64 x y c) = p * (x + y + c) := by rw [e]
 simp only [Nat.mul_add, ← Nat.mul_assoc] at this
 omega
theorem car64_le {x y c : Nat} (hx : x < B64) (hy : y < B64) (hc : c ≤ 1) : car64 x y c ≤ 1 := by
 unfold car64; unfold B64 at hx hy; omega
theorem sum64_lt (x y c : Nat) : sum64 x y c < B64 := Nat.mod_lt _ (by omega)
def AddAt (xs ys zs : List Nat) (k c : Nat) : Prop := zs.length = k ∧ M.Low B64 zs ∧ c ≤ 1 ∧ M.val B64 zs + B64 ^ k * c = M.val B64 (xs.take k) + M.val B64 (ys.take k)
theorem AddAt.step {xs ys zs : List Nat} {k c : Nat} (la : M.Low B64 xs) (lb : M.Low B64 ys) (h : AddAt xs ys zs k c) : AddAt xs ys (zs ++ [sum64 (lm xs k) (lm ys k) c]) (k + 1) (car64 (lm xs k) (lm ys k) c) := by
 obtain ⟨h1, h2, h3, h4⟩ := h
 refine ⟨by simp [h1], h2.snoc (sum64_lt _ _ _), car64_le (lm_lt B64_pos la k) (lm_lt B64_pos lb k) h3, ?_⟩
 rw [M.val_snoc, h1, M.val_take_succ, M.val_take_succ, Nat.pow_succ]
 exact add_step h4
theorem AddAt.fin {xs ys zs : List Nat} {n c : Nat} (la : M.Low B64 xs) (lb : M.Low B64 ys) (hx : xs.length < n) (hy : ys.length < n) (h : AddAt xs ys zs n c) : M.val B64 zs = M.val B64 xs + M.val B64 ys := by
 obtain ⟨h1, h2, h3, h4⟩ := h
 rw [M.val_take_all _ _ _ (by omega), M.val_take_all _ _ _ (by omega)] at h4
 exact M.carry_zero B64_two la lb hx hy h3 h4
set_option maxHeartbeats 1000000 in
theorem add_any (va vb : Value) (xs ys : List Nat) (w : World) (ha : Rd w va xs) (hb : Rd w vb ys) (la : M.Low B64 xs) (lb : M.Low B64 ys) (hx : xs.length ≤ 4000) (hy : ys.length ≤ 4000) :
  Calls Tryz.prog 127 #[va, vb] w fun e w' => ∃ v, e = .returned (.tuple #[v, .int .i64 0]) ∧ Rd w' v (M.digs B64 (M.val B64 xs + M.val B64 ys)) ∧ Below w.heap.size w w' := by
 have ha0 := ha
 have hb0 := hb
 obtain ⟨a, ca, rfl, hca, -⟩ := ha
 obtain ⟨b, cb, rfl, hcb, -⟩ := hb
 obtain ⟨n, hn⟩ : ∃ n, n = max xs.length ys.length := ⟨_, rfl⟩
 have hxn : xs.length ≤ n := by omega
 have hyn : ys.length ≤ n := by omega
 have hn4 : n ≤ 4000 := by omega
 have HN : Hid (n = max xs.length ys.length) := hn
 clear hn
 go_enter Tryz.func127, Tryz.ntmps127
 go_wp2_with fail
 refine (tooLong2 a b xs.length ys.length ca cb _ 0 2 _ (by simp [go_sem]) (by simp [go_sem]) hx hy).mono ?_
 rintro e w1 ⟨rfl, rfl⟩
 go_wp2_with fail
 refine (reader_any _ _ _ _).mono ?_
 rintro e w1 ⟨rfl, rfl⟩
 go_wp2_with fail
 refine (reader_any _ _ _ _).mono ?_
 rintro e w1 ⟨rfl, rfl⟩
 obtain ⟨w0, hw0⟩ : ∃ w0, w0 = ((w.alloc (.cells #[.slice a xs.length ca, .slice b ys.length cb] 64)).alloc (.cells #[.slice a xs.length ca] 64)).alloc (.cells #[.slice b ys.length cb] 64) := ⟨_, rfl⟩
 have hb0' : Below w.heap.size w w0 := by subst hw0; go_grown
 have pA : w0.cell? ⟨w.heap.size + 1, 0, none⟩ = some (.slice a xs.length ca) := by subst hw0; simp [go_sem]
 have pB : w0.cell? ⟨w.heap.size + 1 + 1, 0, none⟩ = some (.slice b ys.length cb) := by subst hw0; simp [go_sem]
 have rA := ha0.below hb0'
 have rB := hb0.below hb0'
 rw [← hw0]
 clear hw0
 go_wp2_with (at_make; refine wpList_mk rfl _ _ rfl _ (n + 1) rfl rfl (by have := HN.out; omega) (by omega) ?_; intro w2 hblk hbel)
 all_goals
  clear h
  go_loopw [9, 28] (fun c i wr => ∃ (k cc : Nat) (zs : List Nat), k ≤ n + 1 ∧ i = .int .i64 k ∧ c = .int .u64 cc ∧ AddAt xs ys zs k cc ∧ Blk wr w0.heap.size (zs ++ List.replicate (n + 1 - k) 0) ∧ Below w0.heap.size w0 wr) (fun _ i _ => n + 1 - (intOf i).toNat)
  case atStart => exact ⟨0, 0, [], by omega, rfl, rfl, ⟨rfl, M.Low.nil _, by omega, by simp [M.val]⟩, by simpa using hblk, hbel⟩
  case round =>
   obtain ⟨k, cc, zs, hk, rfl, rfl, hat, hblk', hbel'⟩ := hrel
   have hcc : cc ≤ 1 := hat.2.2.1
   have hzl : zs.length = k := hat.1
   by_cases hlt : k < n + 1
   ·have qA := cell_below pA hbel'
    have qB := cell_below pB hbel'
    have sA := rA.below hbel'
    have sB := rB.below hbel'
    have hc1 := hblk'.cell (j := k) (by simp; omega)
    have hf1 := hblk'.frozen k
    have hst := hat.step la lb
    clear hblk hbel pA pB rA rB ha0 hb0
    go_wp2_with fail
    refine (reader1 k (by omega) wr _ xs _ qA sA).mono ?_
    rintro e w' ⟨rfl, rfl⟩
    go_wp2_with fail
    refine (reader1 k (by omega) _ _ ys _ qB sB).mono ?_
    rintro e w' ⟨rfl, rfl⟩
    go_wp2_with (simp only [Int.toNat_natCast, add64 (lm xs k) (lm ys k) cc hcc])
    go_roundw
    case rel =>
     refine ⟨k + 1, _, _, by omega, by go_num, rfl, hst, ?_, hbel'.setCell (Nat.le_refl _) _⟩
     have hs := hblk'.set k (sum64 (lm xs k) (lm ys k) cc)
     rw [show n + 1 - k = (n + 1 - (k + 1)) + 1 by omega] at hs
     have e := M.set_append_replicate zs (n + 1 - (k + 1)) (sum64 (lm xs k) (lm ys k) cc)
     rw [hzl] at e
     rw [e] at hs
     exact hs
    case measure => simp [intOf]; omega
   ·have hke : k = n + 1 := by omega
    subst hke
    have hfin := hat.fin la lb (by omega) (by omega)
    have hrd : Rd wr (.slice (some ⟨w0.heap.size, 0, none⟩) (n + 1) (n + 1)) zs := by
     have := hblk'.rd0 (n + 1) (by simp; omega)
     simpa [hzl] using this
    have HF : Hid (M.val B64 zs = M.val B64 xs + M.val B64 ys) := hfin
    clear hfin
    go_wp2_with fail
    refine (trimmed_any _ _ zs hrd hat.2.1 (by omega)).mono ?_
    rintro e w' ⟨v', rfl, hv', rfl⟩
    go_wp2
    go_ret2
    exact ⟨_, rfl, by rw [← HF.out]; exact hv', Below.after hb0' hbel'⟩
theorem dif64_eq {x y c : Nat} (hx : x < B64) (hy : y < B64) (hc : c ≤ 1) : dif64 x y c + y + c = x + B64 * bor64 x y c := by
 unfold dif64 bor64; unfold B64 at *
 split <;> omega
theorem bor64_le (x y c : Nat) : bor64 x y c ≤ 1 := by unfold bor64; split <;> omega
theorem dif64_lt (x y c : Nat) : dif64 x y c < B64 := Nat.mod_lt _ (by omega)
theorem sub_step {X Y V p x y c d b : Nat} (e : d + y + c = x + B64 * b) (h : V + Y = X + p * c) : (V + p * d) + (Y + p * y) = (X + p * x) + p * B64 * b := by
 have : p * (d + y + c) = p * (x + B64 * b) := by rw [e]
 simp only [Nat.mul_add, ← Nat.mul_assoc] at this
 omega
def SubAt (xs ys zs : List Nat) (k c : Nat) : Prop := zs.length = k ∧ M.Low B64 zs ∧ c ≤ 1 ∧ M.val B64 zs + M.val B64 (ys.take k) = M.val B64 (xs.take k) + B64 ^ k * c
theorem SubAt.step {xs ys zs : List Nat} {k c : Nat} (la : M.Low B64 xs) (lb : M.Low B64 ys) (h : SubAt xs ys zs k c) : SubAt xs ys (zs ++ [dif64 (lm xs k) (lm ys k) c]) (k + 1) (bor64 (lm xs k) (lm ys k) c) := by
 obtain ⟨h1, h2, h3, h4⟩ := h
 refine ⟨by simp [h1], h2.snoc (dif64_lt _ _ _), bor64_le _ _ _, ?_⟩
 rw [M.val_snoc, h1, M.val_take_succ, M.val_take_succ, Nat.pow_succ]
 exact sub_step (dif64_eq (lm_lt B64_pos la k) (lm_lt B64_pos lb k) h3) h4
theorem SubAt.fin {xs ys zs : List Nat} {n c : Nat} (hx : xs.length ≤ n) (hy : ys.length ≤ n) (h : SubAt xs ys zs n c) :
  (c = 0 → M.val B64 ys ≤ M.val B64 xs ∧ M.val B64 zs = M.val B64 xs - M.val B64 ys) ∧ (c ≠ 0 → M.val B64 xs < M.val B64 ys) := by
 obtain ⟨h1, h2, h3, h4⟩ := h
 rw [M.val_take_all _ _ _ hx, M.val_take_all _ _ _ hy] at h4
 have e3 := M.val_lt B64_pos h2
 rw [h1] at e3
 generalize B64 ^ n = p at *
 refine ⟨fun e => ?_, fun e => ?_⟩
 ·subst e; omega
 ·have : c = 1 := by omega
  subst this; omega
set_option maxHeartbeats 1000000 in
theorem sub_any (va vb : Value) (xs ys : List Nat) (w : World) (ha : Rd w va xs) (hb : Rd w vb ys) (la : M.Low B64 xs) (lb : M.Low B64 ys) (hx : xs.length ≤ 4000) (hy : ys.length ≤ 4000) :
  Calls Tryz.prog 128 #[va, vb] w fun e w' => (M.val B64 ys ≤ M.val B64 xs → ∃ v, e = .returned (.tuple #[v, .int .i64 0]) ∧ Rd w' v (M.digs B64 (M.val B64 xs - M.val B64 ys))) ∧ (M.val B64 xs < M.val B64 ys → e = .returned (.tuple #[.slice none 0 0, .int .i64 2])) ∧ Below w.heap.size w w' := by
 have ha0 := ha
 have hb0 := hb
 obtain ⟨a, ca, rfl, hca, -⟩ := ha
 obtain ⟨b, cb, rfl, hcb, -⟩ := hb
 obtain ⟨n, hn⟩ : ∃ n, n = max xs.length ys.length := ⟨_, rfl⟩
 have hxn : xs.length ≤ n := by omega
 have hyn : ys.length ≤ n := by omega
 have hn4 : n ≤ 4000 := by omega
 have HN : Hid (n = max xs.length ys.length) := hn
 clear hn
 go_enter Tryz.func128, Tryz.ntmps128
 go_wp2_with fail
 refine (tooLong2 a b xs.length ys.length ca cb _ 0 2 _ (by simp [go_sem]) (by simp [go_sem]) hx hy).mono ?_
 rintro e w1 ⟨rfl, rfl⟩
 go_wp2_with fail
 refine (reader_any _ _ _ _).mono ?_
 rintro e w1 ⟨rfl, rfl⟩
 go_wp2_with fail
 refine (reader_any _ _ _ _).mono ?_
 rintro e w1 ⟨rfl, rfl⟩
 obtain ⟨w0, hw0⟩ : ∃ w0, w0 = ((w.alloc (.cells #[.slice a xs.length ca, .slice b ys.length cb] 64)).alloc (.cells #[.slice a xs.length ca] 64)).alloc (.cells #[.slice b ys.length cb] 64) := ⟨_, rfl⟩
 have hb0' : Below w.heap.size w w0 := by subst hw0; go_grown
 have pA : w0.cell? ⟨w.heap.size + 1, 0, none⟩ = some (.slice a xs.length ca) := by subst hw0; simp [go_sem]
 have pB : w0.cell? ⟨w.heap.size + 1 + 1, 0, none⟩ = some (.slice b ys.length cb) := by subst hw0; simp [go_sem]
 have rA := ha0.below hb0'
 have rB := hb0.below hb0'
 rw [← hw0]
 clear hw0
 go_wp2_with (at_make; refine wpList_mk rfl _ _ rfl _ n rfl rfl (by have := HN.out; omega) (by omega) ?_; intro w2 hblk hbel)
 all_goals
  clear h
  go_loopw [9, 27] (fun c i wr => ∃ (k cc : Nat) (zs : List Nat), k ≤ n ∧ i = .int .i64 k ∧ c = .int .u64 cc ∧ SubAt xs ys zs k cc ∧ Blk wr w0.heap.size (zs ++ List.replicate (n - k) 0) ∧ Below w0.heap.size w0 wr) (fun _ i _ => n - (intOf i).toNat)
  case atStart => exact ⟨0, 0, [], by omega, rfl, rfl, ⟨rfl, M.Low.nil _, by omega, by simp [M.val]⟩, by simpa using hblk, hbel⟩
  case round =>
   obtain ⟨k, cc, zs, hk, rfl, rfl, hat, hblk', hbel'⟩ := hrel
   have hcc : cc ≤ 1 := hat.2.2.1
   have hzl : zs.length = k := hat.1
   by_cases hlt : k < n
   ·have qA := cell_below pA hbel'
    have qB := cell_below pB hbel'
    have sA := rA.below hbel'
    have sB := rB.below hbel'
    have hc1 := hblk'.cell (j := k) (by simp; omega)
    have hf1 := hblk'.frozen k
    have hst := hat.step la lb
    clear hblk hbel pA pB rA rB ha0 hb0
    go_wp2_with fail
    refine (reader1 k (by omega) wr _ xs _ qA sA).mono ?_
    rintro e w' ⟨rfl, rfl⟩
    go_wp2_with fail
    refine (reader1 k (by omega) _ _ ys _ qB sB).mono ?_
    rintro e w' ⟨rfl, rfl⟩
    go_wp2_with (simp only [Int.toNat_natCast, sub64 (lm xs k) (lm ys k) cc hcc])
    go_roundw
    case rel =>
     refine ⟨k + 1, _, _, by omega, by go_num, rfl, hst, ?_, hbel'.setCell (Nat.le_refl _) _⟩
     have hs := hblk'.set k (dif64 (lm xs k) (lm ys k) cc)
     rw [show n - k = (n - (k + 1)) + 1 by omega] at hs
     have e := M.set_append_replicate zs (n - (k + 1)) (dif64 (lm xs k) (lm ys k) cc)
     rw [hzl] at e
     rw [e] at hs
     exact hs
    case measure => simp [intOf]; omega
   ·have hke : k = n := by omega
    subst hke
    obtain ⟨f0, f1⟩ := hat.fin hxn hyn
    have hrd : Rd wr (.slice (some ⟨w0.heap.size, 0, none⟩) k k) zs := by
     have := hblk'.rd0 k (by simp; omega)
     simpa [hzl] using this
    have F0 : Hid (cc = 0 → M.val B64 ys ≤ M.val B64 xs ∧ M.val B64 zs = M.val B64 xs - M.val B64 ys) := f0
    have F1 : Hid (cc ≠ 0 → M.val B64 xs < M.val B64 ys) := f1
    clear f0 f1
    by_cases hc0 : cc = 0
    ·subst hc0
     go_wp2_with fail
     refine (trimmed_any _ _ zs hrd hat.2.1 (by omega)).mono ?_
     rintro e w' ⟨v', rfl, hv', rfl⟩
     go_wp2
     go_ret2
     obtain ⟨g1, g2⟩ := F0.out (by trivial)
     exact ⟨fun _ => ⟨_, rfl, by rw [← g2]; exact hv'⟩, fun h => by omega, Below.after hb0' hbel'⟩
    ·go_wp2
     go_ret2
     have g1 := F1.out hc0
     exact ⟨fun h => by omega, fun _ => rfl, Below.after hb0' hbel'⟩
def Cel (w : World) (g : Nat) (cs : List Value) (t : TypeId) : Prop := w.heap[g]? = some (.cells cs.toArray t (0, 0))
theorem Cel.lt {w : World} {g : Nat} {cs : List Value} {t : TypeId} (h : Cel w g cs t) : g < w.heap.size := by
 unfold Cel at h
 by_cases hg : g < w.heap.size
 ·exact hg
 ·rw [Array.getElem?_eq_none (by omega)] at h; cases h
theorem Cel.cell {w : World} {g : Nat} {cs : List Value} {t : TypeId} (h : Cel w g cs t) (j : Nat) : w.cell? ⟨g, j, none⟩ = cs[j]? := by
 unfold Cel at h
 simp [World.cell?, h]
theorem Cel.frozen {w : World} {g : Nat} {cs : List Value} {t : TypeId} (h : Cel w g cs t) (j : Nat) : w.frozen? ⟨g, j, none⟩ = false := by
 unfold Cel at h
 simp [World.frozen?, h]
theorem Cel.below {w w' : World} {g : Nat} {cs : List Value} {t : TypeId} (h : Cel w g cs t) (hb : Below w.heap.size w w') : Cel w' g cs t := by
 have := h.lt
 unfold Cel at h ⊢
 rw [hb.block g this]; exact h
theorem Cel.new (w : World) (cs : List Value) (t : TypeId) : Cel (w.alloc (.cells cs.toArray t)) w.heap.size cs t := heap_alloc_new w _
theorem Cel.alloc {w : World} {g : Nat} {cs : List Value} {t : TypeId} (h : Cel w g cs t) (o : Obj) : Cel (w.alloc o) g cs t := h.below ((Below.refl _ _).alloc (Nat.le_refl _) o)
theorem Cel.set {w : World} {g : Nat} {cs : List Value} {t : TypeId} (h : Cel w g cs t) (j : Nat) (v : Value) : Cel (w.setCell ⟨g, j, none⟩ v) g (cs.set j v) t := by
 unfold Cel at h ⊢
 simp [World.setCell, Array.getElem?_modify, h]
theorem Cel.other {w : World} {g g' : Nat} {cs : List Value} {t : TypeId} (h : Cel w g cs t) (hne : g ≠ g') (j : Nat) (v : Value) : Cel (w.setCell ⟨g', j, none⟩ v) g cs t := by
 unfold Cel at h ⊢
 rw [Below.heap_setCell _ _ _ _ (by exact hne)]; exact h
theorem Cel.drew {w : World} {g : Nat} {cs : List Value} {t : TypeId} (h : Cel w g cs t) : Cel w.drew g cs t := h
end Go.Proofs.YtnplifkgeeicjaaGreatDoor
namespace Go.Proofs.YtnplifkgeeicjaaGreatDoor
abbrev xc2 (w : World) (g : Nat) (x0 x1 : Value) : Prop := w.cell? ⟨g, 0, none⟩ = some x0 ∧ w.cell? ⟨g, 1, none⟩ = some x1
theorem xk2 {w : World} {g : Nat} {t : TypeId} {x0 x1 : Value} (h : Cel w g [x0, x1] t) : xc2 w g x0 x1 := ⟨h.cell 0, h.cell 1⟩
abbrev xc3 (w : World) (g : Nat) (x0 x1 x2 : Value) : Prop := w.cell? ⟨g, 0, none⟩ = some x0 ∧ w.cell? ⟨g, 1, none⟩ = some x1 ∧ w.cell? ⟨g, 2, none⟩ = some x2
theorem xk3 {w : World} {g : Nat} {t : TypeId} {x0 x1 x2 : Value} (h : Cel w g [x0, x1, x2] t) : xc3 w g x0 x1 x2 := ⟨h.cell 0, h.cell 1, h.cell 2⟩
abbrev xc4 (w : World) (g : Nat) (x0 x1 x2 x3 : Value) : Prop := w.cell? ⟨g, 0, none⟩ = some x0 ∧ w.cell? ⟨g, 1, none⟩ = some x1 ∧ w.cell? ⟨g, 2, none⟩ = some x2 ∧ w.cell? ⟨g, 3, none⟩ = some x3
theorem xk4 {w : World} {g : Nat} {t : TypeId} {x0 x1 x2 x3 : Value} (h : Cel w g [x0, x1, x2, x3] t) : xc4 w g x0 x1 x2 x3 := ⟨h.cell 0, h.cell 1, h.cell 2, h.cell 3⟩
abbrev xc6 (w : World) (g : Nat) (x0 x1 x2 x3 x4 x5 : Value) : Prop := w.cell? ⟨g, 0, none⟩ = some x0 ∧ w.cell? ⟨g, 1, none⟩ = some x1 ∧ w.cell? ⟨g, 2, none⟩ = some x2 ∧ w.cell? ⟨g, 3, none⟩ = some x3 ∧ w.cell? ⟨g, 4, none⟩ = some x4 ∧ w.cell? ⟨g, 5, none⟩ = some x5
theorem xk6 {w : World} {g : Nat} {t : TypeId} {x0 x1 x2 x3 x4 x5 : Value} (h : Cel w g [x0, x1, x2, x3, x4, x5] t) : xc6 w g x0 x1 x2 x3 x4 x5 := ⟨h.cell 0, h.cell 1, h.cell 2, h.cell 3, h.cell 4, h.cell 5⟩
abbrev xc24 (w : World) (g : Nat) (x0 x1 x2 x3 x4 x5 x6 x7 x8 x9 x10 x11 x12 x13 x14 x15 x16 x17 x18 x19 x20 x21 x22 x23 : Value) : Prop := w.cell? ⟨g, 0, none⟩ = some x0 ∧ w.cell? ⟨g, 1, none⟩ = some x1 ∧ w.cell? ⟨g, 2, none⟩ = some x2 ∧ w.cell? ⟨g, 3, none⟩ = some x3 ∧ w.cell? ⟨g, 4, none⟩ = some x4 ∧ w.cell? ⟨g, 5, none⟩ = some x5 ∧ w.cell? ⟨g, 6, none⟩ = some x6 ∧ w.cell? ⟨g, 7, none⟩ = some x7 ∧ w.cell? ⟨g, 8, none⟩ = some x8 ∧ w.cell? ⟨g, 9, none⟩ = some x9 ∧ w.cell? ⟨g, 10, none⟩ = some x10 ∧ w.cell? ⟨g, 11, none⟩ = some x11 ∧ w.cell? ⟨g, 12, none⟩ = some x12 ∧ w.cell? ⟨g, 13, none⟩ = some x13 ∧ w.cell? ⟨g, 14, none⟩ = some x14 ∧ w.cell? ⟨g, 15, none⟩ = some x15 ∧ w.cell? ⟨g, 16, none⟩ = some x16 ∧ w.cell? ⟨g, 17, none⟩ = some x17 ∧ w.cell? ⟨g, 18, none⟩ = some x18 ∧ w.cell? ⟨g, 19, none⟩ = some x19 ∧ w.cell? ⟨g, 20, none⟩ = some x20 ∧ w.cell? ⟨g, 21, none⟩ = some x21 ∧ w.cell? ⟨g, 22, none⟩ = some x22 ∧ w.cell? ⟨g, 23, none⟩ = some x23
theorem xk24 {w : World} {g : Nat} {t : TypeId} {x0 x1 x2 x3 x4 x5 x6 x7 x8 x9 x10 x11 x12 x13 x14 x15 x16 x17 x18 x19 x20 x21 x22 x23 : Value} (h : Cel w g [x0, x1, x2, x3, x4, x5, x6, x7, x8, x9, x10, x11, x12, x13, x14, x15, x16, x17, x18, x19, x20, x21, x22, x23] t) : xc24 w g x0 x1 x2 x3 x4 x5 x6 x7 x8 x9 x10 x11 x12 x13 x14 x15 x16 x17 x18 x19 x20 x21 x22 x23 := ⟨h.cell 0, h.cell 1, h.cell 2, h.cell 3, h.cell 4, h.cell 5, h.cell 6, h.cell 7, h.cell 8, h.cell 9, h.cell 10, h.cell 11, h.cell 12, h.cell 13, h.cell 14, h.cell 15, h.cell 16, h.cell 17, h.cell 18, h.cell 19, h.cell 20, h.cell 21, h.cell 22, h.cell 23⟩
end Go.Proofs.YtnplifkgeeicjaaGreatDoor
