/-
  Rows of whole numbers; slices.Grow and slices.Concat over them.
  Package vec: without.
  Determinants of whole numbers: how long they get; rows of rows without the first.
  Package vec: expanded.
-/
import Derived.Lib.AppendZeros
import Derived.Lib.BufferGrow
import Derived.Test.YtiiigiggcbbgjaaGreatDoorH37
set_option maxRecDepth 100000
set_option maxHeartbeats 16000000
namespace Go.Proofs.YtiiigiggcbbgjaaGreatDoor
open Go.RowKit
def RdZ (w : World) (a : Option Addr) (n : Nat) (z : Nat → Int) : Prop := ∀ i, i < n * 2 → ∃ b off, a = some ⟨b, off, none⟩ ∧ w.cell? ⟨b, off + i, none⟩ = some (fz z i)
theorem RdZ.below {w w' : World} {a : Option Addr} {n : Nat} {z : Nat → Int} (h : RdZ w a n z) (hb : Below w.heap.size w w') : RdZ w' a n z := by
 intro i hi
 obtain ⟨b, off, rfl, h0⟩ := h i hi
 exact ⟨b, off, rfl, cell_below h0 hb⟩
theorem RdZ.z0 {w : World} {b off n : Nat} {z : Nat → Int} (h : RdZ w (some ⟨b, off, none⟩) n z) {j : Nat} (hj : j < n) : w.cell? ⟨b, off + j * 2, none⟩ = some (.bool (nfZ (z j))) := by
 obtain ⟨b', off', e, h0⟩ := h (j * 2) (by omega)
 simp only [Option.some.injEq, Addr.mk.injEq] at e
 obtain ⟨rfl, rfl, -⟩ := e
 rw [h0, fz_0]
theorem RdZ.z1 {w : World} {b off n : Nat} {z : Nat → Int} (h : RdZ w (some ⟨b, off, none⟩) n z) {j : Nat} (hj : j < n) : w.cell? ⟨b, off + j * 2 + 1, none⟩ = some (.string (sfZ (z j))) := by
 obtain ⟨b', off', e, h0⟩ := h (j * 2 + 1) (by omega)
 simp only [Option.some.injEq, Addr.mk.injEq] at e
 obtain ⟨rfl, rfl, -⟩ := e
 rw [Nat.add_assoc, h0, fz_1]
theorem RdZ.part {w : World} {b off n : Nat} {z : Nat → Int} (h : RdZ w (some ⟨b, off, none⟩) n z) (k m : Nat) (hk : k + m ≤ n) : RdZ w (some ⟨b, off + k * 2, none⟩) m (fun j => z (k + j)) := by
 intro i hi
 obtain ⟨b', off', e, h0⟩ := h (k * 2 + i) (by omega)
 simp only [Option.some.injEq, Addr.mk.injEq] at e
 obtain ⟨rfl, rfl, -⟩ := e
 refine ⟨_, _, rfl, ?_⟩
 rw [Nat.add_assoc, h0]
 unfold fz
 rw [show (k * 2 + i) % 2 = i % 2 by omega, show (k * 2 + i) / 2 = k + i / 2 by omega]
theorem Cells.rdZ {w : World} {g n : Nat} {t : TypeId} {z : Nat → Int} (h : Cells w g t (n * 2) (fz z)) : RdZ w (some ⟨g, 0, none⟩) n z := by
 intro i hi
 exact ⟨g, 0, rfl, by rw [Nat.zero_add]; exact h.cell hi⟩
def flz (n : Nat) (z : Nat → Int) : List Value := (List.range (n * 2)).map (fz z)
def cat (n : Nat) (x y : Nat → Int) : Nat → Int := fun j => if j < n then x j else y (j - n)
theorem flz_cat (n m : Nat) (x y : Nat → Int) : flz n x ++ flz m y = flz (n + m) (cat n x y) := by
 unfold flz
 rw [Nat.add_mul, List.range_add, List.map_append, List.map_map]
 congr 1
 ·refine List.map_congr_left fun i hi => ?_
  rw [List.mem_range] at hi
  unfold fz cat
  rw [if_pos (show i / 2 < n by omega)]
 ·refine List.map_congr_left fun i hi => ?_
  show fz y i = fz (cat n x y) (n * 2 + i)
  unfold fz cat
  rw [show (n * 2 + i) % 2 = i % 2 by omega, show (n * 2 + i) / 2 = n + i / 2 by omega, if_neg (show ¬ n + i / 2 < n by omega), show n + i / 2 - n = i / 2 by omega]
theorem flz_get {n : Nat} {z : Nat → Int} {i : Nat} {u : Value} (h : (flz n z)[i]? = some u) : i < n * 2 ∧ u = fz z i := by
 unfold flz at h
 rw [List.getElem?_map] at h
 by_cases hi : i < n * 2
 ·rw [List.getElem?_range hi] at h
  simp only [Option.map_some, Option.some.injEq] at h
  exact ⟨hi, h.symm⟩
 ·rw [List.getElem?_eq_none (by simp; omega)] at h; cases h
theorem wpList_appZ {w : World} {ops : Array Oper} {rest : List Oper} {o : Oper} {a : Act} {Q : Exit → Act → World → Prop}
  (hg : o.guard = none) (s x : Operand) (hop : o.op = Op.call { callee := Callee.builtin Builtin.append, args := #[s, x], argTypes := #[105, 105] })
  (sv : Value) (n : Nat) (vs : List Value) (hs : a.eval s = sv) (B : Nat) (hown : w.ownsRow B 24 2 sv n vs) (hB : B ≤ w.heap.size) (b off m c : Nat) (z : Nat → Int) (hx : a.eval x = .slice (some ⟨b, off, none⟩) m c)
  (hc : RdZ w (some ⟨b, off, none⟩) m z) (hn : n + m ≤ 1000000)
  (hK : ∀ v' w', w'.ownsRow B 24 2 v' (n + m) (vs ++ flz m z) → w.grownBy w' sv.ownBlock → (v' = .slice none 0 0 ↔ sv = .slice none 0 0 ∧ m = 0) → wpList Tryz.prog ops Q rest (a.put o.dst v') w') :
  wpList Tryz.prog ops Q (o :: rest) a w := by
 obtain ⟨i0, hi, hz0, hz1, hz2⟩ := info_parts (show (Tryz.prog.info? 24).map (fun i => (i.zero, i.size, i.bytes)) = some (some (.agg #[.bool false, .string ⟨#[]⟩]), 2, 24) by kernel_rfl)
 refine wpList_append_own _ hg s x 105 hop B 24 i0 (.agg #[.bool false, .string ⟨#[]⟩]) 2 24 Tryz.underlying105 hi hz0 hz1 hz2 (by rw [cellsZ0]; rfl) (by decide) sv n vs hs hown ⟨b, off, none⟩ m c (flz m z) hx (by simp [flz]) ?_ ?_ ?_ ?_ hB hK
 ·intro j u hj
  obtain ⟨h1, rfl⟩ := flz_get hj
  obtain ⟨b', off', e, h0⟩ := hc j h1
  simp only [Option.some.injEq, Addr.mk.injEq] at e
  obtain ⟨rfl, rfl, -⟩ := e
  rw [add_at]; exact h0
 ·intro u hu
  unfold flz at hu
  rw [List.mem_map] at hu
  obtain ⟨y, -, rfl⟩ := hu
  unfold fz
  split <;> rfl
 ·unfold maxLen; omega
 ·omega
theorem rdZ_own {w : World} {B n g cap : Nat} {z : Nat → Int} (h : w.ownsRow B 24 2 (.slice (some ⟨g, 0, none⟩) n cap) n (flz n z)) : RdZ w (some ⟨g, 0, none⟩) n z := by
 intro i hi
 refine ⟨g, 0, rfl, ?_⟩
 have := World.ownsRow.cells h (g := g) rfl i (fz z i) (by unfold flz; rw [List.getElem?_map, List.getElem?_range hi]; rfl)
 rwa [add_at] at this
theorem grow_any (n : Nat) (w : World) (h0 : 0 < n) (hn : n ≤ 100000) :
  Calls Tryz.prog 209 #[.slice none 0 0, .int .i64 n] w fun e w' => ∃ cap, e = .returned (.slice (some ⟨w.heap.size, 0, none⟩) 0 cap) ∧ w'.ownsRow w.heap.size 24 2 (.slice (some ⟨w.heap.size, 0, none⟩) 0 cap) 0 [] ∧ Below w.heap.size w w' := by
 obtain ⟨i0, hi, hz0, hz1, hz2⟩ := info_parts (show (Tryz.prog.info? 24).map (fun i => (i.zero, i.size, i.bytes)) = some (some (.agg #[.bool false, .string ⟨#[]⟩]), 2, 24) by kernel_rfl)
 have happ := Lib.run_append_nil_zeros (P := Tryz.prog) w 105 3 105 24 i0 (.agg #[.bool false, .string ⟨#[]⟩]) .i64 .i64 Tryz.underlying105 Tryz.underlying3 hi hz0 n h0 (by omega) (by omega) (by rw [hz2]; omega)
 generalize hcap : grownCap w n 0 24 = cap at happ
 have hge : n ≤ cap := by rw [← hcap]; exact grownCap_ge w _ 0 _
 have hle : cap ≤ maxLen := by rw [← hcap]; exact grownCap_le_maxLen w _ 0 _ (by unfold maxLen; omega)
 rw [cellsZ0] at happ
 generalize hZ : (Builtin.zeroCells #[Value.bool false, .string { data := #[] }] n ++ Builtin.zeroCells #[Value.bool false, .string { data := #[] }] (cap - n)) = Z at happ
 have hZs : Z.size = cap * 2 := by rw [← hZ]; simp [size_zeroCells]; omega
 clear hcap hZ
 have HO : Hid ((w.drew.alloc (.cells Z 24)).ownsRow w.heap.size 24 2 (.slice (some ⟨w.heap.size, 0, none⟩) 0 cap) 0 []) := World.ownsRow_made w.drew Z cap (Nat.le_refl _) hle hZs
 have HB : Hid (Below w.heap.size w (w.drew.alloc (.cells Z 24))) := (bdrew w).alloc (Nat.le_refl _) _
 clear hle hZs
 go_enter Tryz.func209, Tryz.ntmps209
 go_wp2_with (at_builtin; refine Lib.wpList_append_run _ rfl _ _ _ _ rfl _ _ rfl rfl _ _ happ ?_)
 go_ret
 exact ⟨cap, rfl, HO.out, HB.out⟩
theorem concat_any (B b0 o0 n0 c0 b1 o1 n1 c1 : Nat) (x y : Nat → Int) (w : World) (hB : Cel w B [.slice (some ⟨b0, o0, none⟩) n0 c0, .slice (some ⟨b1, o1, none⟩) n1 c1] 105)
  (h0 : RdZ w (some ⟨b0, o0, none⟩) n0 x) (h1 : RdZ w (some ⟨b1, o1, none⟩) n1 y) (hp : 0 < n0 + n1) (hn : n0 + n1 ≤ 1000) :
  Calls Tryz.prog 189 #[.slice (some ⟨B, 0, none⟩) 2 2] w fun e w' => ∃ g cap, e = .returned (.slice (some ⟨g, 0, none⟩) (n0 + n1 : Nat) cap) ∧ n0 + n1 ≤ cap ∧ RdZ w' (some ⟨g, 0, none⟩) (n0 + n1) (cat n0 x y) ∧ w.heap.size ≤ g ∧ Below w.heap.size w w' := by
 have k0 := hB.cell 0
 have k1 := hB.cell 1
 simp only [List.getElem?_cons_zero, List.getElem?_cons_succ] at k0 k1
 replace h0 := shut h0
 replace h1 := shut h1
 have HG : Hid (∀ w : World, Calls Tryz.prog 209 #[.slice none 0 0, .int .i64 ((n0 : Int) + (n1 : Int))] w fun e w' => ∃ cap, e = .returned (.slice (some ⟨w.heap.size, 0, none⟩) 0 cap) ∧ w'.ownsRow w.heap.size 24 2 (.slice (some ⟨w.heap.size, 0, none⟩) 0 cap) 0 [] ∧ Below w.heap.size w w') := fun w => by
  have := grow_any (n0 + n1) w hp (by omega)
  rwa [Int.natCast_add] at this
 go_enter Tryz.func189, Tryz.ntmps189
 go_wp2_with fail
 refine wp_loop_rounds 3 ?_
 rw [rounds_succ]
 go_wp2_with fail
 rw [rounds_succ]
 go_wp2_with fail
 rw [rounds_succ]
 go_wp2_with fail
 go_fit (HG.out _)
 rintro e w1 ⟨cap, rfl, ho, b1⟩
 clear HG
 go_wp2_with fail
 go_loopw [6, 27] (fun v i wr => Below w.heap.size w wr ∧ v ≠ .slice none 0 0 ∧ ((i = .int .i64 0 ∧ wr.ownsRow w.heap.size 24 2 v 0 []) ∨ (i = .int .i64 1 ∧ wr.ownsRow w.heap.size 24 2 v n0 (flz n0 x)) ∨ (i = .int .i64 2 ∧ wr.ownsRow w.heap.size 24 2 v (n0 + n1) (flz (n0 + n1) (cat n0 x y))))) (fun _ i _ => 2 - (intOf i).toNat)
 case atStart => exact ⟨b1, by simp, Or.inl ⟨rfl, ho⟩⟩
 case round =>
  clear ho b1
  obtain ⟨bb, hv, hi⟩ := hrel
  replace k0 := cell_below k0 bb
  replace k1 := cell_below k1 bb
  have r0 := shut (h0.out.below bb)
  have r1 := shut (h1.out.below bb)
  replace hv := shut hv
  rcases hi with ⟨rfl, ho⟩ | ⟨rfl, ho⟩ | ⟨rfl, ho⟩
  ·replace ho := shut ho
   go_wp2_with (at_builtin; refine wpList_appZ rfl _ _ rfl u6 0 [] rfl w.heap.size ho.out bb.size b0 o0 n0 c0 x rfl r0.out (by omega) ?_; intro v' w2 o2 hg2 hnil)
   have B2 : Hid (Below w.heap.size w w2) := bb.grown hg2 bb.size (fun g hg => ownN_block ho.out g hg)
   have N2 : Hid (v' ≠ .slice none 0 0) := fun e => hv.out (hnil.1 e).1
   rw [List.nil_append, Nat.zero_add] at o2
   replace o2 := shut o2
   clear hg2 hnil ho hv k0 k1 bb
   go_wp2
   exact ⟨⟨B2.out, N2.out, Or.inr (Or.inl ⟨by go_num, o2.out⟩)⟩, by simp [intOf]⟩
  ·replace ho := shut ho
   go_wp2_with (at_builtin; refine wpList_appZ rfl _ _ rfl u6 n0 (flz n0 x) rfl w.heap.size ho.out bb.size b1 o1 n1 c1 y rfl r1.out (by omega) ?_; intro v' w2 o2 hg2 hnil)
   have B2 : Hid (Below w.heap.size w w2) := bb.grown hg2 bb.size (fun g hg => ownN_block ho.out g hg)
   have N2 : Hid (v' ≠ .slice none 0 0) := fun e => hv.out (hnil.1 e).1
   rw [flz_cat] at o2
   replace o2 := shut o2
   clear hg2 hnil ho hv k0 k1 bb
   go_wp2
   exact ⟨⟨B2.out, N2.out, Or.inr (Or.inr ⟨by go_num, o2.out⟩)⟩, by simp [intOf]⟩
  ·rcases id ho.2 with ⟨e, -⟩ | ⟨g, cap', cur, rfl, hg, hh, hc, -⟩
   ·exact absurd e hv.out
   ·have R := shut (rdZ_own ho)
    clear ho hv hh
    go_wp2
    go_ret
    exact ⟨g, cap', rfl, hc, R.out, hg, bb⟩
def RdM (w : World) (a : Option Addr) (n m : Nat) (M : Nat → Nat → Int) : Prop := ∀ i, i < n → ∃ b off g o c, a = some ⟨b, off, none⟩ ∧ w.cell? ⟨b, off + i, none⟩ = some (.slice (some ⟨g, o, none⟩) m c) ∧ m ≤ c ∧ RdZ w (some ⟨g, o, none⟩) m (M i)
theorem RdM.below {w w' : World} {a : Option Addr} {n m : Nat} {M : Nat → Nat → Int} (h : RdM w a n m M) (hb : Below w.heap.size w w') : RdM w' a n m M := by
 intro i hi
 obtain ⟨b, off, g, o, c, rfl, h0, hc, h1⟩ := h i hi
 exact ⟨b, off, g, o, c, rfl, cell_below h0 hb, hc, h1.below hb⟩
theorem run_mkV (n : Nat) (hn : n ≤ 1000000) (w : World) :
  ∃ w', (Instr.makeSlice 130 (.int .i64 n) (.int .i64 n)).run Tryz.prog w = .ok (.slice (some ⟨w.heap.size, 0, none⟩) n n) w' ∧ Cells w' w.heap.size 105 n (fun _ => .slice none 0 0) ∧ Below w.heap.size w w' ∧ w'.heap.size = w.heap.size + 1 := by
 obtain ⟨i0, hi, hz0, hz1, hz2⟩ := info_parts (show (Tryz.prog.info? 105).map (fun i => (i.zero, i.size, i.bytes)) = some (some (.slice none 0 0), 1, 24) by kernel_rfl)
 have h := run_make (P := Tryz.prog) w 130 105 i0 (.slice none 0 0) Tryz.underlying130 hi hz0 .i64 .i64 n n (by omega) (by omega) (by rw [hz2]; omega) (by omega)
 rw [hz1, Int.toNat_natCast, Nat.mul_one] at h
 refine ⟨_, h, ⟨_, heap_alloc_new w _, size_madeCells _ _, fun i hi => ?_⟩, (Below.refl _ _).alloc (Nat.le_refl _) _, by simp⟩
 have e : (madeCells (Value.cells (.slice none 0 0)) n)[i]? = some (#[Value.slice none 0 0][i % 1]!) := by
  simp [madeCells, hi, Value.cells]
 rw [e, Nat.mod_one]
 rfl
theorem wpList_mkV {w : World} {ops : Array Oper} {rest : List Oper} {o : Oper} {a : Act} {Q : Exit → Act → World → Prop}
  (hg : o.guard = none) (l c : Operand) (hop : o.op = Op.makeSlice 130 l c) (L : Int) (n : Nat) (hl : a.eval l = .int .i64 L) (hc : a.eval c = .int .i64 L) (hL : L = (n : Int)) (hn : n ≤ 1000000)
  (hK : ∀ w1, Cells w1 w.heap.size 105 n (fun _ => .slice none 0 0) → Below w.heap.size w w1 → wpList Tryz.prog ops Q rest (a.put o.dst (.slice (some ⟨w.heap.size, 0, none⟩) n n)) w1) :
  wpList Tryz.prog ops Q (o :: rest) a w := by
 refine wpList_plain hg fun K hK' => ?_
 subst hL
 obtain ⟨w', hrun, hc', hb, -⟩ := run_mkV n hn w
 unfold Oper.wp
 simp [execOp, hop, hl, hc, hrun, Result.andThen]
 exact hK' _ _ (hK _ hc' hb)
def Rows1 (w : World) (g k n m : Nat) (M : Nat → Nat → Int) : Prop := ∃ f, Cells w g 105 n f ∧ ∀ i, i < k → ∃ h c, f i = .slice (some ⟨h, 0, none⟩) m c ∧ m ≤ c ∧ g < h ∧ RdZ w (some ⟨h, 0, none⟩) m (M i)
theorem Rows1.below {w w' : World} {g k n m : Nat} {M : Nat → Nat → Int} (h : Rows1 w g k n m M) (hb : Below w.heap.size w w') : Rows1 w' g k n m M := by
 obtain ⟨f, h1, h2⟩ := h
 refine ⟨f, h1.below hb, fun i hi => ?_⟩
 obtain ⟨h, c, e, hc, hg, r⟩ := h2 i hi
 exact ⟨h, c, e, hc, hg, r.below hb⟩
theorem RdZ.setX {w : World} {b o n g j : Nat} {v : Value} {z : Nat → Int} (h : RdZ w (some ⟨b, o, none⟩) n z) (hne : b ≠ g) : RdZ (w.setCell ⟨g, j, none⟩ v) (some ⟨b, o, none⟩) n z := by
 intro i hi
 obtain ⟨b', off', e, h0⟩ := h i hi
 simp only [Option.some.injEq, Addr.mk.injEq] at e
 obtain ⟨rfl, rfl, -⟩ := e
 exact ⟨_, _, rfl, by rw [World.cell?_of_block (w := w) (Below.heap_setCell _ _ _ _ (by exact hne))]; exact h0⟩
theorem Rows1.put {w : World} {g k n m : Nat} {M : Nat → Nat → Int} (h : Rows1 w g k n m M) (hk : k < n) {b c : Nat} (hc : m ≤ c) (hb : g < b) (r : RdZ w (some ⟨b, 0, none⟩) m (M k)) : Rows1 (w.setCell ⟨g, k, none⟩ (.slice (some ⟨b, 0, none⟩) m c)) g (k + 1) n m M := by
 obtain ⟨f, h1, h2⟩ := h
 refine ⟨_, h1.set k _, fun i hi => ?_⟩
 by_cases e : i = k
 ·subst e
  exact ⟨b, c, by rw [if_pos rfl], hc, hb, r.setX (by omega)⟩
 ·obtain ⟨h, c', e', hc', hg', r'⟩ := h2 i (by omega)
  exact ⟨h, c', by rw [if_neg e]; exact e', hc', hg', r'.setX (by omega)⟩
theorem Rows1.rdM {w : World} {g n m : Nat} {M : Nat → Nat → Int} (h : Rows1 w g n n m M) : RdM w (some ⟨g, 0, none⟩) n m M := by
 obtain ⟨f, h1, h2⟩ := h
 intro i hi
 obtain ⟨h, c, e, hc, hg, r⟩ := h2 i hi
 exact ⟨g, 0, h, 0, c, rfl, by rw [Nat.zero_add, h1.cell hi, e], hc, r⟩
theorem slice_to {w : World} {n g o : Nat} {z : Nat → Int} (l : Nat) (h : RdZ w (some ⟨g, o, none⟩) n z) (hl : l ≤ n) : RdZ w (some ⟨g, o, none⟩) l z := fun i hi => h i (by omega)
theorem RdZ.drew {w : World} {a : Option Addr} {n : Nat} {z : Nat → Int} (h : RdZ w a n z) : RdZ w.drew a n z := h
theorem RdZ.alloc {w : World} {a : Option Addr} {n : Nat} {z : Nat → Int} (h : RdZ w a n z) (o : Obj) : RdZ (w.alloc o) a n z := h.below ((Below.refl _ _).alloc (Nat.le_refl _) o)
theorem below_ad {w w' : World} {o : Obj} (b : Below (w.alloc o).drew.heap.size (w.alloc o).drew w') : Below w.heap.size w w' := Below.after (((Below.refl w.heap.size w).alloc (Nat.le_refl _) o).drew) b
theorem size_ad {w : World} {o : Obj} {g : Nat} (h : (w.alloc o).drew.heap.size ≤ g) : w.heap.size ≤ g := Nat.le_trans ((Below.refl w.heap.size w).alloc (Nat.le_refl _) o).size h
theorem concat_m (B b0 o0 col c0 b1 o1 c1 m n1 : Nat) (hn1 : n1 = m - col) (x : Nat → Int) {w : World} (hcol : col ≤ m) (h1 : 1 ≤ m) (hm : m ≤ 100) (hB : Cel w B [.slice (some ⟨b0, o0, none⟩) col c0, .slice (some ⟨b1, o1, none⟩) n1 c1] 105)
  (r0 : RdZ w (some ⟨b0, o0, none⟩) col x) (r1 : RdZ w (some ⟨b1, o1, none⟩) n1 (fun j => x (col + 1 + j))) :
  Calls Tryz.prog 189 #[.slice (some ⟨B, 0, none⟩) 2 2] w fun e w' => ∃ g cap, e = .returned (.slice (some ⟨g, 0, none⟩) m cap) ∧ m ≤ cap ∧ RdZ w' (some ⟨g, 0, none⟩) m (fun k => x (if k < col then k else k + 1)) ∧ w.heap.size ≤ g ∧ Below w.heap.size w w' := by
 subst hn1
 have := concat_any B b0 o0 col c0 b1 o1 (m - col) c1 x (fun j => x (col + 1 + j)) w hB r0 r1 (by omega) (by omega)
 rw [show col + (m - col) = m by omega] at this
 have e : cat col x (fun j => x (col + 1 + j)) = fun k => x (if k < col then k else k + 1) := by
  funext k
  unfold cat
  by_cases hk : k < col
  ·rw [if_pos hk, if_pos hk]
  ·rw [if_neg hk, if_neg hk]
   show x (col + 1 + (k - col)) = _
   rw [show col + 1 + (k - col) = k + 1 by omega]
 rw [e] at this
 exact this
theorem without_any (a : Option Addr) (n m cap col : Nat) (M : Nat → Nat → Int) (w : World) (hcol : col ≤ m) (h1 : 1 ≤ m) (hm : m ≤ 100) (hn : n ≤ 100) (h : RdM w a n (m + 1) M) :
  Calls Tryz.prog 165 #[.slice a n cap, .int .i64 col] w fun e w' => ∃ g, e = .returned (.slice (some ⟨g, 0, none⟩) n n) ∧ RdM w' (some ⟨g, 0, none⟩) n m (fun i k => M i (if k < col then k else k + 1)) ∧ Below w.heap.size w w' := by
 replace h := shut h
 have q0 : (0 : Int) ≤ (col : Int) := by omega
 have q1 : (0 : Int) ≤ (col : Int) + 1 := by omega
 have q2 : (col : Int) + 1 ≤ ((m + 1 : Nat) : Int) := by omega
 have q3 : IntKind.i64.wrap ((col : Int) + 1) = (col : Int) + 1 := by rw [IntKind.wrap_i64]; omega
 have tn : ((col : Int) + 1).toNat = col + 1 := by omega
 go_enter Tryz.func165, Tryz.ntmps165
 go_wp2_with (at_make; refine wpList_mkV rfl _ _ rfl _ n rfl rfl (by omega) (by omega) ?_; intro w1 k1 b1)
 have K1 : Hid (Rows1 w1 w.heap.size 0 n m (fun i k => M i (if k < col then k else k + 1))) := ⟨_, k1, fun i hi => by omega⟩
 clear k1
 go_loopw [13] (fun i wr => ∃ k : Nat, k ≤ n ∧ i = .int .i64 k ∧ Rows1 wr w.heap.size k n m (fun i k => M i (if k < col then k else k + 1)) ∧ Below w.heap.size w wr) (fun i _ => n - (intOf i).toNat)
 case atStart => exact ⟨0, by omega, rfl, K1.out, b1⟩
 case round =>
  clear K1 b1
  obtain ⟨k, hk, rfl, kg, bb⟩ := hrel
  by_cases hkn : k < n
  ·obtain ⟨b, off, g, o, c, rfl, h0, hc, hr⟩ := h.out.below bb k hkn
   replace hr := shut hr
   go_wp2_with fail
   have s1 : (col : Int) ≤ c := by omega
   have r0 := shut (slice_to col hr.out (by omega))
   have i0 : (0 : Int) ≤ (k : Int) := by omega
   have i1 : (k : Int) < (n : Int) := by omega
   have hlt : Hid (w.heap.size < wr.heap.size) := by obtain ⟨f, kf, -⟩ := id kg; exact kf.lt
   by_cases hcc : c = col + 1
   ·have hmc : Hid (col = m) := by show _ = _; omega
    replace hcc := hcc.symm
    have tn' : ((col : Int) + 1).toNat = c := by omega
    clear tn hc
    have hn1 : Hid (m + 1 - c = m - col) := by show _ = _; omega
    have r1 : Hid (RdZ wr (some ⟨g, o, none⟩) (m + 1 - c) (fun j => M k (col + 1 + j))) := fun i hi => by have := hmc.out; omega
    go_region_held3 (fun _ => True) (trivial) (first | (go_at_call 189; go_fit (concat_m wr.heap.size g o col _ g o 0 m (m + 1 - c) hn1.out (M k) hcol h1 hm (Cel.new wr _ _).drew (RdZ.drew (RdZ.alloc r0.out _)) (RdZ.drew (RdZ.alloc r1.out _))); rintro e wn ⟨g2, c2, rfl, hc2, rr, hg2, bn⟩; replace hg2 := size_ad hg2; replace bn := below_ad bn; replace kg := kg.below bn; replace bb := Below.after bb bn; obtain ⟨f, kf, -⟩ := id kg; have e0 := kf.cell hkn; have f0 := kf.frozen k) | fail)
    go_wp2
    have lt := hlt.out
    exact ⟨⟨k + 1, by omega, by go_num, kg.put hkn hc2 (by omega) rr, bset bb (Nat.le_refl _) _ _⟩, by simp [intOf]; omega⟩
   ·have r1 := shut (hr.out.part (col + 1) (m - col) (by omega))
    go_region_held3 (fun _ => True) (trivial) (first | (go_at_call 189; go_fit (concat_m wr.heap.size g o col _ g (o + (col + 1) * 2) (c - (col + 1)) m (m - col) rfl (M k) hcol h1 hm (Cel.new wr _ _).drew (RdZ.drew (RdZ.alloc r0.out _)) (RdZ.drew (RdZ.alloc r1.out _))); rintro e wn ⟨g2, c2, rfl, hc2, rr, hg2, bn⟩; replace hg2 := size_ad hg2; replace bn := below_ad bn; replace kg := kg.below bn; replace bb := Below.after bb bn; obtain ⟨f, kf, -⟩ := id kg; have e0 := kf.cell hkn; have f0 := kf.frozen k) | fail)
    go_wp2
    have lt := hlt.out
    exact ⟨⟨k + 1, by omega, by go_num, kg.put hkn hc2 (by omega) rr, bset bb (Nat.le_refl _) _ _⟩, by simp [intOf]; omega⟩
  ·obtain rfl : k = n := by omega
   have R := shut kg.rdM
   clear kg
   go_wp2
   go_ret
   exact ⟨w.heap.size, rfl, R.out, bb⟩
theorem cell_al {w : World} {p : Addr} {v : Value} (h : w.cell? p = some v) (o : Obj) : (w.alloc o).cell? p = some v := cell_below h ((Below.refl _ _).alloc (Nat.le_refl _) o)
theorem RdM.alloc {w : World} {a : Option Addr} {n m : Nat} {M : Nat → Nat → Int} (h : RdM w a n m M) (o : Obj) : RdM (w.alloc o) a n m M := h.below ((Below.refl _ _).alloc (Nat.le_refl _) o)
theorem RdM.tail {w : World} {b off n m : Nat} {M : Nat → Nat → Int} (h : RdM w (some ⟨b, off, none⟩) (n + 1) m M) : RdM w (some ⟨b, off + 1, none⟩) n m (fun i => M (i + 1)) := by
 intro i hi
 obtain ⟨b', off', g, o, c, e, h0, hc, h1⟩ := h (i + 1) (by omega)
 simp only [Option.some.injEq, Addr.mk.injEq] at e
 obtain ⟨rfl, rfl, -⟩ := e
 exact ⟨b, off + 1, g, o, c, rfl, by rw [show off + 1 + i = off + (i + 1) by omega]; exact h0, hc, h1⟩
theorem Bd.sub {x y : Int} {k : Nat} (hx : Bd x k) (hy : Bd y k) : Bd (x - y) (k + 1) := by
 rw [Int.sub_eq_add_neg]; exact hx.add hy.neg
theorem bd_psum {f : Nat → Int} {X : Nat} : ∀ {k : Nat}, (∀ j, j < k → Bd (f j) X) → Bd (Dt.psum f k) (X + k)
 | 0, _ => Bd.zero _
 | k + 1, h => by
  have ih := bd_psum (f := f) (k := k) (fun j hj => h j (by omega))
  have hk := (h k (by omega)).mono (Nat.le_add_right X k)
  unfold Dt.psum
  split
  ·exact ih.sub hk
  ·exact ih.add hk
theorem bd_det {B : Nat} : ∀ (n : Nat) {M : Nat → Nat → Int}, n ≤ 4 → (∀ i j, i < n → j < n → Bd (M i j) B) → Bd (Dt.det n M) (n * (B + 5) + 1)
 | 0, M, _, _ => by show (1 : Int).natAbs < 256 ^ (0 * (B + 5) + 1); simp
 | n + 1, M, hn, h => by
  unfold Dt.det
  have key : ∀ j, j < n + 1 → Bd (M 0 j * Dt.det n (Dt.minor M j)) (B + (n * (B + 5) + 1)) := fun j hj => by
   refine Bd.mul (h 0 j (by omega) hj) (bd_det n (by omega) fun i k hi hk => ?_)
   unfold Dt.minor
   by_cases c : k < j
   ·rw [if_pos c]; exact h _ _ (by omega) (by omega)
   ·rw [if_neg c]; exact h _ _ (by omega) (by omega)
  refine (bd_psum key).mono ?_
  rw [Nat.succ_mul]
  omega
theorem psum_zero {f : Nat → Int} {k : Nat} (h : f k = 0) : Dt.psum f (k + 1) = Dt.psum f k := by
 show (if k % 2 = 1 then Dt.psum f k - f k else Dt.psum f k + f k) = _
 rw [h]
 split <;> simp
theorem psum_odd {f : Nat → Int} {k : Nat} (h : k % 2 = 1) : Dt.psum f (k + 1) = Dt.psum f k - f k := by
 show (if k % 2 = 1 then Dt.psum f k - f k else Dt.psum f k + f k) = _
 rw [if_pos h]
theorem psum_even {f : Nat → Int} {k : Nat} (h : ¬ k % 2 = 1) : Dt.psum f (k + 1) = Dt.psum f k + f k := by
 show (if k % 2 = 1 then Dt.psum f k - f k else Dt.psum f k + f k) = _
 rw [if_neg h]
theorem det_one (M : Nat → Nat → Int) : Dt.det 1 M = M 0 0 := by simp [Dt.det, Dt.psum]
theorem vl1d {w w' : World} {c0 : List Value} {t0 : TypeId} (b : Below (w.alloc (.cells c0.toArray t0)).drew.heap.size (w.alloc (.cells c0.toArray t0)).drew w') :
  Cel w' w.heap.size c0 t0 ∧ Below w.heap.size w w' := ⟨((cel_top w c0 t0).drew).below b, Below.after ((bel_al w _).drew) b⟩
theorem vcut_at {W wn : World} {gc : Nat} {x y x' y' : Value} {t : TypeId} (bc : Below W.heap.size W wn) (k : Cel wn gc [x, y] t) (h : W.heap.size ≤ gc) :
  ∃ gc', Value.pointer (some ⟨gc, 0, none⟩) = .pointer (some ⟨gc', 0, none⟩) ∧ W.heap.size ≤ gc' ∧ Cel ((wn.setCell ⟨gc, 0, none⟩ x').setCell ⟨gc, 1, none⟩ y') gc' [x', y'] t ∧ Below W.heap.size W ((wn.setCell ⟨gc, 0, none⟩ x').setCell ⟨gc, 1, none⟩ y') :=
 ⟨gc, rfl, h, (k.set 0 x').set 1 y', bset (bset bc h 0 _) h 1 _⟩
theorem vcut_new {W wn : World} {x' y' : Value} {t : TypeId} (bc : Below W.heap.size W wn) :
  ∃ gc', Value.pointer (some ⟨wn.heap.size, 0, none⟩) = .pointer (some ⟨gc', 0, none⟩) ∧ W.heap.size ≤ gc' ∧ Cel (wn.alloc (.cells #[x', y'] t)) gc' [x', y'] t ∧ Below W.heap.size W (wn.alloc (.cells #[x', y'] t)) :=
 ⟨wn.heap.size, rfl, bc.size, Cel.new wn [x', y'] t, ba bc _⟩
def Ex (n B : Nat) : Prop := ∀ (a : Option Addr) (cap : Nat) (M : Nat → Nat → Int) (w : World), n ≤ cap → RdM w a n n M → (∀ i j, i < n → j < n → Bd (M i j) B) →
  Calls Tryz.prog 132 #[.slice a n cap] w fun e w' => e = .returned (.agg #[.bool (nfZ (Dt.det n M)), .string (sfZ (Dt.det n M))]) ∧ Below w.heap.size w w'
theorem ex_one (B : Nat) : Ex 1 B := by
 intro a cap M w hcap h hb
 obtain ⟨b, off, g, o, c, rfl, h0, hc, hr⟩ := h 0 (by omega)
 rw [det_one]
 have z0 := hr.z0 (j := 0) (by omega)
 have z1 := hr.z1 (j := 0) (by omega)
 simp only [Nat.zero_mul, Nat.add_zero] at z0 z1 h0
 clear hb h hr
 replace h0 := cell_al h0 (.cells #[.bool false, .string { data := #[] }] 24)
 replace z0 := cell_al z0 (.cells #[.bool false, .string { data := #[] }] 24)
 replace z1 := cell_al z1 (.cells #[.bool false, .string { data := #[] }] 24)
 go_enter Tryz.func132, Tryz.ntmps132
 go_wp2
 obtain ⟨w1, hw, kr, b1⟩ := mk1 w [.bool (nfZ (M 0 0)), .string (sfZ (M 0 0))] 24
 rw [← hw]
 exact post_z (p := 2) (by kernel_rfl) rfl rfl kr ⟨rfl, b1⟩
theorem ex_succ (n B : Nat) (h1 : 1 ≤ n) (h4 : n ≤ 3) (hB : B ≤ 3000) (ih : Ex n B) : Ex (n + 1) B := by
 intro a cap M w hcap h hb
 obtain ⟨b, off, g, o, c, rfl, h0, hc, hr⟩ := h 0 (by omega)
 simp only [Nat.add_zero] at h0
 have HT := shut h.tail
 have HR := shut hr
 replace hb := shut hb
 clear h hr
 obtain ⟨f, hf⟩ : ∃ f : Nat → Int, f = fun j => M 0 j * Dt.det n (Dt.minor M j) := ⟨_, rfl⟩
 have HD : Hid (Dt.det (n + 1) M = Dt.psum f (n + 1)) := by show _ = _; rw [hf]; rfl
 have HF : Hid (∀ j, f j = M 0 j * Dt.det n (Dt.minor M j)) := fun j => by rw [hf]
 clear hf
 have HBm : Hid (∀ j, j < n + 1 → ∀ i k, i < n → k < n → Bd (Dt.minor M j i k) B) := fun j hj i k hi hk => by
  unfold Dt.minor
  by_cases c : k < j
  ·rw [if_pos c]; exact hb.out _ _ (by omega) (by omega)
  ·rw [if_neg c]; exact hb.out _ _ (by omega) (by omega)
 have HBd : Hid (∀ j, j < n + 1 → Bd (Dt.det n (Dt.minor M j)) 16000) := fun j hj => (bd_det n (by omega) (HBm.out j hj)).mono (by have : n * (B + 5) ≤ 3 * (B + 5) := Nat.mul_le_mul_right _ h4; omega)
 have HBf : Hid (∀ j, j < n + 1 → Bd (f j) 15990) := fun j hj => by
  rw [HF.out j]
  exact (Bd.mul (hb.out 0 j (by omega) hj) (bd_det n (by omega) (HBm.out j hj))).mono (by have : n * (B + 5) ≤ 3 * (B + 5) := Nat.mul_le_mul_right _ h4; omega)
 have HBs : Hid (∀ k, k ≤ n + 1 → Bd (Dt.psum f k) 15999) := fun k hk => (bd_psum (fun j hj => HBf.out j (by omega))).mono (by omega)
 have HB0 : Hid (∀ j, j < n + 1 → Bd (M 0 j) 16000) := fun j hj => (hb.out 0 j (by omega) hj).mono (by omega)
 clear hb
 have hne1 : ¬ cap = 1 := by omega
 have hsl : ∀ w' : World, (Instr.slice 130 (.slice (some ⟨b, off, none⟩) (n + 1) cap) (some (.int .i64 1)) none none).run Tryz.prog w' = .ok (.slice (some ⟨b, off + 1, none⟩) n (cap - 1)) w' := fun w' => by
  rw [run_slice_l (P := Tryz.prog) w' 130 (some ⟨b, off, none⟩) (n + 1) cap (by kernel_rfl) .i64 1 (by omega) (by omega)]
  have hs : (sizeOf (Tryz.prog.elem 130)).run Tryz.prog w' = .ok 1 w' := by kernel_rfl
  rw [hs]
  have t1 : (1 : Int).toNat = 1 := rfl
  simp only [Result.andThen, sliced, t1, if_neg hne1, Option.map_some, add_at, Nat.add_sub_cancel, Nat.mul_one]
 have hn1 : ¬ ((n + 1 : Nat) : Int) = 1 := by omega
 have hn2 : ¬ n = 0 := by omega
 have h9 : ((n : Int) + 1 == 1) = false := beq_eq_false_iff_ne.2 (by omega)
 replace h0 := cell_al (cell_al h0 (.cells #[.bool false, .string { data := #[] }] 24)) (.cells #[.bool false, .string { data := #[] }] 24)
 go_enter Tryz.func132, Tryz.ntmps132
 go_wp2_with fail
 obtain ⟨w1, hw, kr, ks, b1⟩ := mk2 w [.bool false, .string { data := #[] }] [.bool false, .string { data := #[] }] 24 24
 rw [← hw]
 clear hw h0
 go_loopw [20] (fun i wr => ∃ k : Nat, k ≤ n + 1 ∧ i = .int .i64 k ∧ Cel wr w.heap.size [.bool false, .string { data := #[] }] 24 ∧ Cel wr (w.heap.size + 1) [.bool (nfZ (Dt.psum f k)), .string (sfZ (Dt.psum f k))] 24 ∧ Below w.heap.size w wr) (fun i _ => n + 1 - (intOf i).toNat)
 case atStart => exact ⟨0, by omega, rfl, kr, ks, b1⟩
 case round =>
  clear kr ks b1
  obtain ⟨k, hk, rfl, kr, ks, bb⟩ := hrel
  by_cases hkn : k < n + 1
  ·have z0 := (HR.out.below bb).z0 hkn
   have z1 := (HR.out.below bb).z1 hkn
   have hkI : (k : Int) < (n : Int) + 1 := by omega
   by_cases hz : M 0 k = 0
   ·have KS : Hid (Cel (wr.alloc (.cells #[.bool (nfZ (M 0 k)), .string (sfZ (M 0 k))] 24)) (w.heap.size + 1) [.bool (nfZ (Dt.psum f (k + 1))), .string (sfZ (Dt.psum f (k + 1)))] 24) := by
     show Cel _ _ _ _
     have e : Dt.psum f (k + 1) = Dt.psum f k := psum_zero (by rw [HF.out k, hz, Int.zero_mul])
     rw [e]; exact ks.alloc _
    have es : (sfZ (M 0 k)).toList.isEmpty = true := by rw [hz, show sfZ 0 = ⟨#[]⟩ from rfl, ByteArray.toList_eq]; rfl
    clear ks
    replace hz := shut hz
    go_wp2
    exact ⟨⟨k + 1, by omega, by go_num, kr.alloc _, KS.out, ba bb _⟩, by simp [intOf]; omega⟩
   ·have es : (sfZ (M 0 k)).toList.isEmpty = false := by
     have hp : 0 < (sfZ (M 0 k)).size := strOf_pos (by omega)
     rw [ByteArray.toList_eq]
     generalize sfZ (M 0 k) = s at hp
     obtain ⟨⟨l⟩⟩ := s
     cases l with
     | nil => exact absurd hp (by decide)
     | cons _ _ => rfl
    replace hz := shut hz
    go_wp2_with fail
    obtain ⟨wr1, hw, ka, b1⟩ := mk1 wr [.bool (nfZ (M 0 k)), .string (sfZ (M 0 k))] 24
    rw [← hw]
    clear hw z0 z1
    replace kr := kr.below b1
    replace ks := ks.below b1
    replace bb := Below.after bb b1
    have l1 : Hid (w.heap.size + 1 < wr1.heap.size) := ks.lt
    clear b1
    generalize wr.heap.size = pa at *
    have HW : Hid (∀ w', Below wr1.heap.size wr1 w' → Calls Tryz.prog 165 #[.slice (some ⟨b, off + 1, none⟩) n (cap - 1), .int .i64 k] w' fun e w'' => ∃ g, e = .returned (.slice (some ⟨g, 0, none⟩) n n) ∧ RdM w'' (some ⟨g, 0, none⟩) n n (Dt.minor M k) ∧ Below w'.heap.size w' w'') := fun w' b' =>
     without_any (some ⟨b, off + 1, none⟩) n n (cap - 1) k (fun i => M (i + 1)) w' (by omega) h1 (by omega) (by omega) (HT.out.below (Below.after bb b'))
    have HE : Hid (∀ (g : Nat) (w' : World), RdM w' (some ⟨g, 0, none⟩) n n (Dt.minor M k) → Calls Tryz.prog 132 #[.slice (some ⟨g, 0, none⟩) n n] w' fun e w'' => e = .returned (.agg #[.bool (nfZ (Dt.det n (Dt.minor M k))), .string (sfZ (Dt.det n (Dt.minor M k)))]) ∧ Below w'.heap.size w' w'') := fun g w' r => ih (some ⟨g, 0, none⟩) n (Dt.minor M k) w' (Nat.le_refl _) r (HBm.out k hkn)
    have HMu : Hid (∀ w', Calls Tryz.prog 164 #[.agg #[.bool (nfZ (M 0 k)), .string (sfZ (M 0 k))], .agg #[.bool (nfZ (Dt.det n (Dt.minor M k))), .string (sfZ (Dt.det n (Dt.minor M k)))]] w' fun e w'' => e = .returned (.agg #[.bool (nfZ (f k)), .string (sfZ (f k))]) ∧ Below w'.heap.size w' w'') := fun w' => by
     rw [HF.out k]
     exact lMul_any (M 0 k) (Dt.det n (Dt.minor M k)) w' (Nat.le_refl _) (HB0.out k hkn) (HBd.out k hkn)
    have mkS : ∀ w', Below wr1.heap.size wr1 w' → (Below wr1.heap.size wr1 w' ∧ xc2 w' pa (.bool (nfZ (M 0 k))) (.string (sfZ (M 0 k)))) := fun w' h => ⟨h, xk2 (ka.below h)⟩
    have bcS : ∀ w', (Below wr1.heap.size wr1 w' ∧ xc2 w' pa (.bool (nfZ (M 0 k))) (.string (sfZ (M 0 k)))) → Below wr1.heap.size wr1 w' := fun w' h => h.1
    replace mkS := shut mkS
    replace bcS := shut bcS
    go_cut [6] from 28 to 34 (fun v wx => ∃ gc, v = .pointer (some ⟨gc, 0, none⟩) ∧ wr1.heap.size ≤ gc ∧ Cel wx gc [.bool (nfZ (f k)), .string (sfZ (f k))] 24 ∧ Below wr1.heap.size wr1 wx)
    case first =>
     clear HT HR HD HF HBm HBd HBf HBs HB0 kr ks bb l1 ka
     go_region_held3 (fun w' => Below wr1.heap.size wr1 w' ∧ xc2 w' pa (.bool (nfZ (M 0 k))) (.string (sfZ (M 0 k)))) (first | exact mkS.out _ (bdrew _) | with_reducible exact mkS.out _ bc3 | with_reducible exact mkS.out _ bc2 | with_reducible exact mkS.out _ bc1 | with_reducible exact mkS.out _ (ba bc3 _) | with_reducible exact mkS.out _ (ba bc2 _) | with_reducible exact mkS.out _ (ba bc1 _) | exact mkS.out _ (ba (bdrew _) _) | exact mkS.out _ ((bc3.setCell (Nat.le_refl _) _).setCell (Nat.le_refl _) _) | exact mkS.out _ ((bc3.setCell (bc1.size) _).setCell (bc1.size) _) | exact mkS.out _ ((bc3.setCell (bc2.size) _).setCell (bc2.size) _)) (first | (go_at_call 165; go_fit (HW.out _ ?_); exact bcS.out _ (by assumption); rintro e wn1 ⟨g1, rfl, rm, bn1⟩; have bc1 := Below.after (bcS.out _ (by assumption)) bn1) | (go_at_call 132; go_fit (HE.out _ _ ?_); (first | exact rm | exact rm.alloc _); rintro e wn2 ⟨rfl, bn2⟩; have bc2 := Below.after (bcS.out _ (by assumption)) bn2) | (go_at_call 164; go_fit (HMu.out _); rintro e wn3 ⟨rfl, bn3⟩; have bc3 := Below.after (bcS.out _ (by assumption)) bn3; (try (with_reducible have kz1 := (((al1 bn1).1.below bn2).below bn3))); (try (have f0 := Cel.frozen kz1 0; have f1 := Cel.frozen kz1 1; have e0 := cel2_0' kz1; have e1 := cel2_1' kz1)); (try (with_reducible have kz2 := ((al1 bn2).1.below bn3))); (try (have f0 := Cel.frozen kz2 0; have f1 := Cel.frozen kz2 1; have e0 := cel2_0' kz2; have e1 := cel2_1' kz2)); (try (with_reducible have kz3 := (al1 bn3).1)); (try (have f0 := Cel.frozen kz3 0; have f1 := Cel.frozen kz3 1; have e0 := cel2_0' kz3; have e1 := cel2_1' kz3)); (try (with_reducible have kz0 := (((vl1d bn1).1.below bn2).below bn3))); (try (have f0 := Cel.frozen kz0 0; have f1 := Cel.frozen kz0 1; have e0 := cel2_0' kz0; have e1 := cel2_1' kz0))))
     all_goals (try go_wp2_with fail)
     all_goals go_meet
     all_goals first | (with_reducible exact vcut_new bc3) | exact vcut_at bc3 kz0 (Nat.le_refl _) | exact vcut_at bc3 kz1 (Nat.le_refl _) | exact vcut_at bc3 kz2 bc1.size | exact vcut_at bc3 kz3 bc2.size
    case rest =>
     obtain ⟨gt, rfl, lt, kt, b1⟩ := hcut
     clear mkS bcS HW HE HMu hsl
     replace kr := kr.below b1
     replace ks := ks.below b1
     replace bb := Below.after bb b1
     have hlt : Hid (w.heap.size + 1 < gt) := Nat.lt_of_lt_of_le l1.out lt
     clear b1 lt l1
     obtain ⟨c0, c1⟩ := xk2 ks
     obtain ⟨c2, c3⟩ := xk2 kt
     by_cases ho : k % 2 = 1
     ·have ho' : (k : Int) % 2 = 1 := by omega
      have HS := shut (fun w' => lSub_any (Dt.psum f k) (f k) w' (Nat.le_refl 16000) ((HBs.out k (by omega)).mono (by omega)) ((HBf.out k hkn).mono (by omega)))
      rw [← psum_odd ho] at HS
      replace ho := shut ho
      go_wp2_with fail
      go_fit (HS.out _)
      rintro e wn ⟨rfl, b1⟩
      replace kr := kr.below b1
      replace ks := ks.below b1
      replace bb := Below.after bb b1
      clear b1 c0 c1 c2 c3
      obtain ⟨c0, c1⟩ := xk2 ks
      have f0 := Cel.frozen ks 0
      have f1 := Cel.frozen ks 1
      go_wp2
      exact ⟨⟨k + 1, by omega, by go_num, (kr.other (by omega) _ _).other (by omega) _ _, (ks.set 0 _).set 1 _, bset (bset bb (by omega) _ _) (by omega) _ _⟩, by simp [intOf]; omega⟩
     ·have ho' : ¬ (k : Int) % 2 = 1 := by omega
      have ho2 : (k : Int) % 2 = 0 := by omega
      have HS := shut (fun w' => lAdd_any (Dt.psum f k) (f k) w' (Nat.le_refl 16000) ((HBs.out k (by omega)).mono (by omega)) ((HBf.out k hkn).mono (by omega)))
      rw [← psum_even ho] at HS
      replace ho := shut ho
      go_wp2_with fail
      go_fit (HS.out _)
      rintro e wn ⟨rfl, b1⟩
      replace kr := kr.below b1
      replace ks := ks.below b1
      replace bb := Below.after bb b1
      clear b1 c0 c1 c2 c3
      obtain ⟨c0, c1⟩ := xk2 ks
      have f0 := Cel.frozen ks 0
      have f1 := Cel.frozen ks 1
      go_wp2
      exact ⟨⟨k + 1, by omega, by go_num, (kr.other (by omega) _ _).other (by omega) _ _, (ks.set 0 _).set 1 _, bset (bset bb (by omega) _ _) (by omega) _ _⟩, by simp [intOf]; omega⟩
  ·obtain rfl : k = n + 1 := by omega
   obtain ⟨c0, c1⟩ := xk2 ks
   obtain ⟨d0, d1⟩ := xk2 kr
   have f0 := Cel.frozen kr 0
   have f1 := Cel.frozen kr 1
   go_wp2
   exact post_z (p := 2) (by kernel_rfl) rfl rfl ((kr.set 0 _).set 1 _) ⟨by rw [HD.out], bset (bset bb (Nat.le_refl _) 0 _) (Nat.le_refl _) 1 _⟩
end Go.Proofs.YtiiigiggcbbgjaaGreatDoor
