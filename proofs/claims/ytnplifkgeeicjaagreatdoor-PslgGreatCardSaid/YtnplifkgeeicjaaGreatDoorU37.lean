/-
  'append' within a row's own room.
  Package pslg: its reader.
  Package pslg: its reader's counts and numbers.
  Package pslg: its reader's counts, numbers, points.
  Package pslg: its reader's numbers and points.
  Package pslg: its reader's points and segments.
  Package pslg: its reader's polynomials.
  Package pslg: its reader's lists.
  Package pslg: its reader's segments.
  Package pslg: its reader's list of segments.
-/
import Derived.ArgAppend
import Derived.Deep.CutBlock
import Derived.Deep.MidRow
import Derived.Deep.Upon
import Derived.Laws.AppendOwnNone
import Derived.Lib.AppendIntMem
import Derived.Lib.AppendZeros
import Derived.Lib.BufferGrow
import Derived.Lib.SliceRun
import Derived.Maps.AppendAt
import Derived.Shelf.LaysM
import Derived.Shelf.Strconv.Itoa2
import Derived.Test.YtnplifkgeeicjaaGreatDoorU29
import Derived.Test.YtnplifkgeeicjaaGreatDoorU31
import Derived.Test.YtnplifkgeeicjaaGreatDoorU36
set_option maxRecDepth 100000
set_option maxHeartbeats 4000000
namespace Go.Proofs.YtnplifkgeeicjaaGreatDoor
open Go.RowKit
theorem blk_put : ∀ (ys : List Nat) (w : World) (g : Nat) (p q : List Nat), Blk w g (p ++ q) → ys.length ≤ q.length →
  Blk (w.setCells g p.length (ys.map fun x => Value.int .u64 (x : Nat))) g (p ++ ys ++ q.drop ys.length) ∧ Only g w (w.setCells g p.length (ys.map fun x => Value.int .u64 (x : Nat)))
 | [], w, g, p, q, h, _ => ⟨by simpa [World.setCells] using h, Only.refl _ _⟩
 | y :: ys, w, g, p, x :: q, h, hn => by
  have h1 : Blk (w.setCell ⟨g, p.length, none⟩ (.int .u64 (y : Nat))) g ((p ++ [y]) ++ q) := by
   have := h.set p.length y
   rwa [show (p ++ x :: q).set p.length y = (p ++ [y]) ++ q by simp] at this
  have r := blk_put ys _ g (p ++ [y]) q h1 (by simpa using hn)
  rw [List.length_append, List.length_singleton] at r
  refine ⟨?_, ?_⟩
  ·have := r.1
   rw [show p ++ y :: ys ++ (x :: q).drop (y :: ys).length = p ++ [y] ++ ys ++ q.drop ys.length by simp]
   exact this
  ·exact ((Only.refl g w).setCell _ _).trans r.2
 | y :: ys, w, g, p, [], h, hn => by simp at hn
theorem wpList_appB {w : World} {ops : Array Oper} {rest : List Oper} {o : Oper} {a : Act} {Q : Exit → Act → World → Prop}
  (hg : o.guard = none) (s x : Operand) (hop : o.op = Op.call { callee := Callee.builtin Builtin.append, args := #[s, x], argTypes := #[64, 64] })
  (g cap : Nat) (q ys : List Nat) (hs : a.eval s = .slice (some ⟨g, 0, none⟩) 0 cap) (hB : Blk w g q) (hcap : q.length = cap) (v : Value) (hx : a.eval x = v) (hv : Rd w v ys) (hfit : ys.length ≤ cap)
  (hK : ∀ w', Blk w' g (ys ++ q.drop ys.length) → Only g w w' → wpList Tryz.prog ops Q rest (a.put o.dst (.slice (some ⟨g, 0, none⟩) ys.length cap)) w') :
  wpList Tryz.prog ops Q (o :: rest) a w := by
 obtain ⟨i0, hi, hz0, hz1, hz2⟩ := info_parts (show (Tryz.prog.info? 170).map (fun i => (i.zero, i.size, i.bytes)) = some (some (.int .u64 0), 1, 8) by kernel_rfl)
 obtain ⟨ao, c, rfl, hc1, hcell⟩ := hv
 refine wpList_plain hg fun K hK' => ?_
 rcases Nat.eq_zero_or_pos ys.length with h0 | h0
 ·have hy : ys = [] := List.eq_nil_of_length_eq_zero h0
  subst hy
  have hrun : ∀ ty, (Builtin.append_ #[64, 64] ty #[.slice (some ⟨g, 0, none⟩) 0 cap, .slice ao 0 c]).run Tryz.prog w = .ok (.slice (some ⟨g, 0, none⟩) 0 cap) w := fun ty => by
   cases ao with
   | none => simp [Builtin.append_, run_underlying Tryz.underlying64, sizeOf, typeInfo, hi, Builtin.lenOf, Builtin.firstCells, storeCells]
   | some ad =>
    have := run_append_room_cells (P := Tryz.prog) w 64 ty 170 i0 Tryz.underlying64 hi g 0 0 cap ad 0 c [] (by simp) (by simp) (by simp) (by omega) (by simp) (by simp)
    simpa [World.setCells] using this
  unfold Oper.wp
  simp at hx
  simp [execOp, hop, resolve, invoke, builtin, hs, hx, hrun, Result.andThen]
  exact hK' _ _ (hK _ (by simpa using hB) (Only.refl _ _))
 ·obtain ⟨b, off, rfl, -⟩ := hcell 0 h0
  have hrun := fun ty => run_append_room_cells (P := Tryz.prog) w 64 ty 170 i0 Tryz.underlying64 hi g 0 0 cap ⟨b, off, none⟩ ys.length c (ys.map fun x => Value.int .u64 (x : Nat)) (by simp [hz1])
   (fun j u hu => by
    have hj : j < ys.length := by simpa using (List.getElem?_eq_some_iff.1 hu).1
    obtain ⟨b', off', e, hcl⟩ := hcell j hj
    cases e
    rw [Addr.add_lit, hcl]
    simp [lm, hj] at hu ⊢
    exact hu)
   (fun u hu => by simp at hu; obtain ⟨y, _, rfl⟩ := hu; rfl) (by omega)
   (fun j hj => by rw [hB.cell (by simp at hj; simp; omega)]; rfl) (fun j hj => hB.frozen _)
  have hp := blk_put ys w g [] q (by simpa using hB) (by omega)
  unfold Oper.wp
  simp [execOp, hop, resolve, invoke, builtin, hs, hx, hrun, Result.andThen]
  simp at hp
  exact hK' _ _ (hK _ hp.1 hp.2)
def Sen (R : Nat) (w : World) (g : Nat) (a : Addr) : Prop :=
 g < R ∧ a.block < R ∧ w.cell? ⟨g, 0, none⟩ = some (.iface 348 (.pointer (some a))) ∧ ∃ c t, w.heap[a.block]? = some (.cells c t (0, 0))
theorem Grew.old {R : Nat} {w w' : World} (k : Grew R w w') (hR : R < w.heap.size) {b : Nat} (hb : b < R) : w'.heap[b]? = w.heap[b]? := k.block b (by omega) (by omega)
theorem Grew.oldc {R : Nat} {w w' : World} (k : Grew R w w') (hR : R < w.heap.size) {a : Addr} (hb : a.block < R) : w'.cell? a = w.cell? a := World.cell?_of_block (k.old hR hb)
theorem Grew.cel {R : Nat} {w w' : World} (k : Grew R w w') {g : Nat} {cs : List Value} {t : TypeId} (h : Cel w g cs t) (hn : g ≠ R) : Cel w' g cs t := by
 unfold Cel at h ⊢
 rw [k.block g (Cel.lt h) hn]
 exact h
theorem Sen.grew {R : Nat} {w w' : World} {g : Nat} {a : Addr} (h : Sen R w g a) (k : Grew R w w') (hR : R < w.heap.size) : Sen R w' g a := by
 obtain ⟨h1, h2, h3, h4⟩ := h
 refine ⟨h1, h2, ?_, ?_⟩
 ·rw [k.oldc hR (by exact h1)]; exact h3
 ·rw [k.old hR h2]; exact h4
def Sens (R : Nat) (w : World) (aL : Addr) : Prop :=
 Sen R w 4 aL ∧ ∀ g, g ∈ [5, 6, 7, 9, 10, 11] → ∃ a, a ≠ aL ∧ Sen R w g a
theorem Sens.grew {R : Nat} {w w' : World} {a : Addr} (h : Sens R w a) (k : Grew R w w') (hR : R < w.heap.size) : Sens R w' a :=
 ⟨h.1.grew k hR, fun g hg => (h.2 g hg).elim fun b hb => ⟨b, hb.1, hb.2.grew k hR⟩⟩
def TK (R : Nat) (w : World) (A : Nat) (ts : List ByteArray) : Prop := A < R ∧ ts.length ≤ 100000 ∧ (∀ j, j < ts.length → w.cell? ⟨A, j, none⟩ = some (.string (nt ts j))) ∧ ∀ t, t ∈ ts → t.size ≤ 100000
theorem TK.grew {R : Nat} {w w' : World} {A : Nat} {ts : List ByteArray} (h : TK R w A ts) (k : Grew R w w') (hR : R < w.heap.size) : TK R w' A ts :=
 ⟨h.1, h.2.1, fun j hj => by rw [k.oldc hR (by exact h.1)]; exact h.2.2.1 j hj, h.2.2.2⟩
def Ref (R : Nat) (w : World) (aL : Addr) (p : Nat) : Prop := ∃ (z : Int) (a : Addr), a ≠ aL ∧ a.block < R ∧ (∃ c t, w.heap[a.block]? = some (.cells c t (0, 0))) ∧ Cel w p [.int .i64 z, .iface 348 (.pointer (some a))] 134
def Rdr (w : World) (R A : Nat) (ts : List ByteArray) (aL : Addr) : St → Prop
 | some l => ∃ k : Nat, k + l.length = ts.length ∧ ts.drop k = l ∧ Cel w R [.slice (some ⟨A, 0, none⟩) ts.length ts.length, .int .i64 k, .nilIface] 139
 | none => ∃ (k : Int) (p : Nat), R < p ∧ Cel w R [.slice (some ⟨A, 0, none⟩) ts.length ts.length, .int .i64 k, .iface 132 (.pointer (some ⟨p, 0, none⟩))] 139 ∧ Ref R w aL p
theorem Grew.drew' {R : Nat} {w : World} : Grew R w w.drew := (Grew.refl R w).drew
theorem Cel.drew' {w : World} {g : Nat} {cs : List Value} {t : TypeId} (h : Cel w g cs t) : Cel w.drew g cs t := h
theorem refuse_bad (R A : Nat) (ts : List ByteArray) (aL : Addr) (x : Value) (w : World) (h : Rdr w R A ts aL none) :
  Calls Tryz.prog 91 #[.pointer (some ⟨R, 0, none⟩), x] w fun e w' => e = .returned (.tuple #[]) ∧ w' = w := by
 obtain ⟨k, p, hp, kr, -⟩ := h
 have c2 := kr.cell 2
 go_enter Tryz.func91, Tryz.ntmps91
 go_wp2
 go_end0
 exact ⟨rfl, rfl⟩
theorem refuse_ok (R A : Nat) (ts l : List ByteArray) (aL a : Addr) (w : World) (hR : R < w.heap.size) (h : Rdr w R A ts aL (some l)) (ha : a ≠ aL) (hb : a.block < R) (hc : ∃ c t, w.heap[a.block]? = some (.cells c t (0, 0))) :
  Calls Tryz.prog 91 #[.pointer (some ⟨R, 0, none⟩), .iface 348 (.pointer (some a))] w fun e w' => e = .returned (.tuple #[]) ∧ Rdr w' R A ts aL none ∧ Grew R w w' := by
 obtain ⟨k, h1, h2, kr⟩ := h
 have c1 := kr.cell 1
 have c2 := kr.cell 2
 have f2 := Cel.frozen kr 2
 go_enter Tryz.func91, Tryz.ntmps91
 go_wp2
 go_end0
 obtain ⟨V, hV⟩ : ∃ V : Value, V = .iface 132 (.pointer (some ⟨w.heap.size, 0, none⟩)) := ⟨_, rfl⟩
 rw [← hV]
 have hG : Grew R w ((w.setCell ⟨R, 2, none⟩ V).alloc (.cells #[.int .i64 k, .iface 348 (.pointer (some a))] 134)) :=
  (((Only.refl R w).setCell 2 V).grew).trans (Below.grew ((Below.refl _ _).alloc (Nat.le_refl _) _))
 have hn := Cel.new (w.setCell ⟨R, 2, none⟩ V) [.int .i64 k, .iface 348 (.pointer (some a))] 134
 rw [show (w.setCell ⟨R, 2, none⟩ V).heap.size = w.heap.size by simp [World.setCell]] at hn
 refine ⟨rfl, ⟨k, w.heap.size, hR, ?_, k, a, ha, hb, ?_, hn⟩, hG⟩
 ·rw [← hV]; exact (kr.set 2 V).alloc _
 ·obtain ⟨c, t, hc⟩ := hc
  exact ⟨c, t, by rw [hG.old hR hb]; exact hc⟩
theorem refuse_any (R A : Nat) (ts : List ByteArray) (aL a : Addr) (st : St) (w : World) (hR : R < w.heap.size) (h : Rdr w R A ts aL st) (ha : a ≠ aL) (hb : a.block < R) (hc : ∃ c t, w.heap[a.block]? = some (.cells c t (0, 0))) :
  Calls Tryz.prog 91 #[.pointer (some ⟨R, 0, none⟩), .iface 348 (.pointer (some a))] w fun e w' => e = .returned (.tuple #[]) ∧ Rdr w' R A ts aL none ∧ Grew R w w' := by
 cases st with
 | some l => exact refuse_ok R A ts l aL a w hR h ha hb hc
 | none => exact (refuse_bad R A ts aL _ w h).mono (by rintro e w' ⟨rfl, rfl⟩; exact ⟨rfl, h, Grew.refl _ _⟩)
theorem refuse_sen (R A : Nat) (ts : List ByteArray) (aL : Addr) (st : St) (g : Nat) (a : Addr) (w : World) (hR : R < w.heap.size) (h : Rdr w R A ts aL st) (ha : a ≠ aL) (hs : Sen R w g a) :
  Calls Tryz.prog 91 #[.pointer (some ⟨R, 0, none⟩), .iface 348 (.pointer (some a))] w fun e w' => e = .returned (.tuple #[]) ∧ Rdr w' R A ts aL none ∧ Grew R w w' :=
 refuse_any R A ts aL a st w hR h ha hs.2.1 hs.2.2.2
theorem next_bad (R A : Nat) (ts : List ByteArray) (aL : Addr) (w : World) (h : Rdr w R A ts aL none) :
  Calls Tryz.prog 144 #[.pointer (some ⟨R, 0, none⟩)] w fun e w' => e = .returned (.string eS) ∧ w' = w := by
 obtain ⟨k, p, hp, kr, -⟩ := h
 have c2 := kr.cell 2
 go_enter Tryz.func144, Tryz.ntmps144
 go_wp2
 go_ret
 exact ⟨rfl, rfl⟩
theorem next_end (R A : Nat) (ts : List ByteArray) (aL : Addr) (w : World) (hR : R < w.heap.size) (hS : Sens R w aL) (hT : TK R w A ts) (h : Rdr w R A ts aL (some [])) :
  Calls Tryz.prog 144 #[.pointer (some ⟨R, 0, none⟩)] w fun e w' => e = .returned (.string eS) ∧ Rdr w' R A ts aL none ∧ Grew R w w' := by
 obtain ⟨a, ha, hs⟩ := hS.2 9 (by simp)
 have HC := shut (fun w1 (b : Grew R w w1) (hr : Rdr w1 R A ts aL (some [])) => refuse_sen R A ts aL _ _ a w1 (Nat.lt_of_lt_of_le hR b.size) hr ha (hs.grew b hR))
 have HR := shut h
 obtain ⟨k, h1, h2, kr⟩ := h
 have hk : k = ts.length := by simpa using h1
 subst hk
 have c0 := kr.cell 0
 have c1 := kr.cell 1
 have c2 := kr.cell 2
 have cs := hs.2.2.1
 have hl := hT.2.1
 go_enter Tryz.func144, Tryz.ntmps144
 go_wp2_with fail
 go_region
 go_wp2_with (go_at_call 91; refine (HC.out _ Grew.drew' HR.out).mono ?_; rintro e w1 ⟨rfl, k1, g1⟩)
 go_ret
 exact ⟨rfl, k1, Grew.drew'.trans g1⟩
theorem next_more (R A : Nat) (ts l : List ByteArray) (t : ByteArray) (aL : Addr) (w : World) (hT : TK R w A ts) (h : Rdr w R A ts aL (some (t :: l))) :
  Calls Tryz.prog 144 #[.pointer (some ⟨R, 0, none⟩)] w fun e w' => e = .returned (.string t) ∧ Rdr w' R A ts aL (some l) ∧ Grew R w w' := by
 obtain ⟨k, h1, h2, kr⟩ := h
 have hk : k < ts.length := by simp at h1; omega
 have ht : nt ts k = t := by
  unfold nt
  have : ts[k]? = (ts.drop k)[0]? := by rw [List.getElem?_drop, Nat.add_zero]
  rw [List.getD_eq_getElem?_getD, this, h2]
  rfl
 have ct := hT.2.2.1 k hk
 rw [ht] at ct
 have hd : ts.drop (k + 1) = l := by rw [← List.drop_drop, h2]; rfl
 have hl := hT.2.1
 have hA : A ≠ R := Nat.ne_of_lt hT.1
 have c0 := kr.cell 0
 have c1 := kr.cell 1
 have c2 := kr.cell 2
 have f1 := Cel.frozen kr 1
 have hkk : ¬ (k : Int) = ts.length := by omega
 have hki : (k : Int) < ts.length := by omega
 clear h2
 go_enter Tryz.func144, Tryz.ntmps144
 go_wp2_with fail
 go_region
 go_wp2_with fail
 have kr2 := kr.set 1 (.int .i64 ((k : Int) + 1))
 have ct2 : (w.setCell ⟨R, 1, none⟩ (.int .i64 ((k : Int) + 1))).cell? ⟨A, k, none⟩ = some (.string t) := by
  rw [World.cell?_of_block (((Only.refl R w).setCell 1 _).block A hA)]
  exact ct
 have hG : Grew R w (w.setCell ⟨R, 1, none⟩ (.int .i64 ((k : Int) + 1))) := ((Only.refl R w).setCell 1 _).grew
 clear c0 c1 c2 f1 kr ct
 generalize w.setCell _ _ = w1 at *
 have c0 := kr2.cell 0
 have c1 := kr2.cell 1
 go_region
 go_wp2_with fail
 go_ret
 exact ⟨rfl, ⟨k + 1, by simp at h1; omega, hd, kr2⟩, (hG.trans Grew.drew').trans Grew.drew'⟩
theorem next_any (R A : Nat) (ts : List ByteArray) (aL : Addr) (st : St) (w : World) (hR : R < w.heap.size) (hS : Sens R w aL) (hT : TK R w A ts) (h : Rdr w R A ts aL st) :
  Calls Tryz.prog 144 #[.pointer (some ⟨R, 0, none⟩)] w fun e w' => e = .returned (.string (nx st).1) ∧ Rdr w' R A ts aL (nx st).2 ∧ Grew R w w' := by
 cases st with
 | none => exact (next_bad R A ts aL w h).mono (by rintro e w' ⟨rfl, rfl⟩; exact ⟨rfl, h, Grew.refl _ _⟩)
 | some l =>
  cases l with
  | nil => exact next_end R A ts aL w hR hS hT h
  | cons t l => exact next_more R A ts l t aL w hT h
structure Env (R A : Nat) (ts : List ByteArray) (aL : Addr) (w : World) : Prop where
 hR : R < w.heap.size
 sens : Sens R w aL
 tk : TK R w A ts
 tab : Tab w
 tabR : lays729_ren.g 1 < R
theorem Tab.grew {R : Nat} {w w' : World} (h : Tab w) (hg : lays729_ren.g 1 < R) (hR : R < w.heap.size) (k : Grew R w w') : Tab w' := fun j hj => by
 rw [k.oldc hR (by exact hg)]
 exact h j hj
theorem Env.grew {R A : Nat} {ts : List ByteArray} {aL : Addr} {w w' : World} (h : Env R A ts aL w) (k : Grew R w w') : Env R A ts aL w' :=
 ⟨Nat.lt_of_lt_of_le h.hR k.size, h.sens.grew k h.hR, h.tk.grew k h.hR, h.tab.grew h.tabR h.hR k, h.tabR⟩
theorem Rdr.grew {R A : Nat} {ts : List ByteArray} {aL : Addr} {st : St} {w w' : World} (h : Rdr w R A ts aL st) (hR : R < w.heap.size) (k : Below w.heap.size w w') : Rdr w' R A ts aL st := by
 cases st with
 | some l => obtain ⟨k0, h1, h2, h3⟩ := h; exact ⟨k0, h1, h2, h3.below k⟩
 | none =>
  obtain ⟨k0, p, h1, h2, z, a, h3, h4, h5, h6⟩ := h
  exact ⟨k0, p, h1, h2.below k, z, a, h3, h4, by rw [k.block _ (by omega)]; exact h5, h6.below k⟩
theorem Rdr.size {R A : Nat} {ts : List ByteArray} {aL : Addr} {st : St} {w : World} (h : Rdr w R A ts aL st) (hT : TK R w A ts) : (nx st).1.size ≤ 100000 := by
 cases st with
 | none => exact Nat.zero_le _
 | some l =>
  cases l with
  | nil => exact Nat.zero_le _
  | cons t l =>
   obtain ⟨k, h1, h2, -⟩ := h
   exact hT.2.2.2 t (List.mem_of_mem_drop (by rw [h2]; exact List.mem_cons_self))
def RC (R A : Nat) (ts : List ByteArray) (aL : Addr) (f : Nat) (xs : Array Value) (w : World) (st : St) (v : Value) (st' : St) : Prop :=
 Env R A ts aL w → Rdr w R A ts aL st → Calls Tryz.prog f xs w fun e w' => e = .returned v ∧ Rdr w' R A ts aL st' ∧ Grew R w w'
theorem next_rc (R A : Nat) (ts : List ByteArray) (aL : Addr) (st : St) (w : World) : RC R A ts aL 144 #[.pointer (some ⟨R, 0, none⟩)] w st (.string (nx st).1) (nx st).2 :=
 fun e h => next_any R A ts aL st w e.hR e.sens e.tk h
theorem word_rc (R A : Nat) (ts : List ByteArray) (aL : Addr) (st : St) (c : ByteArray) (w : World) : RC R A ts aL 84 #[.pointer (some ⟨R, 0, none⟩), .string c] w st (.tuple #[]) (wd c st) := by
 intro e h
 obtain ⟨a, ha, hs⟩ := e.sens.2 6 (by simp)
 have HN := shut (next_rc R A ts aL st w e h)
 have HC := shut (fun w1 (b : Grew R w w1) (st1 : St) (hr : Rdr w1 R A ts aL st1) => refuse_sen R A ts aL st1 _ a w1 (e.grew b).hR hr ha (hs.grew b e.hR))
 have HG := shut (fun w1 (b : Grew R w w1) => (hs.grew b e.hR).2.2.1)
 unfold wd
 generalize (nx st).1 = t at *
 generalize (nx st).2 = st' at *
 clear hs h e
 by_cases hc : t = c
 ·rw [if_pos hc]
  subst hc
  go_enter Tryz.func84, Tryz.ntmps84
  go_wp2_with (go_at_call 144; refine HN.out.mono ?_; rintro e w1 ⟨rfl, k1, g1⟩)
  go_end0
  exact ⟨rfl, k1, g1⟩
 ·rw [if_neg hc]
  have hq : (t.toList == c.toList) = false := by rw [toList_eq_iff]; simp [hc]
  go_enter Tryz.func84, Tryz.ntmps84
  go_wp2_with (first | (go_at_call 144; refine HN.out.mono ?_; rintro e w1 ⟨rfl, k1, g1⟩; have hv := HG.out w1 g1) | (go_at_call 91; refine (HC.out _ g1 _ k1).mono ?_; rintro e w2 ⟨rfl, k2, g2⟩))
  go_end0
  exact ⟨rfl, k2, g1.trans g2⟩
theorem dg3_at (t : ByteArray) (k n : Nat) (h : k < (byts t).length) : dg3 ((byts t).drop k) n = if lm (byts t) k < 48 ∨ 57 < lm (byts t) k then none else dg3 ((byts t).drop (k + 1)) (10 * n + (lm (byts t) k - 48)) := by
 rw [List.drop_eq_getElem_cons h, dg3]
 have e : (byts t)[k] = lm (byts t) k := by unfold lm; rw [List.getD_eq_getElem?_getD, List.getElem?_eq_getElem h]; rfl
 rw [e]
theorem countOf_any (t : ByteArray) (w : World) : Calls Tryz.prog 183 #[.string t] w fun e w' =>
  e = .returned (.tuple #[.int .i64 ((cof t).getD 0 : Nat), .bool (cof t).isSome]) ∧ Below w.heap.size w w' := by
 by_cases hb : t.size < 1 ∨ 3 < t.size ∨ (lm (byts t) 0 = 48 ∧ 1 < t.size)
 ·have e : cof t = none := by unfold cof; rw [if_pos hb]
  rw [e]
  by_cases h1 : t.size < 1
  ·go_enter Tryz.func183, Tryz.ntmps183
   go_wp2
   go_ret2
   exact ⟨rfl, Below.refl _ _⟩
  ·by_cases h2 : 3 < t.size
   ·go_enter Tryz.func183, Tryz.ntmps183
    go_wp2
    go_ret2
    exact ⟨rfl, Below.refl _ _⟩
   ·have h3 : lm (byts t) 0 = 48 ∧ 1 < t.size := by rcases hb with h | h | h <;> first | omega | exact h
    have hs : 0 < t.size := by omega
    have g1 : ((t[0]).toNat : Int) = 48 := by rw [byts_at t 0 hs, h3.1]; rfl
    have g3 : (t[0]).toNat = 48 := by omega
    have g2 : t[0] = 48 := UInt8.toNat.inj g3
    have g4 := h3.2
    clear hb h3
    go_enter Tryz.func183, Tryz.ntmps183
    go_wp2
    go_ret2
    exact ⟨rfl, Below.refl _ _⟩
 ·have e : cof t = dg3 ((byts t).drop 0) 0 := by unfold cof; rw [if_neg hb]; rfl
  rw [e]
  have g0 : ¬ (t.size : Int) < 1 := by omega
  have g1 : ¬ (t.size : Int) > 3 := by omega
  have hs : 0 < t.size := by omega
  have g9 : t.size ≤ 3 := by omega
  have gl : Hid ((byts t).length = t.size) := byts_length t
  have hcv := Lib.run_convert_string_bytes (P := Tryz.prog) w 9 55 5 t Tryz.underlying9 Tryz.underlying55 Tryz.underlying5
  have HC : Hid (∀ j, j < t.size → (Lib.bytesWorld w 5 t).cell? ⟨w.heap.size, j, none⟩ = some (.int .u8 (lm (byts t) j : Nat))) := fun j hj => by rw [Lib.bytesWorld_cell w 5 t j hj, byts_at' t j hj]
  have hbw := Below.bytes w 5 t
  generalize Lib.bytesWorld w 5 t = w1 at *
  obtain ⟨X, hX⟩ : ∃ X, X = dg3 ((byts t).drop 0) 0 := ⟨_, rfl⟩
  have HX := shut hX
  rw [← hX]
  clear hX e
  have g5 : (t[0] = 48 ∧ ¬ (t.size : Int) > 1 ∧ t.size ≤ 1) ∨ (¬ ((t[0]).toNat : Int) = 48 ∧ ¬ t[0] = 48) := by
   by_cases g2 : t[0] = 48
   ·have k : t.size ≤ 1 := Nat.le_of_not_lt fun h => hb (Or.inr (Or.inr ⟨?_, h⟩))
    ·exact Or.inl ⟨g2, by omega, k⟩
    have := byts_at t 0 hs
    rw [g2] at this
    exact this.symm
   ·exact Or.inr ⟨fun h => g2 (UInt8.toNat.inj (Int.ofNat.inj h)), g2⟩
  clear hb
  rcases g5 with ⟨k2, k3, k4⟩ | ⟨k1, k2⟩
  all_goals
   go_enter Tryz.func183, Tryz.ntmps183
   go_wp2
   go_loop [4, 28] (fun n i => ∃ k m : Nat, k ≤ t.size ∧ i = .int .i64 (k : Nat) ∧ n = .int .i64 (m : Nat) ∧ m < 10 ^ k ∧ Hid (X = dg3 ((byts t).drop k) m)) (fun _ i => t.size - (intOf i).toNat)
   case atStart => exact ⟨0, 0, Nat.zero_le _, rfl, rfl, by decide, HX⟩
   case round =>
    obtain ⟨k, m, hk, rfl, rfl, hm, HA⟩ := hrel
    have hm3 : m < 1000 := Nat.lt_of_lt_of_le hm (Nat.pow_le_pow_right (by decide) (by omega : k ≤ 3))
    by_cases hlt : k < t.size
    ·have q1 := HC.out k hlt
     have hlt' : (k : Int) < (t.size : Int) := by omega
     have hD := dg3_at t k m (by rw [gl.out]; exact hlt)
     by_cases hok : lm (byts t) k < 48 ∨ 57 < lm (byts t) k
     ·have hn : Hid (X = none) := by rw [if_pos hok, ← HA.out] at hD; exact hD
      generalize lm (byts t) k = x at q1 hok
      clear HA HC hD HX hm
      by_cases y1 : x < 48
      ·have y1' : (x : Int) < 48 := by omega
       go_wp2
       go_ret2
       exact ⟨by rw [hn.out]; rfl, hbw⟩
      ·have y1' : ¬ (x : Int) < 48 := by omega
       have y2' : (x : Int) > 57 := by omega
       go_wp2
       go_ret2
       exact ⟨by rw [hn.out]; rfl, hbw⟩
     ·have hp : 10 * m + (lm (byts t) k - 48) < 10 ^ (k + 1) := by rw [Nat.pow_succ]; omega
      rw [if_neg hok, ← HA.out] at hD
      have HD := shut hD
      clear hD hm HA HC HX
      generalize lm (byts t) k = x at q1 hok hp HD
      have y1 : ¬ (x : Int) < 48 := by omega
      have y2 : ¬ (x : Int) > 57 := by omega
      have HP := shut hp
      clear hok hp
      go_wp2
      go_round
      case rel => exact ⟨k + 1, 10 * m + (x - 48), by omega, by go_num, by congr 1; omega, HP.out, HD⟩
      case measure => simp [intOf]; omega
    ·have hke : k = t.size := by omega
     have hn : Hid (X = some m) := by rw [HA.out, List.drop_of_length_le (by rw [gl.out]; omega)]; rfl
     clear HA HC HX hm
     go_wp2
     go_ret2
     exact ⟨by rw [hn.out]; rfl, hbw⟩
abbrev vQ (q : Q3) : Value := (qa1 q.1 q.2.1 q.2.2)
abbrev vP (p : Q3 × Q3) : Value := (qa2 p.1.1 p.1.2.1 p.1.2.2 p.2.1 p.2.2.1 p.2.2.2)
abbrev vS (s : Nat × Nat × Bool) : Value := .agg #[.int .i64 (s.1 : Nat), .int .i64 (s.2.1 : Nat), .bool s.2.2]
def PR (P : ByteArray → Q3) (E : ByteArray → Int) : Prop := ∀ (t : ByteArray) (w : World), t.size ≤ 100000 → Tab w → Calls Tryz.prog 184 #[.string t] w fun e w' => e = .returned (.tuple #[vQ (P t), .int .i64 (E t)]) ∧ Below w.heap.size w w'
theorem dg3_lt : ∀ (l : List Nat) (n m k : Nat), dg3 l n = some m → n < 10 ^ k → m < 10 ^ (l.length + k)
 | [], n, m, k, h, hn => by
  simp [dg3] at h; subst h; simpa using hn
 | c :: l, n, m, k, h, hn => by
  rw [dg3] at h
  split at h
  ·cases h
  ·have := dg3_lt l _ m (k + 1) h (by rw [Nat.pow_succ]; omega)
   rw [List.length_cons, show l.length + 1 + k = l.length + (k + 1) by omega]
   exact this
theorem cof_lt {t : ByteArray} {n : Nat} (h : cof t = some n) : n < 1000 := by
 unfold cof at h
 split at h
 ·cases h
 ·rename_i hb
  have := dg3_lt _ _ n 0 h (by decide)
  rw [byts_length] at this
  exact Nat.lt_of_lt_of_le this (Nat.pow_le_pow_right (by decide) (by omega : t.size + 0 ≤ 3))
theorem count_rc (R A : Nat) (ts : List ByteArray) (aL : Addr) (st : St) (m : Int) (w : World) : RC R A ts aL 145 #[.pointer (some ⟨R, 0, none⟩), .int .i64 m] w st (.int .i64 (ct m st).1) (ct m st).2 := by
 intro e h
 obtain ⟨a, ha, hs⟩ := e.sens.2 10 (by simp)
 have HN := shut (next_rc R A ts aL st w e h)
 have HC := shut (fun w1 (b : Grew R w w1) (st1 : St) (hr : Rdr w1 R A ts aL st1) => refuse_sen R A ts aL st1 _ a w1 (e.grew b).hR hr ha (hs.grew b e.hR))
 have HG := shut (fun w1 (b : Grew R w w1) => (hs.grew b e.hR).2.2.1)
 have HE := shut (fun w1 (b : Grew R w w1) => (e.grew b).hR)
 have HL := shut (fun n => @cof_lt (nx st).1 n)
 unfold ct cof2
 generalize (nx st).1 = t at *
 generalize (nx st).2 = st' at *
 have HK := shut (countOf_any t)
 generalize cof t = c at *
 clear hs h e
 cases c with
 | none =>
  simp only [Option.getD_none, Option.isSome_none] at HK
  show Calls _ _ _ _ fun e w' => e = .returned (.int .i64 0) ∧ _
  go_enter Tryz.func145, Tryz.ntmps145
  go_wp2_with (first | (go_at_call 144; refine HN.out.mono ?_; rintro e w1 ⟨rfl, k1, g1⟩) | (go_at_call 183; refine (HK.out _).mono ?_; rintro e w2 ⟨rfl, b2⟩; have hv := HG.out w2 (g1.trans (Below.grew b2))) | (go_at_call 91; refine (HC.out _ (g1.trans (Below.grew b2)) _ (Rdr.grew k1 (HE.out _ g1) b2)).mono ?_; rintro e w3 ⟨rfl, k2, g2⟩))
  go_ret
  exact ⟨rfl, k2, (g1.trans (Below.grew b2)).trans g2⟩
 | some n =>
  simp only [Option.getD_some, Option.isSome_some] at HK
  have hn := HL.out n rfl
  by_cases hm : (n : Int) ≤ m
  ·have e1 : (Option.some n).filter (fun n : Nat => decide ((n : Int) ≤ m)) = some n := by simp [Option.filter, hm]
   rw [e1]
   have hm' : ¬ (n : Int) > m := by omega
   show Calls _ _ _ _ fun e w' => e = .returned (.int .i64 (n : Nat)) ∧ _
   go_enter Tryz.func145, Tryz.ntmps145
   go_wp2_with (first | (go_at_call 144; refine HN.out.mono ?_; rintro e w1 ⟨rfl, k1, g1⟩) | (go_at_call 183; refine (HK.out _).mono ?_; rintro e w2 ⟨rfl, b2⟩; have hv := HG.out w2 (g1.trans (Below.grew b2))))
   go_ret
   exact ⟨rfl, Rdr.grew k1 (HE.out _ g1) b2, g1.trans (Below.grew b2)⟩
  ·have e1 : (Option.some n).filter (fun n : Nat => decide ((n : Int) ≤ m)) = none := by simp [Option.filter, hm]
   rw [e1]
   have hm' : (n : Int) > m := by omega
   show Calls _ _ _ _ fun e w' => e = .returned (.int .i64 0) ∧ _
   go_enter Tryz.func145, Tryz.ntmps145
   go_wp2_with (first | (go_at_call 144; refine HN.out.mono ?_; rintro e w1 ⟨rfl, k1, g1⟩) | (go_at_call 183; refine (HK.out _).mono ?_; rintro e w2 ⟨rfl, b2⟩; have hv := HG.out w2 (g1.trans (Below.grew b2))) | (go_at_call 91; refine (HC.out _ (g1.trans (Below.grew b2)) _ (Rdr.grew k1 (HE.out _ g1) b2)).mono ?_; rintro e w3 ⟨rfl, k2, g2⟩))
   go_ret
   exact ⟨rfl, k2, (g1.trans (Below.grew b2)).trans g2⟩
theorem Rdr.put {R A : Nat} {ts : List ByteArray} {aL : Addr} {st : St} {w : World} (h : Rdr w R A ts aL st) {g : Nat} {cs : List Value} {t : TypeId} (hc : Cel w g cs t) (hg : R < g) (ht : t ≠ 134) (j : Nat) (v : Value) :
  Rdr (w.setCell ⟨g, j, none⟩ v) R A ts aL st := by
 have ho := (Only.refl g w).setCell j v
 cases st with
 | some l => obtain ⟨k0, h1, h2, h3⟩ := h; exact ⟨k0, h1, h2, h3.other (by omega) j v⟩
 | none =>
  obtain ⟨k0, p, h1, h2, z, a, h3, h4, h5, h6⟩ := h
  have hp : p ≠ g := by
   rintro rfl
   have := (Option.some.inj (h6.symm.trans hc))
   injection this with _ e _
   exact ht e.symm
  exact ⟨k0, p, h1, h2.other (by omega) j v, z, a, h3, h4, by rw [ho.block _ (by omega)]; exact h5, h6.other hp j v⟩
theorem Rdr.put3 {R A : Nat} {ts : List ByteArray} {aL : Addr} {st : St} {w : World} (h : Rdr w R A ts aL st) {g : Nat} {x y z : Value} {t : TypeId} (hc : Cel w g [x, y, z] t) (hg : R < g) (ht : t ≠ 134) (u v r : Value) :
  Rdr (((w.setCell ⟨g, 0, none⟩ u).setCell ⟨g, 1, none⟩ v).setCell ⟨g, 2, none⟩ r) R A ts aL st :=
 ((h.put hc hg ht 0 u).put (hc.set 0 u) hg ht 1 v).put ((hc.set 0 u).set 1 v) hg ht 2 r
theorem Grew.put3 {R : Nat} {w w' : World} (h : Grew R w w') {g : Nat} (hg : w.heap.size ≤ g) (u v r : Value) :
  Grew R w (((w'.setCell ⟨g, 0, none⟩ u).setCell ⟨g, 1, none⟩ v).setCell ⟨g, 2, none⟩ r) :=
 h.only ((((Only.refl g w').setCell 0 u).setCell 1 v).setCell 2 r) hg
theorem number_rc (P : ByteArray → Q3) (E : ByteArray → Int) (hP : PR P E) (R A : Nat) (ts : List ByteArray) (aL : Addr) (st : St) (w : World) : RC R A ts aL 146 #[.pointer (some ⟨R, 0, none⟩)] w st (vQ (nu P E st).1) (nu P E st).2 := by
 intro e h
 obtain ⟨a, ha, hs⟩ := e.sens.2 11 (by simp)
 have hz := h.size e.tk
 have HN := shut (fun w1 (b : Below w.heap.size w w1) => next_rc R A ts aL st w1 (e.grew (Below.grew b)) (h.grew e.hR b))
 have HC := shut (fun w1 (b : Grew R w w1) (st1 : St) (hr : Rdr w1 R A ts aL st1) => refuse_sen R A ts aL st1 _ a w1 (e.grew b).hR hr ha (hs.grew b e.hR))
 have HG := shut (fun w1 (b : Grew R w w1) => (hs.grew b e.hR).2.2.1)
 have HT := shut (fun w1 (b : Grew R w w1) => hP (nx st).1 w1 hz (e.grew b).tab)
 have HE := shut (fun w1 (b : Grew R w w1) => (e.grew b).hR)
 have hR := e.hR
 unfold nu
 generalize (nx st).1 = t at *
 generalize (nx st).2 = st' at *
 generalize P t = q at *
 obtain ⟨qn, qs, qd⟩ := q
 generalize E t = c at *
 obtain ⟨u, hu⟩ : ∃ u, u = if c = 0 then st' else none := ⟨_, rfl⟩
 have HU := shut hu
 simp only [← hu]
 clear hs h e hu
 go_enter Tryz.func146, Tryz.ntmps146
 go_wp2_with fail
 obtain ⟨w0, hq, kr, b0⟩ := mk1 w (ql1 false eS eS) 26
 rw [← hq]
 clear hq
 go_upto_region 2 with (first | (go_at_call 144; refine (HN.out _ b0).mono ?_; rintro e w1 ⟨rfl, k1, g1⟩) | (go_at_call 184; refine (HT.out _ ((Below.grew b0).trans g1)).mono ?_; rintro e w2 ⟨rfl, b2⟩))
 obtain ⟨w3, hq, kx, b3⟩ := mk1 w2 (ql1 qn qs qd) 26
 rw [← hq]
 clear hq
 have G3 : Grew R w w3 := ((Below.grew b0).trans g1).trans (Below.grew (Below.after b2 b3))
 have k3 := Rdr.grew k1 (HE.out w1 ((Below.grew b0).trans g1)) (Below.after b2 b3)
 have kr3 := (Grew.cel g1 kr (by omega)).below (Below.after b2 b3)
 have hv := HG.out w3 G3
 have sz := kx.lt
 have hg2 : w.heap.size < w2.heap.size := Nat.lt_of_lt_of_le (Nat.lt_of_lt_of_le kr.lt g1.size) b2.size
 clear kr b0 g1 k1 b2 b3 HN HT HG
 by_cases hc : c = 0
 ·have HQ : Hid (u = st') := by rw [HU.out, if_pos hc]; rfl
  have x0 := kx.cell 0
  have x1 := kx.cell 1
  have x2 := kx.cell 2
  have f0 := Cel.frozen kr3 0
  have f1 := Cel.frozen kr3 1
  have f2 := Cel.frozen kr3 2
  have y0 := kr3.cell 0
  have y1 := kr3.cell 1
  have y2 := kr3.cell 2
  go_wp2_with fail
  exact post_q (p := 2) (by kernel_rfl) rfl rfl (((kr3.set 0 _).set 1 _).set 2 _) ⟨rfl, by rw [HQ.out]; exact k3.put3 kr3 hR (by decide) _ _ _, G3.put3 (Nat.le_refl _) _ _ _⟩
 ·have HQ : Hid (u = none) := by rw [HU.out, if_neg hc]; rfl
  go_upto_region 4 with (go_at_call 91; refine (HC.out _ G3 _ k3).mono ?_; rintro e w4 ⟨rfl, k4, g4⟩)
  have kr4 := Grew.cel g4 kr3 (by omega)
  have kx4 := Grew.cel g4 kx (by omega)
  clear kr3 kx hv
  have x0 := kx4.cell 0
  have x1 := kx4.cell 1
  have x2 := kx4.cell 2
  have f0 := Cel.frozen kr4 0
  have f1 := Cel.frozen kr4 1
  have f2 := Cel.frozen kr4 2
  have y0 := kr4.cell 0
  have y1 := kr4.cell 1
  have y2 := kr4.cell 2
  go_wp2_with fail
  exact post_q (p := 2) (by kernel_rfl) rfl rfl (((kr4.set 0 _).set 1 _).set 2 _) ⟨rfl, by rw [HQ.out]; exact k4.put3 kr4 hR (by decide) _ _ _, (G3.trans g4).put3 (Nat.le_refl _) _ _ _⟩
theorem Only.setRow {g : Nat} {a w : World} (h : Only g a w) (cs : Array Value) : Only g a (w.setRow g cs) :=
 h.trans ⟨rfl, rfl, rfl, by simp [World.setRow], fun k hk => by simp only [World.setRow, Array.getElem?_modify]; rw [if_neg (by omega)]⟩
theorem Cel.rowS {w : World} {g : Nat} {cs : List Value} {t : TypeId} (h : Cel w g cs t) (ds : List Value) : Cel (w.setRow g ds.toArray) g ds t := setRow_heap w g cs.toArray ds.toArray t (0, 0) h
theorem Only.cel {g g' : Nat} {w w' : World} {cs : List Value} {t : TypeId} (k : Only g w w') (h : Cel w g' cs t) (hn : g' ≠ g) : Cel w' g' cs t := by
 unfold Cel at h ⊢
 rw [k.block g' hn]
 exact h
theorem Rdr.row {R A : Nat} {ts : List ByteArray} {aL : Addr} {st : St} {w : World} (h : Rdr w R A ts aL st) {g : Nat} {cs : List Value} {t : TypeId} (hc : Cel w g cs t) (hg : R < g) (ht : t ≠ 134) (ds : Array Value) :
  Rdr (w.setRow g ds) R A ts aL st := by
 have ho := (Only.refl g w).setRow ds
 cases st with
 | some l => obtain ⟨k0, h1, h2, h3⟩ := h; exact ⟨k0, h1, h2, ho.cel h3 (by omega)⟩
 | none =>
  obtain ⟨k0, p, h1, h2, z, a, h3, h4, h5, h6⟩ := h
  have hp : p ≠ g := by
   rintro rfl
   have := (Option.some.inj (h6.symm.trans hc))
   injection this with _ e _
   exact ht e.symm
  exact ⟨k0, p, h1, ho.cel h2 (by omega), z, a, h3, h4, by rw [ho.block _ (by omega)]; exact h5, ho.cel h6 hp⟩
theorem Grew.row {R : Nat} {w w' : World} (h : Grew R w w') {g : Nat} (hg : w.heap.size ≤ g) (ds : Array Value) : Grew R w (w'.setRow g ds) := h.only ((Only.refl g w').setRow ds) hg
theorem post_pt {fn : Func} {p : Tmp} {R : Ending → World → Prop} {a : Act} {w : World} {g : Nat} {x y z x' y' z' : Value} (h : fn.results = #[.cell p 30]) (hp : a.tmps.getD p undef = .pointer (some ⟨g, 0, none⟩)) (hd : a.defers = [])
  (hc : Cel w g [x, y, z, x', y', z'] 30) (hR : R (.returned (.agg #[x, y, z, x', y', z'])) w) : bodyPost Tryz.prog fn R .ret a w :=
 ⟨hd, .agg #[x, y, z, x', y', z'], results_cell_row (P := Tryz.prog) h _ w g 30 #[x, y, z, x', y', z'] (0, 0) _ hp hc Tryz.underlying30 rfl (by kernel_rfl), hR⟩
theorem point_rc (P : ByteArray → Q3) (E : ByteArray → Int) (hP : PR P E) (R A : Nat) (ts : List ByteArray) (aL : Addr) (st : St) (w : World) : RC R A ts aL 86 #[.pointer (some ⟨R, 0, none⟩)] w st (vP (pt P E st).1) (pt P E st).2 := by
 intro e h
 have hR := e.hR
 have HN := shut (fun w1 st1 (b : Grew R w w1) (hr : Rdr w1 R A ts aL st1) => number_rc P E hP R A ts aL st1 w1 (e.grew b) hr)
 have HR := shut (fun w1 (b : Grew R w w1) => (e.grew b).hR)
 have H0 := shut (fun w1 (b : Below w.heap.size w w1) => h.grew e.hR b)
 unfold pt
 have h1 := HN.out
 obtain ⟨q, hq⟩ : ∃ q, q = (nu P E st).1 := ⟨_, rfl⟩
 obtain ⟨st1, hs1⟩ : ∃ q, q = (nu P E st).2 := ⟨_, rfl⟩
 obtain ⟨r, hr⟩ : ∃ q, q = (nu P E st1).1 := ⟨_, rfl⟩
 obtain ⟨st2, hs2⟩ : ∃ q, q = (nu P E st1).2 := ⟨_, rfl⟩
 have N1 := shut (fun w1 (b : Grew R w w1) (k : Rdr w1 R A ts aL st) => HN.out w1 st b k)
 have N2 := shut (fun w1 (b : Grew R w w1) (k : Rdr w1 R A ts aL st1) => HN.out w1 st1 b k)
 rw [← hq, ← hs1] at N1
 rw [← hr, ← hs2] at N2
 rw [← hq, ← hs1, ← hr, ← hs2]
 clear hq hr hs1 hs2 HN e h h1
 obtain ⟨qn, qs, qd⟩ := q
 obtain ⟨rn, rs, rd⟩ := r
 go_enter Tryz.func86, Tryz.ntmps86
 go_wp2_with fail
 obtain ⟨w0, hq, kr, b0⟩ := mk1 w (ql2 false eS eS false eS eS) 30
 rw [← hq]
 clear hq
 go_upto_region 2 with (go_at_call 146; refine (N1.out _ (Below.grew b0) (H0.out _ b0)).mono ?_; rintro e w1 ⟨rfl, k1, g1⟩)
 obtain ⟨w2, hq, kx, b2⟩ := mk1 w1 (ql1 qn qs qd) 26
 rw [← hq]
 clear hq
 have G1 := (Below.grew b0).trans g1
 have G2 : Grew R w w2 := G1.trans (Below.grew b2)
 have k2 := Rdr.grew k1 (HR.out _ G1) b2
 have kr2 := (Grew.cel g1 kr (by omega)).below b2
 have hg2 : w.heap.size < w1.heap.size := Nat.lt_of_lt_of_le kr.lt g1.size
 clear kr b0 g1 k1 b2 G1
 go_upto_region 3 with (go_at_call 146; refine (N2.out _ G2 k2).mono ?_; rintro e w3 ⟨rfl, k3, g3⟩)
 obtain ⟨w4, hq, ky, b4⟩ := mk1 w3 (ql1 rn rs rd) 26
 rw [← hq]
 clear hq
 have G3 := G2.trans g3
 have k4 := Rdr.grew k3 (HR.out _ G3) b4
 have kr4 := (Grew.cel g3 kr2 (by omega)).below b4
 have kx4 := (Grew.cel g3 kx (by omega)).below b4
 have G4 := G3.trans (Below.grew b4)
 clear kr2 kx g3 k3 b4 G3 G2 k2
 go_wp2_with (first | (refine wpList_load_row rfl 26 _ rfl _ rfl 26 _ (0, 0) _ kx4 Tryz.underlying26 rfl (by kernel_rfl) ?_) | (refine wpList_load_row rfl 26 _ rfl _ rfl 26 _ (0, 0) _ ky Tryz.underlying26 rfl (by kernel_rfl) ?_) | (refine wpList_store_row rfl 30 _ _ rfl _ (qv2 qn qs qd rn rs rd) rfl rfl 30 _ kr4 (by kernel_rfl) rfl (by kernel_rfl) ?_))
 exact post_pt (p := 2) (by kernel_rfl) rfl rfl (kr4.rowS _) ⟨rfl, k4.row kr4 hR (by decide) _, G4.row (Nat.le_refl _) _⟩
def qx (q : Q3) (j : Nat) : Value := if j = 0 then .bool q.1 else if j = 1 then .string q.2.1 else .string q.2.2
def fx (x : Nat → Q3) (k j : Nat) : Value := if j / 3 < k then qx (x (j / 3)) (j % 3) else qx (false, eS, eS) (j % 3)
def f18 (x : Nat → Q3) (k : Nat) : List Value := (List.range 18).map (fx x k)
theorem f18_get (x : Nat → Q3) (k j : Nat) (h : j < 18) : (f18 x k)[j]? = some (fx x k j) := by
 unfold f18
 rw [List.getElem?_map, List.getElem?_range h]
 rfl
theorem f18_set (x : Nat → Q3) (k : Nat) (hk : k < 6) : (((f18 x k).set (k * 3) (.bool (x k).1)).set (k * 3 + 1) (.string (x k).2.1)).set (k * 3 + 2) (.string (x k).2.2) = f18 x (k + 1) := by
 apply List.ext_getElem?
 intro j
 rcases Nat.lt_or_ge j 18 with hj | hj
 ·rw [f18_get x (k + 1) j hj, List.getElem?_set, List.getElem?_set, List.getElem?_set, f18_get x k j hj]
  have hl : (f18 x k).length = 18 := by simp [f18]
  simp only [List.length_set, hl]
  by_cases h2 : k * 3 + 2 = j
  ·rw [if_pos h2, if_pos (by omega)]; subst h2; unfold fx qx
   rw [if_pos (by omega), if_neg (by omega), if_neg (by omega), show (k * 3 + 2) / 3 = k by omega]
  ·rw [if_neg h2]
   by_cases h1 : k * 3 + 1 = j
   ·rw [if_pos h1, if_pos (by omega)]; subst h1; unfold fx qx
    rw [if_pos (by omega), if_neg (by omega), if_pos (by omega), show (k * 3 + 1) / 3 = k by omega]
   ·rw [if_neg h1]
    by_cases h0 : k * 3 = j
    ·rw [if_pos h0, if_pos (by omega)]; subst h0; unfold fx qx
     rw [if_pos (by omega), if_pos (by omega), show (k * 3) / 3 = k by omega]
    ·rw [if_neg h0]
     have e : (j / 3 < k) = (j / 3 < k + 1) := by
      have : j / 3 ≠ k := by omega
      apply propext; omega
     unfold fx
     simp only [e]
 ·have h1 : ∀ k, (f18 x k)[j]? = none := fun k => List.getElem?_eq_none (by simpa [f18] using hj)
  rw [h1, List.getElem?_eq_none (by simpa [f18] using hj)]
theorem rep6 (f : St → Q3 × St) (s : St) : ∃ (x : Nat → Q3) (t : Nat → St), t 0 = s ∧ (∀ k, k < 6 → f (t k) = (x k, t (k + 1))) ∧ (rep f 6 s).1 = [x 0, x 1, x 2, x 3, x 4, x 5] ∧ (rep f 6 s).2 = t 6 :=
 ⟨fun k => (f (rep f k s).2).1, fun k => (rep f k s).2, rfl, fun k _ => by show _ = (_, (rep f (k + 1) s).2); rw [rep_snoc], rfl, rfl⟩
def vF (x : Nat → Q3) : Value := .agg #[.bool (x 0).1, .string (x 0).2.1, .string (x 0).2.2, .bool (x 1).1, .string (x 1).2.1, .string (x 1).2.2, .bool (x 2).1, .string (x 2).2.1, .string (x 2).2.2, .bool (x 3).1, .string (x 3).2.1, .string (x 3).2.2, .bool (x 4).1, .string (x 4).2.1, .string (x 4).2.2, .bool (x 5).1, .string (x 5).2.1, .string (x 5).2.2]
theorem poly_rc (P : ByteArray → Q3) (E : ByteArray → Int) (hP : PR P E) (R A : Nat) (ts : List ByteArray) (aL : Addr) (st : St) (c : ByteArray) (w : World) (x : Nat → Q3) (t : Nat → St) (ht0 : t 0 = wd c st) (ht : ∀ k, k < 6 → nu P E (t k) = (x k, t (k + 1))) :
  RC R A ts aL 90 #[.pointer (some ⟨R, 0, none⟩), .string c] w st (vF x) (t 6) := by
 intro e h
 have hR := e.hR
 have HW := shut (fun w1 (b : Below w.heap.size w w1) => word_rc R A ts aL st c w1 (e.grew (Below.grew b)) (h.grew e.hR b))
 rw [← ht0] at HW
 have HN := shut (fun (k : Nat) (hk : k < 6) w1 (b : Grew R w w1) (hr : Rdr w1 R A ts aL (t k)) => by
  have := number_rc P E hP R A ts aL (t k) w1 (e.grew b) hr
  rw [ht k hk] at this
  exact this)
 clear h e ht ht0
 go_enter Tryz.func90, Tryz.ntmps90
 go_upto_region 1 with fail
 obtain ⟨w0, hq, kr, b0⟩ := mk1 w (ql6 false eS eS false eS eS false eS eS false eS eS false eS eS false eS eS) 28
 rw [← hq]
 clear hq
 go_upto_region 2 with (go_at_call 84; refine (HW.out _ b0).mono ?_; rintro e w1 ⟨rfl, k1, g1⟩)
 go_upto_region 3 with fail
 obtain ⟨w2, hq, kf, b2⟩ := mk1 w1 (ql6 false eS eS false eS eS false eS eS false eS eS false eS eS false eS eS) 28
 rw [← hq]
 clear hq
 obtain ⟨g, hg⟩ : ∃ g, g = w1.heap.size := ⟨_, rfl⟩
 rw [← hg] at kf ⊢
 have kf : Cel w2 g (f18 x 0) 28 := kf
 have hg2 : w.heap.size < g := by rw [hg]; exact Nat.lt_of_lt_of_le kr.lt g1.size
 have G2 := ((Below.grew b0).trans g1).trans (Below.grew b2)
 have k2 := Rdr.grew k1 (Nat.lt_of_lt_of_le hR ((Below.grew b0).trans g1).size) b2
 have kr2 := (Grew.cel g1 kr (by omega)).below b2
 clear kr b0 g1 k1 b2 hg HW
 go_wp2_with fail
 go_loopw [11] (fun i wr => ∃ k : Nat, k ≤ 6 ∧ i = .int .i64 (k : Nat) ∧ Cel wr g (f18 x k) 28 ∧ Cel wr w.heap.size (ql6 false eS eS false eS eS false eS eS false eS eS false eS eS false eS eS) 28 ∧ Rdr wr R A ts aL (t k) ∧ Grew R w wr) (fun i _ => 6 - (intOf i).toNat)
 case atStart => exact ⟨0, Nat.zero_le _, rfl, kf, kr2, k2, G2⟩
 case round =>
  obtain ⟨k, hk, rfl, kf, kr, kk, G⟩ := hrel
  by_cases hlt : k < 6
  ·have hlt' : (k : Int) < 6 := by omega
   have N1 := HN.out k hlt wr G kk
   have HS := shut (f18_set x k hlt)
   generalize x k = q at *
   obtain ⟨qn, qs, qd⟩ := q
   go_wp2_with (go_at_call 146; refine N1.mono ?_; rintro e w3 ⟨rfl, k3, g3⟩; have kf3 := Grew.cel g3 kf (by omega); have c0 : w3.cell? ⟨g, k * 3, none⟩ = some (fx x k (k * 3)) := (kf3.cell _).trans (f18_get x k _ (by omega)); have c1 : w3.cell? ⟨g, k * 3 + 1, none⟩ = some (fx x k (k * 3 + 1)) := (kf3.cell _).trans (f18_get x k _ (by omega)); have c2 : w3.cell? ⟨g, k * 3 + 2, none⟩ = some (fx x k (k * 3 + 2)) := (kf3.cell _).trans (f18_get x k _ (by omega)); have f0 := Cel.frozen kf3 (k * 3); have f1 := Cel.frozen kf3 (k * 3 + 1); have f2 := Cel.frozen kf3 (k * 3 + 2))
   go_roundw
   case rel =>
    have kr3 := Grew.cel g3 kr (by omega)
    refine ⟨k + 1, by omega, by go_num, ?_, ?_, ?_, ?_⟩
    ·rw [← HS.out]; exact ((kf3.set _ _).set _ _).set _ _
    ·exact ((kr3.other (by omega) _ _).other (by omega) _ _).other (by omega) _ _
    ·exact ((k3.put kf3 (by omega) (by decide) _ _).put (kf3.set _ _) (by omega) (by decide) _ _).put ((kf3.set _ _).set _ _) (by omega) (by decide) _ _
    ·exact (G.trans g3).only ((((Only.refl g w3).setCell _ _).setCell _ _).setCell _ _) (by omega)
   case measure => simp [intOf]; omega
  ·have hke : k = 6 := by omega
   subst hke
   go_upto_region 8 with fail
   go_wp2_with (first | (refine wpList_load_row rfl 28 _ rfl _ rfl 28 _ (0, 0) _ kf Tryz.underlying28 rfl (by kernel_rfl) ?_) | (refine wpList_store_row rfl 28 _ _ rfl _ (f18 x 6).toArray rfl rfl 28 _ kr (by kernel_rfl) rfl (by kernel_rfl) ?_))
   refine ⟨rfl, vF x, results_cell_row (P := Tryz.prog) (p := 4) (by kernel_rfl) _ _ _ 28 (f18 x 6).toArray (0, 0) _ rfl (kr.rowS _) Tryz.underlying28 rfl (by kernel_rfl), ⟨rfl, kk.row kr hR (by decide) _, G.row (Nat.le_refl _) _⟩⟩
theorem own_grew {R B : Nat} {w w' : World} {e : TypeId} {size n : Nat} {v : Value} {xs : List Value} (h : w.ownsRow B e size v n xs) (k : Grew R w w') (hB : R < B) : w'.ownsRow B e size v n xs := by
 obtain ⟨h1, h2⟩ := h
 refine ⟨h1, ?_⟩
 rcases h2 with h2 | ⟨g, cap, cur, h3, h4, h5, h6⟩
 ·exact .inl h2
 ·refine .inr ⟨g, cap, cur, h3, h4, ?_, h6⟩
  have hl : g < w.heap.size := by
   rcases Nat.lt_or_ge g w.heap.size with h | h
   ·exact h
   ·rw [Array.getElem?_eq_none h] at h5; cases h5
  rw [k.block g hl (by omega)]
  exact h5
theorem Grew.grown {R : Nat} {w w1 w2 : World} {row : Option Nat} (h : Grew R w w1) (hg : w1.grownBy w2 row) (hr : ∀ k, row = some k → w.heap.size ≤ k) : Grew R w w2 :=
 ⟨hg.os.trans h.os, hg.tape.trans h.tape, hg.output.trans h.output, Nat.le_trans h.size hg.size, fun i hi hn => (hg.block i (Nat.lt_of_lt_of_le hi h.size) (fun e => by have := hr i e.symm; omega)).trans (h.block i hi hn)⟩
theorem Rdr.grown {R A : Nat} {ts : List ByteArray} {aL : Addr} {st : St} {w w' : World} (h : Rdr w R A ts aL st) {B : Nat} {e : TypeId} {size n : Nat} {v : Value} {xs : List Value} (ho : w.ownsRow B e size v n xs) (hB : R < B) (he : e ≠ 134) (hg : w.grownBy w' v.ownBlock) : Rdr w' R A ts aL st := by
 have hne : ∀ k, some k = v.ownBlock → B ≤ k ∧ ∃ cur, w.heap[k]? = some (.cells cur e (0, 0)) := fun k hk => by
  rcases ho.2 with ⟨rfl, -⟩ | ⟨g, cap, cur, rfl, h4, h5, -⟩
  ·cases hk
  ·injection hk with hk; subst hk; exact ⟨h4, cur, h5⟩
 have hc : ∀ {g : Nat} {cs : List Value} {t : TypeId}, Cel w g cs t → (g < B ∨ t ≠ e) → Cel w' g cs t := fun {g cs t} hc hd => by
  unfold Cel at hc ⊢
  rw [hg.block g (Cel.lt hc) (fun e1 => by
   obtain ⟨h1, cur, h2⟩ := hne g e1
   rcases hd with hd | hd
   ·omega
   ·rw [h2] at hc
    injection hc with hc
    injection hc with _ hc _
    exact hd hc.symm)]
  exact hc
 cases st with
 | some l => obtain ⟨k0, h1, h2, h3⟩ := h; exact ⟨k0, h1, h2, hc h3 (Or.inl hB)⟩
 | none =>
  obtain ⟨k0, p, h1, h2, z, a, h3, h4, ⟨c, t, h5⟩, h6⟩ := h
  refine ⟨k0, p, h1, hc h2 (Or.inl hB), z, a, h3, h4, ⟨c, t, ?_⟩, hc h6 (Or.inr (Ne.symm he))⟩
  have hl : a.block < w.heap.size := by
   rcases Nat.lt_or_ge a.block w.heap.size with h | h
   ·exact h
   ·rw [Array.getElem?_eq_none h] at h5; cases h5
  rw [hg.block _ hl (fun e1 => by have := (hne _ e1).1; omega)]
  exact h5
theorem wpList_ap1 {w : World} {ops : Array Oper} {rest : List Oper} {o : Oper} {a : Act} {Q : Exit → Act → World → Prop} (T e : TypeId) (z : Value) (size bytes : Nat)
  (hT : Tryz.prog.underlying T = some (.slice e)) (hi : (Tryz.prog.info? e).map (fun i => (i.zero, i.size, i.bytes)) = some (some z, size, bytes)) (hzs : z.cells.size = size) (hsz : 0 < size) (hbs : bytes ≤ 1000)
  (hgd : o.guard = none) (s x : Operand) (hop : o.op = Op.call { callee := Callee.builtin Builtin.append, args := #[s, x], argTypes := #[T, T] })
  (sv : Value) (n : Nat) (xs : List Value) (hs : a.eval s = sv) (B : Nat) (hown : w.ownsRow B e size sv n xs) (hB : B ≤ w.heap.size) (b c : Nat) (hx : a.eval x = .slice (some ⟨b, 0, none⟩) 1 c)
  (cs : List Value) (t : TypeId) (hc : Cel w b cs t) (hl : cs.length = size) (h1 : ∀ u ∈ cs, u.oneCell' = true) (hn : n ≤ 1000000)
  (hK : ∀ v' w', w'.ownsRow B e size v' (n + 1) (xs ++ cs) → w.grownBy w' sv.ownBlock → wpList Tryz.prog ops Q rest (a.put o.dst v') w') :
  wpList Tryz.prog ops Q (o :: rest) a w := by
 obtain ⟨i0, hi, hz0, hz1, hz2⟩ := info_parts hi
 refine wpList_append_own w hgd s x T hop B e i0 z size bytes hT hi hz0 hz1 hz2 hzs hsz sv n xs hs hown ⟨b, 0, none⟩ 1 c cs hx (by rw [hl, Nat.one_mul]) (fun j u hj => ?_) h1 (by unfold maxLen; omega) ?_ hB (fun v' w' h2 h3 _ => hK v' w' h2 h3)
 ·rw [show (⟨b, 0, none⟩ : Addr).add j = ⟨b, j, none⟩ by simp [Addr.add]; omega, hc.cell j]
  exact hj
 ·exact Nat.le_trans (Nat.mul_le_mul (by omega : n + 1 ≤ 1000001) hbs) (by decide)
def cP (p : Q3 × Q3) : List Value := (ql2 p.1.1 p.1.2.1 p.1.2.2 p.2.1 p.2.2.1 p.2.2.2)
def cS (s : Nat × Nat × Bool) : List Value := [.int .i64 (s.1 : Nat), .int .i64 (s.2.1 : Nat), .bool s.2.2]
theorem ct_lt (m : Int) (st : St) : (ct m st).1 < 1000 := by
 unfold ct
 split
 ·rename_i n h
  unfold cof2 at h
  rw [Option.filter_eq_some_iff] at h
  exact cof_lt h.1
 ·exact Nat.zero_lt_succ _
theorem listP_rc (P : ByteArray → Q3) (E : ByteArray → Int) (hP : PR P E) (R A : Nat) (ts : List ByteArray) (aL : Addr) (st : St) (c : ByteArray) (m : Int) (w : World) (e : Env R A ts aL w) (h : Rdr w R A ts aL st) :
  Calls Tryz.prog 85 #[.pointer (some ⟨R, 0, none⟩), .string c, .int .i64 m, .func (.func 86) #[.pointer (some ⟨R, 0, none⟩)] #[]] w fun e w' => ∃ v, e = .returned v ∧
   w'.ownsRow w.heap.size 30 6 v (lsP (pt P E) c m st).1.length ((lsP (pt P E) c m st).1.flatMap cP) ∧ Rdr w' R A ts aL (lsP (pt P E) c m st).2 ∧ Grew R w w' := by
 have HW := shut (word_rc R A ts aL st c w e h)
 have HC := shut (fun w1 (b : Grew R w w1) (hr : Rdr w1 R A ts aL (wd c st)) => count_rc R A ts aL (wd c st) m w1 (e.grew b) hr)
 have hn := ct_lt m (wd c st)
 have HN := shut (fun w1 st1 (b : Grew R w w1) (hr : Rdr w1 R A ts aL st1) => point_rc P E hP R A ts aL st1 w1 (e.grew b) hr)
 have hR := e.hR
 unfold lsP
 rw [rep_len]
 generalize wd c st = st1 at *
 generalize (ct m st1).1 = n at *
 generalize (ct m st1).2 = st2 at *
 clear e h
 go_enter Tryz.func85, Tryz.ntmps85
 go_wp2_with (first | (go_at_call 84; refine HW.out.mono ?_; rintro e w1 ⟨rfl, k1, g1⟩) | (go_at_call 145; refine (HC.out _ g1 k1).mono ?_; rintro e w2 ⟨rfl, k2, g2⟩))
 have G2 := g1.trans g2
 clear HW HC g1 k1 g2
 go_loopw [9, 16] (fun v i wr => ∃ k : Nat, k ≤ n ∧ i = .int .i64 (k : Nat) ∧ wr.ownsRow w.heap.size 30 6 v k ((rep (pt P E) k st2).1.flatMap cP) ∧ Rdr wr R A ts aL (rep (pt P E) k st2).2 ∧ Grew R w wr) (fun _ i _ => n - (intOf i).toNat)
 case atStart => exact ⟨0, Nat.zero_le _, rfl, World.ownsRow_nil _ _ _ _, k2, G2⟩
 case round =>
  obtain ⟨k, hk, rfl, ho, kk, G⟩ := hrel
  by_cases hlt : k < n
  ·have hlt' : (k : Int) < (n : Int) := by omega
   have hs := shut (rep_snoc (pt P E) k st2)
   obtain ⟨L, hL⟩ : ∃ L, L = (rep (pt P E) k st2).1 := ⟨_, rfl⟩
   obtain ⟨st3, h3⟩ : ∃ L, L = (rep (pt P E) k st2).2 := ⟨_, rfl⟩
   rw [← hL] at ho
   rw [← h3] at kk
   have N1 := HN.out wr st3 G kk
   obtain ⟨x, hx⟩ : ∃ x, x = (pt P E st3).1 := ⟨_, rfl⟩
   obtain ⟨st4, h4⟩ : ∃ x, x = (pt P E st3).2 := ⟨_, rfl⟩
   rw [← hx, ← h4] at N1
   have HS : Hid (rep (pt P E) (k + 1) st2 = (L ++ [x], st4)) := by rw [hs.out, ← hL, ← h3, ← hx, ← h4]; rfl
   clear hL h3 hx h4 hs
   obtain ⟨⟨qn, qs, qd⟩, rn, rs, rd⟩ := x
   go_wp2_with (first | (go_at_call 86; refine N1.mono ?_; rintro e w3 ⟨rfl, k3, g3⟩) | (refine wpList_ap1 43 30 ((qa2 false eS eS false eS eS)) 6 80 Tryz.underlying43 (by kernel_rfl) rfl (by decide) (by decide) rfl (.tmp 18) (.tmp 21) rfl _ k _ rfl w.heap.size ((own_grew ho g3 hR).alloc _) (Nat.le_trans (Nat.le_trans G.size g3.size) (by simp)) w3.heap.size 1 rfl (ql2 qn qs qd rn rs rd) 30 (Cel.new _ _ _) rfl (by simp [Value.oneCell']) (by omega) ?_; intro v' w4 h4 h5))
   go_roundw
   case rel =>
    have ho3 := (own_grew ho g3 hR).alloc (.cells (qv2 qn qs qd rn rs rd) 30)
    have G3 := (G.trans g3).trans (Below.grew ((Below.refl w3.heap.size w3).alloc (Nat.le_refl _) (.cells (qv2 qn qs qd rn rs rd) 30)))
    refine ⟨k + 1, by omega, by go_num, ?_, ?_, G3.grown h5 (fun g hg => (ho3.lt g hg).1)⟩
    ·rw [HS.out, List.flatMap_append]
     exact h4
    ·rw [HS.out]
     exact (k3.grew (Nat.lt_of_lt_of_le hR (Nat.le_trans G.size g3.size)) ((Below.refl _ _).alloc (Nat.le_refl _) _)).grown ho3 hR (by decide) h5
   case measure => simp [intOf]; omega
  ·have hke : k = n := by omega
   subst hke
   go_wp2
   go_ret
   exact ⟨_, rfl, ho, kk, G⟩
theorem neL {s : ByteArray} {l : List UInt8} (h : s ≠ ⟨l.toArray⟩) : (s.toList == l) = false := by
 rw [ByteArray.toList_eq]
 obtain ⟨⟨k⟩⟩ := s
 refine beq_eq_false_iff_ne.2 fun e => h ?_
 subst e
 rfl
theorem post_sg {fn : Func} {p : Tmp} {R : Ending → World → Prop} {a : Act} {w : World} {g : Nat} {x y z : Value} (h : fn.results = #[.cell p 103]) (hp : a.tmps.getD p undef = .pointer (some ⟨g, 0, none⟩)) (hd : a.defers = [])
  (hc : Cel w g [x, y, z] 103) (hR : R (.returned (.agg #[x, y, z])) w) : bodyPost Tryz.prog fn R .ret a w :=
 ⟨hd, .agg #[x, y, z], results_cell_row (P := Tryz.prog) h _ w g 103 #[x, y, z] (0, 0) _ hp hc Tryz.underlying103 rfl (by kernel_rfl), hR⟩
theorem segment_rc (R A : Nat) (ts : List ByteArray) (aL : Addr) (st : St) (n : Int) (h0 : 0 ≤ n) (h1 : n ≤ 1000000) (w : World) : RC R A ts aL 89 #[.pointer (some ⟨R, 0, none⟩), .int .i64 n] w st (vS (sg (n - 1) st).1) (sg (n - 1) st).2 := by
 intro e h
 have hR := e.hR
 obtain ⟨a, ha, hs⟩ := e.sens.2 7 (by simp)
 have HN := shut (fun w1 st1 (b : Grew R w w1) (hr : Rdr w1 R A ts aL st1) => count_rc R A ts aL st1 (n - 1) w1 (e.grew b) hr)
 have HX := shut (fun w1 st1 (b : Grew R w w1) (hr : Rdr w1 R A ts aL st1) => next_rc R A ts aL st1 w1 (e.grew b) hr)
 have HR := shut (fun w1 (b : Grew R w w1) => (e.grew b).hR)
 have H0 := shut (fun w1 (b : Below w.heap.size w w1) => h.grew e.hR b)
 have HC := shut (fun w1 (b : Grew R w w1) (st1 : St) (hr : Rdr w1 R A ts aL st1) => refuse_sen R A ts aL st1 _ a w1 (e.grew b).hR hr ha (hs.grew b e.hR))
 have HG := shut (fun w1 (b : Grew R w w1) => (hs.grew b e.hR).2.2.1)
 unfold sg kd
 obtain ⟨x, hx⟩ : ∃ q, q = (ct (n - 1) st).1 := ⟨_, rfl⟩
 obtain ⟨st1, hs1⟩ : ∃ q, q = (ct (n - 1) st).2 := ⟨_, rfl⟩
 obtain ⟨y, hy⟩ : ∃ q, q = (ct (n - 1) st1).1 := ⟨_, rfl⟩
 obtain ⟨st2, hs2⟩ : ∃ q, q = (ct (n - 1) st1).2 := ⟨_, rfl⟩
 obtain ⟨t, ht⟩ : ∃ q, q = (nx st2).1 := ⟨_, rfl⟩
 obtain ⟨st3, hs3⟩ : ∃ q, q = (nx st2).2 := ⟨_, rfl⟩
 have N1 := shut (fun w1 (b : Grew R w w1) (k : Rdr w1 R A ts aL st) => HN.out w1 st b k)
 have N2 := shut (fun w1 (b : Grew R w w1) (k : Rdr w1 R A ts aL st1) => HN.out w1 st1 b k)
 have N3 := shut (fun w1 (b : Grew R w w1) (k : Rdr w1 R A ts aL st2) => HX.out w1 st2 b k)
 rw [← hx, ← hs1] at N1
 rw [← hy, ← hs2] at N2
 rw [← ht, ← hs3] at N3
 simp only [← hx, ← hs1, ← hy, ← hs2, ← ht, ← hs3]
 obtain ⟨u, hu⟩ : ∃ u, u = if t = tD ∨ t = tN then st3 else none := ⟨_, rfl⟩
 have HU := shut hu
 obtain ⟨f, hf⟩ : ∃ f, f = decide (t = tD) := ⟨_, rfl⟩
 have HF := shut hf
 simp only [← hu, ← hf]
 clear hx hy ht hs1 hs2 hs3 HN HX hs e h hu hf
 go_enter Tryz.func89, Tryz.ntmps89
 go_wp2_with fail
 obtain ⟨w0, hq, kr, b0⟩ := mk1 w [.int .i64 0, .int .i64 0, .bool false] 103
 rw [← hq]
 clear hq
 go_upto_region 2 with (go_at_call 145; refine (N1.out _ (Below.grew b0) (H0.out _ b0)).mono ?_; rintro e w1 ⟨rfl, k1, g1⟩)
 have G1 := (Below.grew b0).trans g1
 go_upto_region 3 with (go_at_call 145; refine (N2.out _ G1 k1).mono ?_; rintro e w2 ⟨rfl, k2, g2⟩)
 have G2 := G1.trans g2
 go_upto_region 4 with fail
 obtain ⟨w3, hq, kx, b3⟩ := mk1 w2 [.int .i64 (x : Nat), .int .i64 (y : Nat), .bool false] 103
 rw [← hq]
 clear hq
 have G3 := G2.trans (Below.grew b3)
 have k3 := Rdr.grew k2 (HR.out _ G2) b3
 have kr3 := (Grew.cel g2 (Grew.cel g1 kr (by omega)) (by omega)).below b3
 have hg2 : w.heap.size < w2.heap.size := Nat.lt_of_lt_of_le kr.lt (Nat.le_trans g1.size g2.size)
 clear kr b0 g1 k1 g2 k2 G1 G2 b3 N1 N2 H0
 go_upto_region 5 with (go_at_call 144; refine (N3.out _ G3 k3).mono ?_; rintro e w4 ⟨rfl, k4, g4⟩)
 have G4 := G3.trans g4
 have kr4 := Grew.cel g4 kr3 (by omega)
 have kx4 := Grew.cel g4 kx (by omega)
 have hv := HG.out _ G4
 clear kr3 kx g4 G3 k3 N3 HG
 by_cases hd : t = tD
 ·subst hd
  have HQ : Hid (u = st3) := by rw [HU.out, if_pos (Or.inl rfl)]; rfl
  have HP : Hid (f = true) := by rw [HF.out]; rfl
  have x2 := Cel.frozen kx4 2
  have c2 := kx4.cell 2
  go_upto_region 8 with fail
  have k5 := k4.put kx4 (by omega) (by decide) 2 (.bool true)
  have kr5 := kr4.other (show w.heap.size ≠ w2.heap.size by omega) 2 (.bool true)
  have G5 := G4.only ((Only.refl w2.heap.size w4).setCell 2 (.bool true)) (by omega)
  have kx5 : Cel (w4.setCell ⟨w2.heap.size, 2, none⟩ (.bool true)) w2.heap.size [.int .i64 (x : Nat), .int .i64 (y : Nat), .bool true] 103 := kx4.set 2 (.bool true)
  clear k4 kr4 G4 kx4 x2 c2 hv
  generalize w4.setCell _ _ = w5 at *
  go_wp2_with (first | (refine wpList_load_row rfl 103 _ rfl _ rfl 103 _ (0, 0) _ kx5 Tryz.underlying103 rfl (by kernel_rfl) ?_) | (refine wpList_store_row rfl 103 _ _ rfl _ #[.int .i64 (x : Nat), .int .i64 (y : Nat), .bool true] rfl rfl 103 _ kr5 (by kernel_rfl) rfl (by kernel_rfl) ?_))
  exact post_sg (p := 4) (by kernel_rfl) rfl rfl (kr5.rowS _) ⟨by rw [HP.out], by rw [HQ.out]; exact k5.row kr5 hR (by decide) _, G5.row (Nat.le_refl _) _⟩
 ·have HP : Hid (f = false) := by rw [HF.out]; exact decide_eq_false hd
  have q1 : (t.toList == [100]) = false := neL hd
  by_cases hn : t = tN
  ·have HQ : Hid (u = st3) := by rw [HU.out, if_pos (Or.inr hn)]; rfl
   subst hn
   go_wp2_with (first | (refine wpList_load_row rfl 103 _ rfl _ rfl 103 _ (0, 0) _ kx4 Tryz.underlying103 rfl (by kernel_rfl) ?_) | (refine wpList_store_row rfl 103 _ _ rfl _ #[.int .i64 (x : Nat), .int .i64 (y : Nat), .bool false] rfl rfl 103 _ kr4 (by kernel_rfl) rfl (by kernel_rfl) ?_))
   exact post_sg (p := 4) (by kernel_rfl) rfl rfl (kr4.rowS _) ⟨by rw [HP.out], by rw [HQ.out]; exact k4.row kr4 hR (by decide) _, G4.row (Nat.le_refl _) _⟩
  ·have HQ : Hid (u = none) := by rw [HU.out, if_neg (fun h => h.elim hd hn)]; rfl
   have q2 : (t.toList == [110]) = false := neL hn
   go_upto_region 10 with (go_at_call 91; refine (HC.out _ G4 _ k4).mono ?_; rintro e w5 ⟨rfl, k5, g5⟩)
   have G5 := G4.trans g5
   have kr5 := Grew.cel g5 kr4 (by omega)
   have kx5 := Grew.cel g5 kx4 (by omega)
   go_wp2_with (first | (refine wpList_load_row rfl 103 _ rfl _ rfl 103 _ (0, 0) _ kx5 Tryz.underlying103 rfl (by kernel_rfl) ?_) | (refine wpList_store_row rfl 103 _ _ rfl _ #[.int .i64 (x : Nat), .int .i64 (y : Nat), .bool false] rfl rfl 103 _ kr5 (by kernel_rfl) rfl (by kernel_rfl) ?_))
   exact post_sg (p := 4) (by kernel_rfl) rfl rfl (kr5.rowS _) ⟨by rw [HP.out], by rw [HQ.out]; exact k5.row kr5 hR (by decide) _, G5.row (Nat.le_refl _) _⟩
theorem read1_rc (Cb Pb : Nat) (a0 : Option Addr) (nP cP0 : Nat) (pcs : List Value) (hnP : nP ≤ 1000000) (R A : Nat) (ts : List ByteArray) (aL : Addr) (st : St) (w : World) (e : Env R A ts aL w) (h : Rdr w R A ts aL st)
  (kc : Cel w Cb [.pointer (some ⟨R, 0, none⟩)] 135) (kp : Cel w Pb (.slice a0 nP cP0 :: pcs) 46) :
  Calls Tryz.prog 88 #[.pointer (some ⟨Cb, 0, none⟩), .pointer (some ⟨Pb, 0, none⟩)] w fun e w' => e = .returned (vS (sg ((nP : Int) - 1) st).1) ∧ Rdr w' R A ts aL (sg ((nP : Int) - 1) st).2 ∧ Grew R w w' := by
 have hR := e.hR
 have HS := shut (fun w1 (b : Below w.heap.size w w1) => segment_rc R A ts aL st nP (by omega) (by omega) w1 (e.grew (Below.grew b)) (h.grew e.hR b))
 obtain ⟨x, hx⟩ : ∃ q, q = (sg ((nP : Int) - 1) st).1 := ⟨_, rfl⟩
 obtain ⟨st1, hs1⟩ : ∃ q, q = (sg ((nP : Int) - 1) st).2 := ⟨_, rfl⟩
 rw [← hx, ← hs1] at HS
 rw [← hx, ← hs1]
 clear hx hs1 h e
 obtain ⟨xa, xb, xc⟩ := x
 go_enter Tryz.func88, Tryz.ntmps88
 go_upto_region 1 with fail
 obtain ⟨w0, hq, kr, b0⟩ := mk1 w [.int .i64 0, .int .i64 0, .bool false] 103
 rw [← hq]
 clear hq
 have c0 : w0.cell? ⟨Cb, 0, none⟩ = some (.pointer (some ⟨R, 0, none⟩)) := (kc.below b0).cell 0
 have p0 : w0.cell? ⟨Pb, 0, none⟩ = some (.slice a0 nP cP0) := (kp.below b0).cell 0
 go_wp2_with (first | (go_at_call 89; refine (HS.out _ b0).mono ?_; rintro e w1 ⟨rfl, k1, g1⟩; have kr1 := Grew.cel g1 kr (by omega)) | (refine wpList_store_row rfl 103 _ _ rfl _ #[.int .i64 (xa : Nat), .int .i64 (xb : Nat), .bool xc] rfl rfl 103 _ kr1 (by kernel_rfl) rfl (by kernel_rfl) ?_))
 exact post_sg (p := 2) (by kernel_rfl) rfl rfl (kr1.rowS _) ⟨rfl, k1.row kr1 hR (by decide) _, ((Below.grew b0).trans g1).row (Nat.le_refl _) _⟩
theorem listS_rc (Cb Pb : Nat) (a0 : Option Addr) (nP cP0 : Nat) (pcs : List Value) (hnP : nP ≤ 1000000) (R A : Nat) (ts : List ByteArray) (aL : Addr) (st : St) (c : ByteArray) (m : Int) (w : World) (e : Env R A ts aL w) (h : Rdr w R A ts aL st) (kc : Cel w Cb [.pointer (some ⟨R, 0, none⟩)] 135) (kp : Cel w Pb (.slice a0 nP cP0 :: pcs) 46) (hCb : R < Cb) (hPb : R < Pb) :
  Calls Tryz.prog 87 #[.pointer (some ⟨R, 0, none⟩), .string c, .int .i64 m, .func (.func 88) #[] #[.pointer (some ⟨Cb, 0, none⟩), .pointer (some ⟨Pb, 0, none⟩)]] w fun e w' => ∃ v, e = .returned v ∧
   w'.ownsRow w.heap.size 103 3 v (lsP (sg ((nP : Int) - 1)) c m st).1.length ((lsP (sg ((nP : Int) - 1)) c m st).1.flatMap cS) ∧ Rdr w' R A ts aL (lsP (sg ((nP : Int) - 1)) c m st).2 ∧ Grew R w w' := by
 have HW := shut (word_rc R A ts aL st c w e h)
 have HC := shut (fun w1 (b : Grew R w w1) (hr : Rdr w1 R A ts aL (wd c st)) => count_rc R A ts aL (wd c st) m w1 (e.grew b) hr)
 have hn := ct_lt m (wd c st)
 have HN := shut (fun w1 st1 (b : Grew R w w1) (hr : Rdr w1 R A ts aL st1) => read1_rc Cb Pb a0 nP cP0 pcs hnP R A ts aL st1 w1 (e.grew b) hr (Grew.cel b kc (by omega)) (Grew.cel b kp (by omega)))
 have hR := e.hR
 unfold lsP
 rw [rep_len]
 generalize wd c st = st1 at *
 generalize (ct m st1).1 = n at *
 generalize (ct m st1).2 = st2 at *
 clear e h
 go_enter Tryz.func87, Tryz.ntmps87
 go_wp2_with (first | (go_at_call 84; refine HW.out.mono ?_; rintro e w1 ⟨rfl, k1, g1⟩) | (go_at_call 145; refine (HC.out _ g1 k1).mono ?_; rintro e w2 ⟨rfl, k2, g2⟩))
 have G2 := g1.trans g2
 clear HW HC g1 k1 g2
 go_loopw [9, 16] (fun v i wr => ∃ k : Nat, k ≤ n ∧ i = .int .i64 (k : Nat) ∧ wr.ownsRow w.heap.size 103 3 v k ((rep (sg ((nP : Int) - 1)) k st2).1.flatMap cS) ∧ Rdr wr R A ts aL (rep (sg ((nP : Int) - 1)) k st2).2 ∧ Grew R w wr) (fun _ i _ => n - (intOf i).toNat)
 case atStart => exact ⟨0, Nat.zero_le _, rfl, World.ownsRow_nil _ _ _ _, k2, G2⟩
 case round =>
  obtain ⟨k, hk, rfl, ho, kk, G⟩ := hrel
  by_cases hlt : k < n
  ·have hlt' : (k : Int) < (n : Int) := by omega
   have hs := shut (rep_snoc (sg ((nP : Int) - 1)) k st2)
   obtain ⟨L, hL⟩ : ∃ L, L = (rep (sg ((nP : Int) - 1)) k st2).1 := ⟨_, rfl⟩
   obtain ⟨st3, h3⟩ : ∃ L, L = (rep (sg ((nP : Int) - 1)) k st2).2 := ⟨_, rfl⟩
   rw [← hL] at ho
   rw [← h3] at kk
   have N1 := HN.out wr st3 G kk
   obtain ⟨x, hx⟩ : ∃ x, x = (sg ((nP : Int) - 1) st3).1 := ⟨_, rfl⟩
   obtain ⟨st4, h4⟩ : ∃ x, x = (sg ((nP : Int) - 1) st3).2 := ⟨_, rfl⟩
   rw [← hx, ← h4] at N1
   have HS : Hid (rep (sg ((nP : Int) - 1)) (k + 1) st2 = (L ++ [x], st4)) := by rw [hs.out, ← hL, ← h3, ← hx, ← h4]; rfl
   clear hL h3 hx h4 hs
   obtain ⟨xa, xb, xc⟩ := x
   go_wp2_with (first | (go_at_call 88; refine N1.mono ?_; rintro e w3 ⟨rfl, k3, g3⟩) | (refine wpList_ap1 44 103 (.agg #[.int .i64 0, .int .i64 0, .bool false]) 3 24 Tryz.underlying44 (by kernel_rfl) rfl (by decide) (by decide) rfl (.tmp 18) (.tmp 21) rfl _ k _ rfl w.heap.size ((own_grew ho g3 hR).alloc _) (Nat.le_trans (Nat.le_trans G.size g3.size) (by simp)) w3.heap.size 1 rfl [.int .i64 (xa : Nat), .int .i64 (xb : Nat), .bool xc] 103 (Cel.new _ _ _) rfl (by simp [Value.oneCell']) (by omega) ?_; intro v' w4 h4 h5))
   go_roundw
   case rel =>
    have ho3 := (own_grew ho g3 hR).alloc (.cells #[.int .i64 (xa : Nat), .int .i64 (xb : Nat), .bool xc] 103)
    have G3 := (G.trans g3).trans (Below.grew ((Below.refl w3.heap.size w3).alloc (Nat.le_refl _) (.cells #[.int .i64 (xa : Nat), .int .i64 (xb : Nat), .bool xc] 103)))
    refine ⟨k + 1, by omega, by go_num, ?_, ?_, G3.grown h5 (fun g hg => (ho3.lt g hg).1)⟩
    ·rw [HS.out, List.flatMap_append]
     exact h4
    ·rw [HS.out]
     exact (k3.grew (Nat.lt_of_lt_of_le hR (Nat.le_trans G.size g3.size)) ((Below.refl _ _).alloc (Nat.le_refl _) _)).grown ho3 hR (by decide) h5
   case measure => simp [intOf]; omega
  ·have hke : k = n := by omega
   subst hke
   go_wp2
   go_ret
   exact ⟨_, rfl, ho, kk, G⟩
end Go.Proofs.YtnplifkgeeicjaaGreatDoor
