/-
  Package whole: how commonDivisor's rows lie.
  Package rat: tooLong, of two texts.
-/
import Derived.ArgAppend
import Derived.Deep.CutRange
import Derived.Deep.DeepFit
import Derived.Deep.Upon
import Derived.Lib.SliceRun
import Derived.Test.YtiiigiggcbbgjaaGreatDoorK28
set_option maxRecDepth 100000
set_option maxHeartbeats 1000000
namespace Go.Proofs.YtiiigiggcbbgjaaGreatDoor
open Go.RowKit Go.Shelf
theorem Grew2.put {g0 g1 ga gb : Nat} {w wr w' : World} (h : Grew2 g0 g1 w wr) (k : Grew2 ga gb wr w') (fa : ga = g0 ∨ ga = g1 ∨ w.heap.size ≤ ga) (fb : gb = g0 ∨ gb = g1 ∨ w.heap.size ≤ gb) : Grew2 g0 g1 w w' :=
 ⟨k.os.trans h.os, k.tape.trans h.tape, k.output.trans h.output, Nat.le_trans h.size k.size, fun i hi h0 h1 => (k.block i (Nat.lt_of_lt_of_le hi h.size) (by omega) (by omega)).trans (h.block i hi h0 h1)⟩
theorem Blk.u64 {w : World} {g : Nat} {ys : List Nat} (h : Blk w g ys) {j : Nat} {v : Value} (hc : w.cell? ⟨g, j, none⟩ = some v) : ∃ n : Int, v = .int .u64 n := by
 by_cases hj : j < ys.length
 ·rw [h.cell hj] at hc
  exact ⟨_, (Option.some.inj hc).symm⟩
 ·unfold Blk at h
  have hn : ys[j]? = none := List.getElem?_eq_none (by omega)
  simp [World.cell?, h, cellsOf, hn] at hc
theorem Tab.grew2 {ga gb : Nat} {w w' : World} {ya yb : List Nat} (h : Tab w) (ka : Blk w ga ya) (kb : Blk w gb yb) (k : Grew2 ga gb w w') : Tab w' := fun j hj => by
 have hc := h j hj
 have hlt := World.block_lt_of_cell? w _ hc
 have na : lays729_ren.g 1 ≠ ga := fun e => by
  rw [e] at hc
  obtain ⟨n, hn⟩ := ka.u64 hc
  cases hn
 have nb : lays729_ren.g 1 ≠ gb := fun e => by
  rw [e] at hc
  obtain ⟨n, hn⟩ := kb.u64 hc
  cases hn
 rw [World.cell?_of_block (w := w) (k.block _ hlt na nb)]
 exact hc
theorem Grew2.of_only {g0 g1 g : Nat} {w wr w' : World} (h : Grew2 g0 g1 w wr) (k : Only g wr w') (f : g = g0 ∨ g = g1 ∨ w.heap.size ≤ g) : Grew2 g0 g1 w w' :=
 h.put (Grew2.left (g' := g) k) f f
theorem Grew2.of_below {g0 g1 : Nat} {w wr w' : World} (h : Grew2 g0 g1 w wr) (k : Below wr.heap.size wr w') : Grew2 g0 g1 w w' := h.trans (Grew2.of k)
structure Rows2 (g0 g1 G : Nat) (w wr : World) (ga gb A B : Nat) (qa qb : List Nat) : Prop where
 ka : Blk wr ga (M.digs B64 A ++ qa)
 kb : Blk wr gb (M.digs B64 B ++ qb)
 ne : ga ≠ gb
 fa : ga = g0 ∨ ga = g1 ∨ w.heap.size ≤ ga
 fb : gb = g0 ∨ gb = g1 ∨ w.heap.size ≤ gb
 cap : (M.digs B64 A).length ≤ (M.digs B64 B ++ qb).length
 le : B ≤ A
 gcd : Nat.gcd A B = G
 size : (M.digs B64 A).length ≤ 4000
 tab : Tab wr
 gr : Grew2 g0 g1 w wr
def slX (g A : Nat) (q : List Nat) : Value := .slice (some ⟨g, 0, none⟩) (M.digs B64 A).length (M.digs B64 A ++ q).length
theorem Rows2.rdA {g0 g1 G : Nat} {w wr : World} {ga gb A B : Nat} {qa qb : List Nat} (h : Rows2 g0 g1 G w wr ga gb A B qa qb) : Rd wr (slX ga A qa) (M.digs B64 A) := Bk.rd (t := 123) h.ka _ (by simp)
theorem Rows2.rdB {g0 g1 G : Nat} {w wr : World} {ga gb A B : Nat} {qa qb : List Nat} (h : Rows2 g0 g1 G w wr ga gb A B qa qb) : Rd wr (slX gb B qb) (M.digs B64 B) := Bk.rd (t := 123) h.kb _ (by simp)
theorem Rows2.below {g0 g1 G : Nat} {w wr w' : World} {ga gb A B : Nat} {qa qb : List Nat} (h : Rows2 g0 g1 G w wr ga gb A B qa qb) (k : Below wr.heap.size wr w') : Rows2 g0 g1 G w w' ga gb A B qa qb :=
 ⟨h.ka.below k, h.kb.below k, h.ne, h.fa, h.fb, h.cap, h.le, h.gcd, h.size, h.tab.below k, h.gr.of_below k⟩
theorem digs_mono' {A B : Nat} (h : B ≤ A) : (M.digs B64 B).length ≤ (M.digs B64 A).length := digs_mono B64_two h
def rowN (v : Value) (w : World) : Nat := match v with
 | .slice (some a) n _ => M.val B64 ((List.range n).map fun j => match w.cell? ⟨a.block, j, none⟩ with | some (.int _ z) => z.toNat | _ => 0)
 | _ => 0
theorem rowN_eq {w : World} {g A : Nat} {q : List Nat} (h : Blk w g (M.digs B64 A ++ q)) : rowN (slX g A q) w = A := by
 have e : ((List.range (M.digs B64 A).length).map fun j => match w.cell? ⟨g, j, none⟩ with | some (.int _ z) => z.toNat | _ => 0) = M.digs B64 A := by
  apply List.ext_getElem
  ·simp
  ·intro i h1 h2
   have hc := h.cell (j := i) (by rw [List.length_append]; omega)
   simp only [List.getElem_map, List.getElem_range, hc]
   simp [lm, List.getElem?_append_left h2, h2]
 show M.val B64 _ = A
 rw [e, M.val_digs B64_two]
theorem Rows2.divided {g0 g1 G : Nat} {w wr w' : World} {ga gb A B : Nat} {qa qb : List Nat} (h : Rows2 g0 g1 G w wr ga gb A B qa qb) (hB : 0 < B)
  (k : Blk w' ga (M.digs B64 (A % B) ++ (M.digs B64 A ++ qa).drop (M.digs B64 (A % B)).length)) (o : Only ga wr w') :
  Rows2 g0 g1 G w w' gb ga B (A % B) qb ((M.digs B64 A ++ qa).drop (M.digs B64 (A % B)).length) := by
 have hlt : A % B < B := Nat.mod_lt _ hB
 refine ⟨?_, k, h.ne.symm, h.fb, h.fa, ?_, by omega, ?_, Nat.le_trans (digs_mono' h.le) h.size, h.tab.grew2 h.ka h.ka (Grew2.left o), h.gr.of_only o h.fa⟩
 ·have := h.kb
  unfold Blk at this ⊢
  rw [o.block gb h.ne.symm]; exact this
 ·have l1 := digs_mono' h.le
  have l2 := digs_mono' (Nat.le_of_lt hlt)
  rw [List.length_append, List.length_drop, List.length_append]
  omega
 ·rw [Nat.gcd_comm, ← Nat.gcd_rec, Nat.gcd_comm]
  exact h.gcd
open Go.RowKit
theorem tooLong_no (B : Nat) (s d : ByteArray) (w : World) (hB : Cel w B [.string s, .string d] 22) (hs : s.size ≤ 8000) (hd : d.size ≤ 8000) :
  Calls Tryz.prog 102 #[.slice (some ⟨B, 0, none⟩) 2 2] w (Re w (.bool false)) := by
 have i0 : ¬ (8000 : Int) < s.size := by omega
 have i1 : ¬ (8000 : Int) < d.size := by omega
 obtain ⟨c0, c1⟩ := xk2 hB
 go_enter Tryz.func102, Tryz.ntmps102
 go_wp2
 go_loopw [7] (fun i wr => wr = w ∧ (i = .int .i64 0 ∨ i = .int .i64 1 ∨ i = .int .i64 2)) (fun i _ => 2 - (intOf i).toNat)
 case atStart => exact ⟨rfl, Or.inl rfl⟩
 case round =>
  obtain ⟨rfl, rfl | rfl | rfl⟩ := hrel
  ·go_wp2
   exact ⟨⟨trivial, Or.inr (Or.inl (by go_num))⟩, by simp [intOf]⟩
  ·go_wp2
   exact ⟨⟨trivial, Or.inr (Or.inr (by go_num))⟩, by simp [intOf]⟩
  ·go_wp2
   go_ret
   exact ⟨rfl, Below.refl _ _⟩
theorem tooLong_1 (B : Nat) (s d : ByteArray) (w : World) (hB : Cel w B [.string s, .string d] 22) (hs : 8000 < s.size) :
  Calls Tryz.prog 102 #[.slice (some ⟨B, 0, none⟩) 2 2] w (Re w (.bool true)) := by
 have i0 : (8000 : Int) < s.size := by omega
 obtain ⟨c0, c1⟩ := xk2 hB
 go_enter Tryz.func102, Tryz.ntmps102
 go_wp2
 go_loopw [7] (fun i wr => wr = w ∧ i = .int .i64 0) (fun i _ => 2 - (intOf i).toNat)
 case atStart => exact ⟨rfl, rfl⟩
 case round =>
  obtain ⟨rfl, rfl⟩ := hrel
  go_wp2
  go_ret
  exact ⟨rfl, Below.refl _ _⟩
theorem tooLong_2 (B : Nat) (s d : ByteArray) (w : World) (hB : Cel w B [.string s, .string d] 22) (hs : s.size ≤ 8000) (hd : 8000 < d.size) :
  Calls Tryz.prog 102 #[.slice (some ⟨B, 0, none⟩) 2 2] w (Re w (.bool true)) := by
 have i0 : ¬ (8000 : Int) < s.size := by omega
 have i1 : (8000 : Int) < d.size := by omega
 obtain ⟨c0, c1⟩ := xk2 hB
 go_enter Tryz.func102, Tryz.ntmps102
 go_wp2
 go_loopw [7] (fun i wr => wr = w ∧ (i = .int .i64 0 ∨ i = .int .i64 1)) (fun i _ => 2 - (intOf i).toNat)
 case atStart => exact ⟨rfl, Or.inl rfl⟩
 case round =>
  obtain ⟨rfl, rfl | rfl⟩ := hrel
  ·go_wp2
   exact ⟨⟨trivial, Or.inr (by go_num)⟩, by simp [intOf]⟩
  ·go_wp2
   go_ret
   exact ⟨rfl, Below.refl _ _⟩
theorem tooLong_any (s d : ByteArray) : ∃ t : Bool, (t = true ↔ 8000 < s.size ∨ 8000 < d.size) ∧ ∀ (B : Nat) (w : World) (_ : Cel w B [.string s, .string d] 22),
  Calls Tryz.prog 102 #[.slice (some ⟨B, 0, none⟩) 2 2] w (Re w (.bool t)) := by
 by_cases hs : 8000 < s.size
 ·exact ⟨true, ⟨fun _ => Or.inl hs, fun _ => rfl⟩, fun B w hB => tooLong_1 B s d w hB hs⟩
 ·by_cases hd : 8000 < d.size
  ·exact ⟨true, ⟨fun _ => Or.inr hd, fun _ => rfl⟩, fun B w hB => tooLong_2 B s d w hB (by omega) hd⟩
  ·exact ⟨false, ⟨fun h => (by cases h), fun h => (by omega)⟩, fun B w hB => tooLong_no B s d w hB (by omega) (by omega)⟩
end Go.Proofs.YtiiigiggcbbgjaaGreatDoor
