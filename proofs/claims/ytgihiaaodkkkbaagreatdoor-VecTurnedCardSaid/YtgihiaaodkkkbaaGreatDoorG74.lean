/-
  Rows of rows of rational numbers that came in.
-/
import Derived.Deep.Slices
import Derived.Test.YtgihiaaodkkkbaaGreatDoorG39
import Derived.Test.YtgihiaaodkkkbaaGreatDoorG42
namespace Go.Proofs.YtgihiaaodkkkbaaGreatDoor
open Go.ChangeShapes Go.WideShapes Go.RowKit Go.Deep

theorem addr_spot {w : World} {a : Addr} {v : Value} (h : w.cell? (a.add 0) = some v) : ∃ b off, a = ⟨b, off, none⟩ := by
 obtain ⟨b, off, s⟩ := a
 cases s with
 | none => exact ⟨b, off, rfl⟩
 | some x =>
  simp only [World.cell?, Addr.add, if_true] at h
  split at h
  ·simp at h
  ·cases h
section
variable {H : Type} {enc : TypeId × Value → H} {W : World} {base : Nat} {sp : Nat → Bool} {held : Bool}
set_option maxRecDepth 100000 in
theorem open_qc {n : Nat} {cs : List Value} {x : DataW H × List MemPlace} (h : DataW.trod enc Tryz.prog W base sp held n 32 cs = some x) : ∃ n s d, cs = [.bool n, .string s, .string d] := by
 obtain ⟨y0, y1, m, hx, hl, hy0, hy1⟩ := trod_struct2 Tryz.underlying32 h
 obtain ⟨z0, z1, m', hx', hl', hz0, hz1⟩ := trod_struct2 Tryz.underlying30 hy0
 rw [cellsQ] at hl
 match cs, hl with
 | [c0, c1, c2], _ =>
  obtain ⟨n, e0, -⟩ := DataW.trod_bool Tryz.underlying4 hz0
  obtain ⟨s, e1, -⟩ := DataW.trod_string Tryz.underlying28 hz1
  obtain ⟨d, e2, -⟩ := DataW.trod_string Tryz.underlying28 hy1
  rw [cellsB] at e0
  rw [cellsN] at e1 e2
  rw [cellsZ] at e0 e1
  simp at e0 e1 e2
  subst e0 e1 e2
  exact ⟨n, s, d, rfl⟩
set_option maxRecDepth 100000 in
theorem open_qrow {n : Nat} {V : Value} {x : DataW H × List MemPlace} (h : DataW.trod enc Tryz.prog W base sp held n 27 [V] = some x) : ∃ ar m c, V = .slice ar m c ∧ m ≤ c ∧ c ≤ maxLen ∧ ∃ y : Nat → Bool × ByteArray × ByteArray, RdQ W ar m (fun j => (y j).1) (fun j => (y j).2.1) (fun j => (y j).2.2) := by
 rcases open_slice Tryz.underlying27 h with ⟨h0, -⟩ | ⟨a, len, cap, m, k, D, Pl, hcs, hb, hl, hm, hmm, rfl, hx⟩
 ·simp only [List.cons.injEq, and_true] at h0
  exact ⟨none, 0, 0, h0, Nat.le_refl _, Nat.zero_le _, fun _ => (false, ⟨#[]⟩, ⟨#[]⟩), fun j hj => by omega⟩
 ·simp only [List.cons.injEq, and_true] at hcs
  refine ⟨some a, len, cap, hcs, hl, hm, ?_⟩
  have hlm : len ≤ m := by rw [hmm]; split <;> omega
  have hsp : 0 < len → ∃ b off, a = ⟨b, off, none⟩ := fun h0 => by
   obtain ⟨cs', h1, h2⟩ := hx 0 (by omega)
   obtain ⟨nn, s, d, rfl⟩ := open_qc h2
   rw [cellsQ, Nat.zero_mul] at h1
   obtain ⟨-, -, hc⟩ := World.cells?_some h1
   have c0 := hc 0 (by omega)
   rw [add_add] at c0
   exact addr_spot c0
  obtain ⟨y, hy⟩ := choose_lt (α := Bool × ByteArray × ByteArray) (n := len) (p := fun j y => ∃ b off, a = ⟨b, off, none⟩ ∧ W.cell? ⟨b, off + j * 3, none⟩ = some (.bool y.1) ∧ W.cell? ⟨b, off + j * 3 + 1, none⟩ = some (.string y.2.1) ∧ W.cell? ⟨b, off + j * 3 + 2, none⟩ = some (.string y.2.2)) (fun j hj => by
   obtain ⟨cs', h1, h2⟩ := hx j (by omega)
   obtain ⟨nn, s, d, rfl⟩ := open_qc h2
   rw [cellsQ] at h1
   obtain ⟨-, -, hc⟩ := World.cells?_some h1
   have c0 := hc 0 (by omega)
   have c1 := hc 1 (by omega)
   have c2 := hc 2 (by omega)
   rw [add_add] at c0 c1 c2
   obtain ⟨b, off, rfl⟩ := hsp (by omega)
   rw [add_at] at c0 c1 c2
   exact ⟨(nn, s, d), b, off, rfl, c0, by rw [Nat.add_assoc]; exact c1, by rw [Nat.add_assoc]; exact c2⟩)
  refine ⟨y, fun j hj => ?_⟩
  obtain ⟨b, off, rfl, h0, h1, h2⟩ := hy j hj
  exact ⟨b, off, rfl, h0, h1, h2⟩
set_option maxRecDepth 100000 in
theorem open_qq {v : Value} {d : DataW H} {ps : List MemPlace} (hc : Value.cells v = #[v]) (h : DataW.Trod enc Tryz.prog W base sp held 22 v d ps) : ∃ a n cap len N S D, v = .slice a n cap ∧ n ≤ cap ∧ n ≤ maxLen ∧ RdG W a n len N S D := by
 obtain ⟨fuel, hf⟩ := h
 rw [hc] at hf
 rcases open_slice1 Tryz.underlying22 (by kernel_rfl) hf with ⟨h0, -⟩ | ⟨a, n, cap, m, k, V, D, Pl, hcs, hb, hl, hm, hmm, hx0, hx⟩
 ·simp only [List.cons.injEq, and_true] at h0
  exact ⟨none, 0, 0, fun _ => 0, fun _ _ => false, fun _ _ => ⟨#[]⟩, fun _ _ => ⟨#[]⟩, h0, Nat.le_refl _, Nat.zero_le _, fun i hi => by omega⟩
 ·simp only [List.cons.injEq, and_true] at hcs
  have hlm : n ≤ m := by rw [hmm]; split <;> omega
  have hsp : 0 < n → ∃ b off, a = ⟨b, off, none⟩ := fun h0 => addr_spot (hx 0 (by omega)).1
  obtain ⟨y, hy⟩ := choose_lt (α := Nat × (Nat → Bool × ByteArray × ByteArray)) (n := n) (p := fun i y => ∃ b off ar c, some a = some ⟨b, off, none⟩ ∧ W.cell? ⟨b, off + i, none⟩ = some (.slice ar y.1 c) ∧ y.1 ≤ c ∧ RdQ W ar y.1 (fun j => (y.2 j).1) (fun j => (y.2 j).2.1) (fun j => (y.2 j).2.2)) (fun i hi => by
   obtain ⟨h1, h2⟩ := hx i (by omega)
   obtain ⟨ar, l, c, e, hlc, -, y, hr⟩ := open_qrow h2
   rw [e] at h1
   obtain ⟨b, off, rfl⟩ := hsp (by omega)
   rw [add_at] at h1
   exact ⟨(l, y), b, off, ar, c, rfl, h1, hlc, hr⟩)
  exact ⟨some a, n, cap, fun i => (y i).1, fun i j => ((y i).2 j).1, fun i j => ((y i).2 j).2.1, fun i j => ((y i).2 j).2.2, hcs, hl, Nat.le_trans hl hm, hy⟩
end
end Go.Proofs.YtgihiaaodkkkbaaGreatDoor
