/-
  Package pslg: errnoOf.
  Package pslg: a text that is too long.
  Package pslg: Parse.
  lines: rows of rows of texts.
  the lines of a plan.
  how long lines are; rows of texts.
  gussetref08: its reader's numbers and points.
  gussetref08: its reader's counts.
  gussetref08: its reader.
  two rows of texts in one.
-/
import Derived.Test.YtnplifkgeeicjaaGreatDoorT42
import Derived.Test.YtnplifkgeeicjaaGreatDoorT43
import Derived.Test.YtnplifkgeeicjaaGreatDoorT53
set_option maxRecDepth 100000
set_option maxHeartbeats 4000000
namespace Go.Proofs.YtnplifkgeeicjaaGreatDoor
open Go.RowKit
def ErrT (w : World) : Prop := w.cell? ⟨8, 0, none⟩ = some (.iface 245 (.agg #[.pointer (some ⟨20, 86, none⟩)]))
theorem as_hit2 (V : Nat) (e : Addr) (w : World) (hg : ErrT w) (kv : Cel w V [.pointer none] 132) :
  Calls Tryz.prog 92 #[.iface 132 (.pointer (some e)), .iface 148 (.pointer (some ⟨V, 0, none⟩))] w fun ev w' => ev = .returned (.bool true) ∧ Cel w' V [.pointer (some e)] 132 ∧ Grew V w w' := by
 refine (as_hit e ⟨V, 0, none⟩ (.pointer none) w hg (kv.cell 0) (Cel.frozen kv 0)).mono ?_
 rintro ev w' ⟨rfl, rfl⟩
 refine ⟨rfl, ((((kv.alloc _).alloc _).alloc _).alloc _).set 0 _, ?_⟩
 exact Grew.trans (Below.grew (((((Below.refl w.heap.size w).alloc (Nat.le_refl _) _).alloc (by simp) _).alloc (by simp; omega) _).alloc (by simp; omega) _)) ((Only.refl V _).setCell 0 _).grew
theorem errno_nil (w : World) : Calls Tryz.prog 43 #[.nilIface] w (Re w (.int .i64 0)) := by
 go_enter Tryz.func43, Tryz.ntmps43
 go_upto_region 2 with fail
 obtain ⟨w0, hq, kr, b0⟩ := mk1 w [.pointer none] 132
 rw [← hq]
 clear hq
 go_wp2_with (go_at_call 92; refine (as_nil _ _).mono ?_; rintro e w1 ⟨rfl, rfl⟩)
 go_ret
 exact ⟨rfl, b0⟩
theorem errno_ref (w : World) (aL : Addr) (er : Value) (h : RefE w aL er) (hT : ErrT w) (hL : w.cell? ⟨4, 0, none⟩ = some (.iface 348 (.pointer (some aL)))) (hc : ∃ c t, w.heap[aL.block]? = some (.cells c t (0, 0))) :
  Calls Tryz.prog 43 #[er] w (Re w (.int .i64 4)) := by
 obtain ⟨p, z, a, rfl, hne, ⟨ca, ta, ha⟩, kp⟩ := h
 obtain ⟨cb, tb, hb⟩ := hc
 go_enter Tryz.func43, Tryz.ntmps43
 go_upto_region 2 with fail
 obtain ⟨w0, hq, kr, b0⟩ := mk1 w [.pointer none] 132
 rw [← hq]
 clear hq
 have hT0 : ErrT w0 := by unfold ErrT at hT ⊢; rw [b0.cell (World.block_lt_of_cell? w _ hT)]; exact hT
 have hL0 := (b0.cell (World.block_lt_of_cell? w _ hL)).trans hL
 have kp0 := kp.below b0
 have la : a.block < w.heap.size := by
  rcases Nat.lt_or_ge a.block w.heap.size with h | h
  ·exact h
  ·rw [Array.getElem?_eq_none h] at ha; cases ha
 have lb : aL.block < w.heap.size := by
  rcases Nat.lt_or_ge aL.block w.heap.size with h | h
  ·exact h
  ·rw [Array.getElem?_eq_none h] at hb; cases hb
 have ha0 := (b0.block _ la).trans ha
 have hb0 := (b0.block _ lb).trans hb
 have hlL : 4 < w.heap.size := World.block_lt_of_cell? w _ hL
 have lp := kp.lt
 have HA := shut (as_hit2 w.heap.size ⟨p, 0, none⟩ w0 hT0 kr)
 have hs0 := kr.lt
 have HI := shut (fun w1 (k : Grew w.heap.size w0 w1) => is_wrap_other p 0 aL a ca cb ta tb w1 ((Grew.cel k kp0 (by omega)).cell 1) hne (by rw [k.block _ (by omega) (by omega)]; exact ha0) (by rw [k.block _ (by omega) (by omega)]; exact hb0))
 have HL := shut (fun w1 (k : Grew w.heap.size w0 w1) => (World.cell?_of_block (k.block 4 (by omega) (by omega))).trans hL0)
 have B := shut b0
 clear hT hL kp ha hb la lb ha0 hb0 hlL lp kp0 hL0 hT0 kr b0 hs0
 go_upto_region 4 with (go_at_call 92; refine HA.out.mono ?_; rintro e w1 ⟨rfl, k1, g1⟩)
 have c1 : w1.cell? ⟨w.heap.size, 0, none⟩ = some (.pointer (some ⟨p, 0, none⟩)) := k1.cell 0
 have hl1 : w1.cell? ⟨4, 0, none⟩ = some (.iface 348 (.pointer (some aL))) := HL.out _ g1
 go_wp2_with (go_at_call 93; refine (HI.out _ g1).mono ?_; rintro e w2 ⟨rfl, rfl⟩)
 go_ret
 exact ⟨rfl, g1.below B.out (Nat.le_refl _) (B.out.size)⟩
theorem errno_long (w : World) (aL : Addr) (p : Nat) (z : Int) (kp : Cel w p [.int .i64 z, .iface 348 (.pointer (some aL))] 134) (hT : ErrT w) (hL : w.cell? ⟨4, 0, none⟩ = some (.iface 348 (.pointer (some aL)))) :
  Calls Tryz.prog 43 #[.iface 132 (.pointer (some ⟨p, 0, none⟩))] w (Re w (.int .i64 5)) := by
 go_enter Tryz.func43, Tryz.ntmps43
 go_upto_region 2 with fail
 obtain ⟨w0, hq, kr, b0⟩ := mk1 w [.pointer none] 132
 rw [← hq]
 clear hq
 have hT0 : ErrT w0 := by unfold ErrT at hT ⊢; rw [b0.cell (World.block_lt_of_cell? w _ hT)]; exact hT
 have hL0 := (b0.cell (World.block_lt_of_cell? w _ hL)).trans hL
 have kp0 := kp.below b0
 have hlL : 4 < w.heap.size := World.block_lt_of_cell? w _ hL
 have lp := kp.lt
 have HA := shut (as_hit2 w.heap.size ⟨p, 0, none⟩ w0 hT0 kr)
 have hs0 := kr.lt
 have HI := shut (fun w1 (k : Grew w.heap.size w0 w1) => is_wrap_same p 0 aL w1 ((Grew.cel k kp0 (by omega)).cell 1))
 have HL := shut (fun w1 (k : Grew w.heap.size w0 w1) => (World.cell?_of_block (k.block 4 (by omega) (by omega))).trans hL0)
 have B := shut b0
 clear hT hL kp hlL lp kp0 hL0 hT0 kr b0 hs0
 go_upto_region 4 with (go_at_call 92; refine HA.out.mono ?_; rintro e w1 ⟨rfl, k1, g1⟩)
 have c1 : w1.cell? ⟨w.heap.size, 0, none⟩ = some (.pointer (some ⟨p, 0, none⟩)) := k1.cell 0
 have hl1 : w1.cell? ⟨4, 0, none⟩ = some (.iface 348 (.pointer (some aL))) := HL.out _ g1
 go_wp2_with (go_at_call 93; refine (HI.out _ g1).mono ?_; rintro e w2 ⟨rfl, rfl⟩)
 go_ret
 exact ⟨rfl, g1.below B.out (Nat.le_refl _) (B.out.size)⟩
theorem two_ne {l : List Nat} (e : l = [3, 5]) : l ≠ [] := by rw [e]; simp
theorem two_or {l : List Nat} {i : Nat} (h : i ∈ l) (e : l = [3, 5]) : i = 3 ∨ i = 5 := by rw [e] at h; simpa using h
set_option linter.constructorNameAsVariable false in
theorem read_long (s : ByteArray) (w : World) (hs : 20000 < s.size) (aL : Addr) (hL : w.cell? ⟨4, 0, none⟩ = some (.iface 348 (.pointer (some aL)))) :
  Calls Tryz.prog 42 #[.string s] w fun e w' => ∃ p z, e = .returned (.tuple #[.agg Z39.toArray, .iface 132 (.pointer (some ⟨p, 0, none⟩))]) ∧ Cel w' p [.int .i64 z, .iface 348 (.pointer (some aL))] 134 ∧ Below w.heap.size w w' := by
 have hs' : (s.size : Int) > 20000 := by omega
 go_enter Tryz.func42, Tryz.ntmps42
 go_upto_region 2 with fail
 obtain ⟨w0, hq, kz, b0⟩ := mk1 w [nilS, nilS, nilS, .bool false, .string eS, .string eS, .bool false, .string eS, .string eS, .bool false, .string eS, .string eS, .bool false, .string eS, .string eS, .bool false, .string eS, .string eS, .bool false, .string eS, .string eS, .bool false, .string eS, .string eS, .bool false, .string eS, .string eS, .bool false, .string eS, .string eS, .bool false, .string eS, .string eS, .bool false, .string eS, .string eS, .bool false, .string eS, .string eS] 46
 rw [← hq]
 clear hq
 have hL0 := (b0.cell (World.block_lt_of_cell? w _ hL)).trans hL
 refine wp_region_held_drew (S := fun w' => w'.cell? ⟨4, 0, none⟩ = some (.iface 348 (.pointer (some aL)))) (by kernel_rfl) hL0 (fun hS => ?_)
 replace kz := kz.drew'
 replace b0 := Below.after b0 (bdrew _)
 have hlL := World.block_lt_of_cell? w _ hL
 clear hL hL0
 generalize w0.drew = wd at *
 refine WA.start (n := 7) (by kernel_rfl) ?_
 refine WA.tp 0 rfl ?_
 refine WA.tp 1 rfl ?_
 refine WA.tp 2 rfl ?_
 refine WA.all (two_ne (by kernel_rfl)) (fun i hi => ?_)
 have sw : ∀ {w' : World}, Below wd.heap.size wd w' → w'.cell? ⟨4, 0, none⟩ = some (.iface 348 (.pointer (some aL))) := fun b => (b.cell (World.block_lt_of_cell? wd _ hS)).trans hS
 have lz := kz.lt
 rcases two_or hi (by kernel_rfl) with rfl | rfl
 ·refine wpOp_step rfl (fun K hK => ?_)
  go_simp
  obtain ⟨w1, hq, kp, b1⟩ := mk1 wd [.int .i64 0, .iface 348 (.pointer (some aL))] 134
  rw [← hq]
  refine hK _ _ ⟨sw b1, ?_⟩
  clear hK K hq hi
  replace hS := sw b1
  replace kz := kz.below b1
  replace b0 := Below.after b0 b1
  refine WA.tp 4 rfl ?_
  refine WA.cal 5 rfl (fun K hK => ?_)
  rw [if_pos (by rfl)]
  refine wp_store_row 46 _ _ rfl _ #[nilS, nilS, nilS, .bool false, .string eS, .string eS, .bool false, .string eS, .string eS, .bool false, .string eS, .string eS, .bool false, .string eS, .string eS, .bool false, .string eS, .string eS, .bool false, .string eS, .string eS, .bool false, .string eS, .string eS, .bool false, .string eS, .string eS, .bool false, .string eS, .string eS, .bool false, .string eS, .string eS, .bool false, .string eS, .string eS, .bool false, .string eS, .string eS] rfl rfl 46 _ kz (by kernel_rfl) rfl (by kernel_rfl) ?_
  have oZ := (Only.refl w.heap.size w1).setRow #[nilS, nilS, nilS, .bool false, .string eS, .string eS, .bool false, .string eS, .string eS, .bool false, .string eS, .string eS, .bool false, .string eS, .string eS, .bool false, .string eS, .string eS, .bool false, .string eS, .string eS, .bool false, .string eS, .string eS, .bool false, .string eS, .string eS, .bool false, .string eS, .string eS, .bool false, .string eS, .string eS, .bool false, .string eS, .string eS, .bool false, .string eS, .string eS]
  refine hK.out _ _ ((World.cell?_of_block (oZ.block 4 (Nat.ne_of_lt hlL))).trans hS) (fun hS => ?_)
  clear hK K
  refine WA.tp 6 rfl ?_
  refine WA.done (by kernel_rfl) ?_
  clear hS
  go_wp2_with fail
  exact post_pl (p := 2) (u := 3) (cs := [nilS, nilS, nilS, .bool false, .string eS, .string eS, .bool false, .string eS, .string eS, .bool false, .string eS, .string eS, .bool false, .string eS, .string eS, .bool false, .string eS, .string eS, .bool false, .string eS, .string eS, .bool false, .string eS, .string eS, .bool false, .string eS, .string eS, .bool false, .string eS, .string eS, .bool false, .string eS, .string eS, .bool false, .string eS, .string eS, .bool false, .string eS, .string eS]) (by kernel_rfl) rfl rfl rfl (kz.rowS [nilS, nilS, nilS, .bool false, .string eS, .string eS, .bool false, .string eS, .string eS, .bool false, .string eS, .string eS, .bool false, .string eS, .string eS, .bool false, .string eS, .string eS, .bool false, .string eS, .string eS, .bool false, .string eS, .string eS, .bool false, .string eS, .string eS, .bool false, .string eS, .string eS, .bool false, .string eS, .string eS, .bool false, .string eS, .string eS, .bool false, .string eS, .string eS]) rfl ⟨wd.heap.size, rfl, ⟨0, oZ.cel kp (by omega)⟩, oZ.below b0 (Nat.le_refl _)⟩
 ·refine wpOp_step rfl (fun K hK => ?_)
  rw [if_pos (by rfl)]
  refine wp_store_row 46 _ _ rfl _ #[nilS, nilS, nilS, .bool false, .string eS, .string eS, .bool false, .string eS, .string eS, .bool false, .string eS, .string eS, .bool false, .string eS, .string eS, .bool false, .string eS, .string eS, .bool false, .string eS, .string eS, .bool false, .string eS, .string eS, .bool false, .string eS, .string eS, .bool false, .string eS, .string eS, .bool false, .string eS, .string eS, .bool false, .string eS, .string eS, .bool false, .string eS, .string eS] rfl rfl 46 _ kz (by kernel_rfl) rfl (by kernel_rfl) ?_
  have oZ := (Only.refl w.heap.size wd).setRow #[nilS, nilS, nilS, .bool false, .string eS, .string eS, .bool false, .string eS, .string eS, .bool false, .string eS, .string eS, .bool false, .string eS, .string eS, .bool false, .string eS, .string eS, .bool false, .string eS, .string eS, .bool false, .string eS, .string eS, .bool false, .string eS, .string eS, .bool false, .string eS, .string eS, .bool false, .string eS, .string eS, .bool false, .string eS, .string eS, .bool false, .string eS, .string eS]
  have kr := kz.rowS [nilS, nilS, nilS, .bool false, .string eS, .string eS, .bool false, .string eS, .string eS, .bool false, .string eS, .string eS, .bool false, .string eS, .string eS, .bool false, .string eS, .string eS, .bool false, .string eS, .string eS, .bool false, .string eS, .string eS, .bool false, .string eS, .string eS, .bool false, .string eS, .string eS, .bool false, .string eS, .string eS, .bool false, .string eS, .string eS, .bool false, .string eS, .string eS]
  have bZ := oZ.below b0 (Nat.le_refl _)
  have hS1 := (World.cell?_of_block (oZ.block 4 (Nat.ne_of_lt hlL))).trans hS
  refine hK _ _ ⟨hS1, ?_⟩
  clear hK K hi sw hS
  generalize World.setRow _ _ _ = w1 at *
  refine WA.cal 3 rfl (fun K hK => ?_)
  simp only [List.getElem_toArray, List.getElem_cons_succ, List.getElem_cons_zero]
  go_simp
  obtain ⟨w2, hq, kp, b1⟩ := mk1 w1 [.int .i64 0, .iface 348 (.pointer (some aL))] 134
  rw [← hq]
  have hS2 := (b1.cell (World.block_lt_of_cell? w1 _ hS1)).trans hS1
  refine hK.out _ _ hS2 (fun hS => ?_)
  clear hK K hq
  refine WA.tp 4 rfl ?_
  refine WA.tp 6 rfl ?_
  refine WA.done (by kernel_rfl) ?_
  clear hS
  go_wp2_with fail
  exact post_pl (p := 2) (u := 3) (cs := [nilS, nilS, nilS, .bool false, .string eS, .string eS, .bool false, .string eS, .string eS, .bool false, .string eS, .string eS, .bool false, .string eS, .string eS, .bool false, .string eS, .string eS, .bool false, .string eS, .string eS, .bool false, .string eS, .string eS, .bool false, .string eS, .string eS, .bool false, .string eS, .string eS, .bool false, .string eS, .string eS, .bool false, .string eS, .string eS, .bool false, .string eS, .string eS]) (by kernel_rfl) rfl rfl rfl (kr.below b1) rfl ⟨w1.heap.size, rfl, ⟨0, kp⟩, Below.after bZ b1⟩
def PlanAt (w : World) (B : Nat) (cs : List Value) (p : Pl) : Prop := ∃ (v1 v2 v3 : Value) (x y : Nat → Q3), cs = pl39 v1 v2 v3 (L18 x) (L18 y) ∧
 w.ownsRow B 30 6 v1 p.pts.length (p.pts.flatMap cP) ∧ w.ownsRow B 103 3 v2 p.segs.length (p.segs.flatMap cS) ∧ w.ownsRow B 30 6 v3 p.holes.length (p.holes.flatMap cP) ∧
 p.F = [x 0, x 1, x 2, x 3, x 4, x 5] ∧ p.G = [y 0, y 1, y 2, y 3, y 4, y 5]
theorem planAt_of {w : World} {B : Nat} {v1 v2 v3 : Value} {x y : Nat → Q3} {A1 A3 : List (Q3 × Q3)} {A2 : List (Nat × Nat × Bool)} {A4 A5 : List Q3} (o1 : w.ownsRow B 30 6 v1 A1.length (A1.flatMap cP)) (o2 : w.ownsRow B 103 3 v2 A2.length (A2.flatMap cS))
  (o3 : w.ownsRow B 30 6 v3 A3.length (A3.flatMap cP)) (hF : A4 = [x 0, x 1, x 2, x 3, x 4, x 5]) (hG : A5 = [y 0, y 1, y 2, y 3, y 4, y 5]) : PlanAt w B (pl39 v1 v2 v3 (L18 x) (L18 y)) ⟨A1, A2, A3, A4, A5⟩ := ⟨v1, v2, v3, x, y, rfl, o1, o2, o3, hF, hG⟩
abbrev zQ : Q3 := (false, eS, eS)
def zPl : Pl := ⟨[], [], [], [zQ, zQ, zQ, zQ, zQ, zQ], [zQ, zQ, zQ, zQ, zQ, zQ]⟩
theorem planAt_zero (w : World) (B : Nat) : PlanAt w B Z39 zPl := ⟨nilS, nilS, nilS, fun _ => zQ, fun _ => zQ, rfl, World.ownsRow_nil _ _ _ _, World.ownsRow_nil _ _ _ _, World.ownsRow_nil _ _ _ _, rfl, rfl⟩
def psp (P : ByteArray → Q3) (E : ByteArray → Int) (s : ByteArray) : Pl × Int := if 20000 < s.size then (zPl, 5) else match plan P E (toks s) with | some p => (p, 0) | none => (zPl, 4)
theorem PlanAt.len {w : World} {B : Nat} {cs : List Value} {p : Pl} (h : PlanAt w B cs p) : cs.length = 39 := by
 obtain ⟨v1, v2, v3, x, y, rfl, -⟩ := h
 rfl
theorem PlanAt.one {w : World} {B : Nat} {cs : List Value} {p : Pl} (h : PlanAt w B cs p) : cs.toArray.all (·.oneCell') = true := by
 obtain ⟨v1, v2, v3, x, y, rfl, o1, o2, o3, -⟩ := h
 obtain ⟨a1, c1, rfl⟩ := own_val o1
 obtain ⟨a2, c2, rfl⟩ := own_val o2
 obtain ⟨a3, c3, rfl⟩ := own_val o3
 kernel_rfl
theorem PlanAt.only {w w' : World} {B g : Nat} {cs : List Value} {p : Pl} (h : PlanAt w B cs p) (k : Only g w w') (hg : g < B) : PlanAt w' B cs p := by
 obtain ⟨v1, v2, v3, x, y, h0, o1, o2, o3, h4⟩ := h
 exact ⟨v1, v2, v3, x, y, h0, own_only o1 k hg, own_only o2 k hg, own_only o3 k hg, h4⟩
theorem own_below {w w' : World} {B : Nat} {e : TypeId} {size n : Nat} {v : Value} {xs : List Value} (h : w.ownsRow B e size v n xs) (k : Below w.heap.size w w') : w'.ownsRow B e size v n xs := by
 obtain ⟨h1, h2⟩ := h
 refine ⟨h1, ?_⟩
 rcases h2 with h2 | ⟨q, cap, cur, h3, h4, h5, h6⟩
 ·exact .inl h2
 ·have hl : q < w.heap.size := by
   rcases Nat.lt_or_ge q w.heap.size with h | h
   ·exact h
   ·rw [Array.getElem?_eq_none h] at h5; cases h5
  exact .inr ⟨q, cap, cur, h3, h4, by rw [k.block q hl]; exact h5, h6⟩
theorem PlanAt.below {w w' : World} {B : Nat} {cs : List Value} {p : Pl} (h : PlanAt w B cs p) (k : Below w.heap.size w w') : PlanAt w' B cs p := by
 obtain ⟨v1, v2, v3, x, y, h0, o1, o2, o3, h4⟩ := h
 exact ⟨v1, v2, v3, x, y, h0, own_below o1 k, own_below o2 k, own_below o3 k, h4⟩
theorem PlanAt.mono {w : World} {B B' : Nat} {cs : List Value} {p : Pl} (h : PlanAt w B cs p) (hB : B' ≤ B) : PlanAt w B' cs p := by
 obtain ⟨v1, v2, v3, x, y, h0, o1, o2, o3, h4⟩ := h
 exact ⟨v1, v2, v3, x, y, h0, own_mono o1 hB, own_mono o2 hB, own_mono o3 hB, h4⟩
structure Env8 (w : World) (aL : Addr) : Prop where
 sens : Sens w.heap.size w aL
 tab : Tab w
 tabB : lays729_ren.g 1 < w.heap.size
 errT : ErrT w
theorem Env8.below {w w' : World} {aL : Addr} (h : Env8 w aL) (k : Below w.heap.size w w') : Env8 w' aL :=
 ⟨(h.sens.below k).mono k.size, h.tab.below k, Nat.lt_of_lt_of_le h.tabB k.size, by have := h.errT; unfold ErrT at this ⊢; rw [k.cell (World.block_lt_of_cell? w _ this)]; exact this⟩
theorem read_any (P : ByteArray → Q3) (E : ByteArray → Int) (hP : PR P E) (s : ByteArray) (w : World) (aL : Addr) (h : Env8 w aL) :
  Calls Tryz.prog 42 #[.string s] w fun e w' => ∃ (cs : List Value) (er : Value) (p : Pl), e = .returned (.tuple #[.agg cs.toArray, er]) ∧ PlanAt w' w.heap.size cs p ∧ Below w.heap.size w w' ∧
   ((psp P E s).2 = 0 → p = (psp P E s).1 ∧ er = .nilIface) ∧ ((psp P E s).2 ≠ 0 → er ≠ .nilIface ∧ (psp P E s).1 = zPl) ∧
   ∀ w1, Below w'.heap.size w' w1 → Calls Tryz.prog 43 #[er] w1 fun e w2 => e = .returned (.int .i64 (psp P E s).2) ∧ Below w1.heap.size w1 w2 := by
 unfold psp
 by_cases hs : 20000 < s.size
 ·rw [if_pos hs]
  refine (read_long s w hs aL h.sens.1.2.2.1).mono ?_
  rintro e w' ⟨p, z, rfl, kp, b⟩
  refine ⟨Z39, _, zPl, rfl, planAt_zero _ _, b, (fun h => by cases h), (fun _ => ⟨(fun h => by cases h), rfl⟩), fun w1 b1 => ?_⟩
  have hL := h.sens.1.2.2.1
  exact errno_long w1 aL p z (kp.below b1) (by have := (h.below b).errT; unfold ErrT at this ⊢; rw [b1.cell (World.block_lt_of_cell? w' _ this)]; exact this) (((h.below b).below b1).sens.1.2.2.1)
 ·rw [if_neg hs]
  refine (read_ok P E hP s w (by omega) aL h.sens h.tab h.tabB).mono ?_
  rintro e w' ⟨v1, v2, v3, er, x, y, rfl, o1, o2, o3, hF, hG, hok, hbad, b⟩
  have hp := planAt_of o1 o2 o3 hF hG
  unfold plan rpl
  generalize (r1 P E (toks s)).1 = A1 at *
  generalize (r2 P E (toks s)).1 = A2 at *
  generalize (r3 P E (toks s)).1 = A3 at *
  generalize (r4 P E (toks s)).1 = A4 at *
  generalize (r5 P E (toks s)).1 = A5 at *
  generalize r6 P E (toks s) = A6 at *
  by_cases h6 : A6 = some []
  ·rw [if_pos h6]
   obtain rfl := hok h6
   exact ⟨_, _, _, rfl, hp, b, fun _ => ⟨rfl, rfl⟩, fun h => absurd rfl h, fun w1 _ => errno_nil w1⟩
  ·rw [if_neg h6]
   have hr := hbad h6
   refine ⟨_, _, _, rfl, hp, b, (fun h => by cases h), fun _ => ⟨?_, rfl⟩, fun w1 b1 => ?_⟩
   ·obtain ⟨p, z, a, rfl, -⟩ := hr
    intro h; cases h
   ·have e1 := (h.below b).below b1
    have hr1 : RefE w1 aL er := by
     obtain ⟨p, z, a, h1, h2, ⟨c, t, h3⟩, h4⟩ := hr
     refine ⟨p, z, a, h1, h2, ⟨c, t, ?_⟩, h4.below b1⟩
     have hl : a.block < w'.heap.size := by
      rcases Nat.lt_or_ge a.block w'.heap.size with h | h
      ·exact h
      ·rw [Array.getElem?_eq_none h] at h3; cases h3
     rw [b1.block _ hl]; exact h3
    exact errno_ref w1 aL er hr1 e1.errT e1.sens.1.2.2.1 e1.sens.1.2.2.2
theorem fresh39 (w1 : World) (cs : List Value) (hl : cs.length = 39) (h1 : cs.toArray.all (·.oneCell') = true) : ∃ w2, (storeCells ⟨w1.heap.size, 0, none⟩ cs).run Tryz.prog (w1.alloc (.cells #[nilS, nilS, nilS, .bool false, .string eS, .string eS, .bool false, .string eS, .string eS, .bool false, .string eS, .string eS, .bool false, .string eS, .string eS, .bool false, .string eS, .string eS, .bool false, .string eS, .string eS, .bool false, .string eS, .string eS, .bool false, .string eS, .string eS, .bool false, .string eS, .string eS, .bool false, .string eS, .string eS, .bool false, .string eS, .string eS, .bool false, .string eS, .string eS] 46)) = .ok () w2 ∧ Cel w2 w1.heap.size cs 46 ∧ Below w1.heap.size w1 w2 := by
 have hc := Cel.new w1 [nilS, nilS, nilS, .bool false, .string eS, .string eS, .bool false, .string eS, .string eS, .bool false, .string eS, .string eS, .bool false, .string eS, .string eS, .bool false, .string eS, .string eS, .bool false, .string eS, .string eS, .bool false, .string eS, .string eS, .bool false, .string eS, .string eS, .bool false, .string eS, .string eS, .bool false, .string eS, .string eS, .bool false, .string eS, .string eS, .bool false, .string eS, .string eS] 46
 have := run_storeCells_from (P := Tryz.prog) w1.heap.size 46 cs 0 _ _ hc (by rw [Nat.zero_add, hl]; rfl) (fun v hv => (Array.all_eq_true_iff_forall_mem.1 h1) v (by simpa using hv))
 rw [List.take_zero, List.nil_append] at this
 exact ⟨_, this, hc.rowS cs, below_setRow ((Below.refl _ _).alloc (Nat.le_refl _) _) (Nat.le_refl _) _⟩
set_option linter.constructorNameAsVariable false in
theorem parse_any (P : ByteArray → Q3) (E : ByteArray → Int) (hP : PR P E) (s : ByteArray) (w : World) (aL : Addr) (h : Env8 w aL) :
  Calls Tryz.prog 18 #[.string s] w fun e w' => ∃ cs : List Value, e = .returned (.tuple #[.agg cs.toArray, .int .i64 (psp P E s).2]) ∧ PlanAt w' w.heap.size cs (psp P E s).1 ∧ Below w.heap.size w w' := by
 have HR := shut (fun w1 (b : Below w.heap.size w w1) => read_any P E hP s w1 aL (h.below b))
 generalize psp P E s = r at *
 obtain ⟨p0, e0⟩ := r
 clear h
 go_enter Tryz.func18, Tryz.ntmps18
 go_upto_region 1 with fail
 obtain ⟨w0, hq, kz, b0⟩ := mk1 w [nilS, nilS, nilS, .bool false, .string eS, .string eS, .bool false, .string eS, .string eS, .bool false, .string eS, .string eS, .bool false, .string eS, .string eS, .bool false, .string eS, .string eS, .bool false, .string eS, .string eS, .bool false, .string eS, .string eS, .bool false, .string eS, .string eS, .bool false, .string eS, .string eS, .bool false, .string eS, .string eS, .bool false, .string eS, .string eS, .bool false, .string eS, .string eS] 46
 rw [← hq]
 clear hq
 go_upto_region 2 with (go_at_call 42; refine (HR.out _ b0).mono ?_; rintro e w1 ⟨cs, er, p, rfl, hp, b1, h0, h1, hE⟩; have hlen := hp.len; obtain ⟨w2, hst, k2, b2⟩ := fresh39 w1 cs hp.len hp.one)
 go_upto_region 3 with (go_at_call 43; refine (hE w2 b2).mono ?_; rintro e w3 ⟨rfl, b3⟩)
 have kz3 := ((kz.below b1).below b2).below b3
 have k3 := k2.below b3
 have hp3 := (hp.below b2).below b3
 have s0 := b0.size
 have B3 := Below.after (Below.after (Below.after b0 b1) b2) b3
 have hlt : w.heap.size < w0.heap.size := kz.lt
 have one := hp.one
 clear hE hst k2 b2 b3 b1 kz b0 HR
 by_cases he : e0 = 0
 ·obtain ⟨rfl, rfl⟩ := h0 he
  subst he
  clear h0 h1
  go_wp2_with (first | (refine wpList_load_row rfl 46 _ rfl _ rfl 46 cs.toArray (0, 0) _ k3 Tryz.underlying46 rfl (by rw [List.size_toArray, hlen]; kernel_rfl) ?_) | (refine wpList_store_row rfl 46 _ _ rfl _ cs.toArray rfl rfl 46 _ kz3 (by rw [List.size_toArray, hlen]; kernel_rfl) (show 39 = cs.toArray.size by rw [List.size_toArray, hlen]) one ?_))
  have oZ := (Only.refl w.heap.size w3).setRow cs.toArray
  exact post_pl (p := 2) (u := 3) (cs := cs) (by kernel_rfl) rfl rfl rfl (kz3.rowS cs) hlen ⟨cs, rfl, (hp3.only oZ hlt).mono s0, oZ.below B3 (Nat.le_refl _)⟩
 ·obtain ⟨-, rfl⟩ := h1 he
  clear h0 h1 hp3 hp k3 one
  go_wp2_with (refine wpList_store_row rfl 46 _ _ rfl _ #[nilS, nilS, nilS, .bool false, .string eS, .string eS, .bool false, .string eS, .string eS, .bool false, .string eS, .string eS, .bool false, .string eS, .string eS, .bool false, .string eS, .string eS, .bool false, .string eS, .string eS, .bool false, .string eS, .string eS, .bool false, .string eS, .string eS, .bool false, .string eS, .string eS, .bool false, .string eS, .string eS, .bool false, .string eS, .string eS, .bool false, .string eS, .string eS] rfl rfl 46 _ kz3 (by kernel_rfl) rfl (by kernel_rfl) ?_)
  have oZ := (Only.refl w.heap.size w3).setRow #[nilS, nilS, nilS, .bool false, .string eS, .string eS, .bool false, .string eS, .string eS, .bool false, .string eS, .string eS, .bool false, .string eS, .string eS, .bool false, .string eS, .string eS, .bool false, .string eS, .string eS, .bool false, .string eS, .string eS, .bool false, .string eS, .string eS, .bool false, .string eS, .string eS, .bool false, .string eS, .string eS, .bool false, .string eS, .string eS, .bool false, .string eS, .string eS]
  exact post_pl (p := 2) (u := 3) (cs := [nilS, nilS, nilS, .bool false, .string eS, .string eS, .bool false, .string eS, .string eS, .bool false, .string eS, .string eS, .bool false, .string eS, .string eS, .bool false, .string eS, .string eS, .bool false, .string eS, .string eS, .bool false, .string eS, .string eS, .bool false, .string eS, .string eS, .bool false, .string eS, .string eS, .bool false, .string eS, .string eS, .bool false, .string eS, .string eS, .bool false, .string eS, .string eS]) (by kernel_rfl) rfl rfl rfl (kz3.rowS [nilS, nilS, nilS, .bool false, .string eS, .string eS, .bool false, .string eS, .string eS, .bool false, .string eS, .string eS, .bool false, .string eS, .string eS, .bool false, .string eS, .string eS, .bool false, .string eS, .string eS, .bool false, .string eS, .string eS, .bool false, .string eS, .string eS, .bool false, .string eS, .string eS, .bool false, .string eS, .string eS, .bool false, .string eS, .string eS, .bool false, .string eS, .string eS]) rfl ⟨[nilS, nilS, nilS, .bool false, .string eS, .string eS, .bool false, .string eS, .string eS, .bool false, .string eS, .string eS, .bool false, .string eS, .string eS, .bool false, .string eS, .string eS, .bool false, .string eS, .string eS, .bool false, .string eS, .string eS, .bool false, .string eS, .string eS, .bool false, .string eS, .string eS, .bool false, .string eS, .string eS, .bool false, .string eS, .string eS, .bool false, .string eS, .string eS], rfl, planAt_zero _ _, oZ.below B3 (Nat.le_refl _)⟩
theorem below_grown {B : Nat} {w w1 w2 : World} {row : Option Nat} (h : Below B w w1) (hg : w1.grownBy w2 row) (hB : B ≤ w.heap.size) (hr : ∀ k, row = some k → B ≤ k) : Below B w w2 :=
 ⟨hg.os.trans h.os, hg.tape.trans h.tape, hg.output.trans h.output, Nat.le_trans h.size hg.size, fun i hi => (hg.block i (Nat.lt_of_lt_of_le hi (Nat.le_trans hB h.size)) (fun e => by have := hr i e.symm; omega)).trans (h.block i hi)⟩
theorem own_grown {w w' : World} {B B' z z' n n' : Nat} {e e' : TypeId} {u v : Value} {xs ys : List Value} (h : w.ownsRow B e z u n xs) (hv : w.ownsRow B' e' z' v n' ys) (hne : e ≠ e') (hg : w.grownBy w' v.ownBlock) : w'.ownsRow B e z u n xs := by
 obtain ⟨h1, h2⟩ := h
 refine ⟨h1, ?_⟩
 rcases h2 with h2 | ⟨q, cap, cur, h3, h4, h5, h6⟩
 ·exact .inl h2
 ·have hl : q < w.heap.size := by
   rcases Nat.lt_or_ge q w.heap.size with h | h
   ·exact h
   ·rw [Array.getElem?_eq_none h] at h5; cases h5
  refine .inr ⟨q, cap, cur, h3, h4, ?_, h6⟩
  rw [hg.block q hl ?_]
  ·exact h5
  ·intro hk
   rcases hv.2 with ⟨rfl, -⟩ | ⟨g, cap', cur', rfl, k4, k5, -⟩
   ·cases hk
   ·injection hk with hk
    subst hk
    have := Option.some.inj (h5.symm.trans k5)
    injection this with _ e _
    exact hne e
theorem cel_grown {w w' : World} {B z n g : Nat} {e t : TypeId} {v : Value} {xs cs : List Value} (k : Cel w g cs t) (hv : w.ownsRow B e z v n xs) (hne : t ≠ e) (hg : w.grownBy w' v.ownBlock) : Cel w' g cs t := by
 have hl := k.lt
 unfold Cel at k ⊢
 rw [hg.block g hl ?_]
 ·exact k
 ·intro hk
  rcases hv.2 with ⟨rfl, -⟩ | ⟨q, cap', cur', rfl, k4, k5, -⟩
  ·cases hk
  ·injection hk with hk
   subst hk
   have := Option.some.inj (k.symm.trans k5)
   injection this with _ e _
   exact hne e
theorem own_cel {w : World} {B g : Nat} {e : TypeId} {cs : List Value} {n : Nat} (h : Cel w g cs e) (hB : B ≤ g) (hn : cs.length = n) (hm : n ≤ 1000) : w.ownsRow B e 1 (.slice (some ⟨g, 0, none⟩) n n) n cs := by
 subst hn
 exact ⟨by simp, Or.inr ⟨g, _, _, rfl, hB, h, Nat.le_refl _, by unfold maxLen; omega, by simp, by simp⟩⟩
def LnsR (w : World) (B : Nat) (v : Value) (L : List (List ByteArray)) : Prop := ∃ vs : List Value, w.ownsRow B 91 1 v L.length vs ∧ ∀ (j : Nat) (l : List ByteArray), L[j]? = some l → ∃ u, vs[j]? = some u ∧ w.ownsRow B 9 1 u l.length (l.map Value.string)
theorem LnsR.below {w w' : World} {B : Nat} {v : Value} {L : List (List ByteArray)} (h : LnsR w B v L) (k : Below w.heap.size w w') : LnsR w' B v L := by
 obtain ⟨vs, h1, h2⟩ := h
 refine ⟨vs, own_below h1 k, fun j l hl => ?_⟩
 obtain ⟨u, h3, h4⟩ := h2 j l hl
 exact ⟨u, h3, own_below h4 k⟩
theorem LnsR.app {w w' : World} {B : Nat} {v v' : Value} {L M : List (List ByteArray)} {us : List Value} (h : LnsR w B v L)
  (hu : ∀ (j : Nat) (l : List ByteArray), M[j]? = some l → ∃ u, us[j]? = some u ∧ w.ownsRow B 9 1 u l.length (l.map Value.string))
  (hv' : ∀ vs : List Value, w.ownsRow B 91 1 v L.length vs → w'.ownsRow B 91 1 v' (L.length + M.length) (vs ++ us)) (hg : w.grownBy w' v.ownBlock) : LnsR w' B v' (L ++ M) := by
 obtain ⟨vs, h1, h2⟩ := h
 have hvl : vs.length = L.length := by rw [h1.1, Nat.mul_one]
 have hne : 9 ≠ 91 := by decide
 refine ⟨vs ++ us, by rw [List.length_append]; exact hv' vs h1, fun j l hj => ?_⟩
 by_cases hlt : j < L.length
 ·rw [List.getElem?_append_left hlt] at hj
  obtain ⟨u, h3, h4⟩ := h2 j l hj
  exact ⟨u, by rw [List.getElem?_append_left (by omega)]; exact h3, own_grown h4 h1 hne hg⟩
 ·rw [List.getElem?_append_right (by omega)] at hj
  obtain ⟨u, h3, h4⟩ := hu _ _ hj
  exact ⟨u, by rw [List.getElem?_append_right (by omega), hvl]; exact h3, own_grown h4 h1 hne hg⟩
theorem wp_apL {w : World} {o : Oper} {a : Act} {K : Act → World → Prop} {Q : Exit → Act → World → Prop} (s x : Operand) (hop : o.op = Op.call { callee := Callee.builtin Builtin.append, args := #[s, x], argTypes := #[151, 151] })
  (v : Value) (B : Nat) (L : List (List ByteArray)) (hs : a.eval s = v) (hL : LnsR w B v L) (hB : B ≤ w.heap.size) (b c k : Nat) (hx : a.eval x = .slice (some ⟨b, 0, none⟩) k c)
  (us : List Value) (M : List (List ByteArray)) (hc : Cel w b us 91) (hk : us.length = k) (hm : M.length = k)
  (hu : ∀ (j : Nat) (l : List ByteArray), M[j]? = some l → ∃ u, us[j]? = some u ∧ w.ownsRow B 9 1 u l.length (l.map Value.string)) (h1 : ∀ u ∈ us, u.oneCell' = true) (hn : L.length + k ≤ 1000000)
  (hK : ∀ v' w', LnsR w' B v' (L ++ M) → Below B w w' → (∀ g cs t, t ≠ 91 → Cel w g cs t → Cel w' g cs t) → K (a.put o.dst v') w') :
  o.wp Tryz.prog a w K Q := by
 obtain ⟨vs, ho, -⟩ := id hL
 obtain ⟨i0, hi, hz0, hz1, hz2⟩ := info_parts (show (Tryz.prog.info? 91).map (fun i => (i.zero, i.size, i.bytes)) = some (some (.slice none 0 0), 1, 24) by kernel_rfl)
 refine wp_append_own w s x 151 hop B 91 i0 (.slice none 0 0) 1 24 Tryz.underlying151 hi hz0 hz1 hz2 (by kernel_rfl) (by decide) v L.length vs hs ho ⟨b, 0, none⟩ k c us hx (by rw [hk, Nat.mul_one]) (fun j u hj => ?_) h1 (by unfold maxLen; omega) (by omega) hB (fun v' w' h2 h3 _ => hK v' w' (hL.app hu (fun vs' ho' => ?_) h3) (below_grown (Below.refl _ _) h3 hB (fun q hq => (ho.lt q hq).1)) (fun g cs t ht hc => cel_grown hc ho ht h3))
 ·rw [show (⟨b, 0, none⟩ : Addr).add j = ⟨b, j, none⟩ by simp [Addr.add]; omega, hc.cell j]
  exact hj
 ·have : vs' = vs := by
   rcases ho.2 with ⟨e1, e2⟩ | ⟨g, cap, cur, e1, -, e2, -, -, -, e3⟩
   ·have a1 := ho.1
    have a2 := ho'.1
    rw [e2, Nat.zero_mul] at a1 a2
    rw [List.length_eq_zero_iff.1 a1, List.length_eq_zero_iff.1 a2]
   ·rcases ho'.2 with ⟨d1, d2⟩ | ⟨g', cap', cur', d1, -, d2, -, -, -, d3⟩
    ·rw [d1] at e1; cases e1
    ·rw [d1] at e1
     obtain ⟨e5, -, -⟩ := Value.slice.inj e1
     have e6 : g' = g := congrArg Addr.block (Option.some.inj e5)
     subst e6
     have := Option.some.inj (d2.symm.trans e2)
     injection this with e4 _ _
     rw [← e3, ← d3, e4]
  rw [this, hm]
  exact h2
theorem ba1 {w : World} (o : Obj) : Below w.heap.size w (w.alloc o) := (Below.refl _ _).alloc (Nat.le_refl _) _
theorem wp_ap9 {w : World} {o : Oper} {a : Act} {K : Act → World → Prop} {Q : Exit → Act → World → Prop} (s x : Operand) (hop : o.op = Op.call { callee := Callee.builtin Builtin.append, args := #[s, x], argTypes := #[151, 151] })
  (v : Value) (B : Nat) (L : List (List ByteArray)) (hs : a.eval s = v) (w0 : World) (u : Value) (l : List ByteArray) (hw : w = w0.alloc (.cells [u].toArray 91)) (hL : LnsR w0 B v L) (hB : B ≤ w0.heap.size) (g : Nat) (hg : w0.heap.size = g) (hx : a.eval x = .slice (some ⟨g, 0, none⟩) 1 1)
  (hu : w0.ownsRow B 9 1 u l.length (l.map Value.string)) (hn : L.length + 1 ≤ 1000000)
  (hK : ∀ v' w', LnsR w' B v' (L ++ [l]) → Below B w0 w' → (∀ g cs t, t ≠ 91 → Cel w0 g cs t → Cel w' g cs t) → K (a.put o.dst v') w') :
  o.wp Tryz.prog a w K Q := by
 subst hw
 subst hg
 obtain ⟨ua, uc, rfl⟩ := own_val hu
 refine wp_apL s x hop v B L hs (hL.below (ba1 _)) (Nat.le_trans hB (ba1 _).size) w0.heap.size 1 1 hx [.slice ua l.length uc] [l] (Cel.new _ _ _) rfl rfl (fun j l' hj => ?_) (fun u hu => ?_) hn (fun v' w' h1 h2 h3 => hK v' w' h1 (((Below.refl _ _).alloc hB _).trans h2) (fun g cs t ht hc => h3 g cs t ht (hc.below (ba1 _))))
 ·cases j with
  | zero => injection hj with hj; subst hj; exact ⟨_, rfl, own_below hu (ba1 _)⟩
  | succ j => simp at hj
 ·rw [List.mem_singleton.1 hu]; rfl
theorem wpList_ap9 {w : World} {ops : Array Oper} {rest : List Oper} {o : Oper} {a : Act} {Q : Exit → Act → World → Prop}
  (hgd : o.guard = none) (s x : Operand) (hop : o.op = Op.call { callee := Callee.builtin Builtin.append, args := #[s, x], argTypes := #[151, 151] })
  (v : Value) (B : Nat) (L : List (List ByteArray)) (hs : a.eval s = v) (w0 : World) (u : Value) (l : List ByteArray) (hw : w = w0.alloc (.cells [u].toArray 91)) (hL : LnsR w0 B v L) (hB : B ≤ w0.heap.size) (g : Nat) (hg : w0.heap.size = g) (hx : a.eval x = .slice (some ⟨g, 0, none⟩) 1 1)
  (hu : w0.ownsRow B 9 1 u l.length (l.map Value.string)) (hn : L.length + 1 ≤ 1000000)
  (hK : ∀ v' w', LnsR w' B v' (L ++ [l]) → Below B w0 w' → wpList Tryz.prog ops Q rest (a.put o.dst v') w') :
  wpList Tryz.prog ops Q (o :: rest) a w := wpList_plain hgd fun _ hK' => wp_ap9 s x hop v B L hs w0 u l hw hL hB g hg hx hu hn fun v' w' h1 h2 _ => hK' _ _ (hK v' w' h1 h2)
def lnP (T : Q3 → ByteArray) (l : List (Q3 × Q3)) : List (List ByteArray) := l.map fun q => [T q.1, T q.2]
def lnS (l : List (Nat × Nat × Bool)) : List (List ByteArray) := l.map fun s => [dg s.1, dg s.2.1, kd8 s.2.2]
def lines8 (T : Q3 → ByteArray) (p : Pl) : List (List ByteArray) :=
 ((((((([[wP]] ++ [[wV, dg p.pts.length]]) ++ lnP T p.pts) ++ [[wS, dg p.segs.length]]) ++ lnS p.segs) ++ [[wH, dg p.holes.length]]) ++ lnP T p.holes) ++ [[wF] ++ p.F.map T, [wG] ++ p.G.map T, [wE]])
def wtL (L : List (List ByteArray)) : List UInt8 := L.flatMap fun l => jnL l ++ [10]
def wtx (T : Q3 → ByteArray) (p : Pl) : ByteArray := ⟨(wtL (lines8 T p)).toArray⟩
theorem TX.below {T : Q3 → ByteArray} {q : Q3} {w w0 : World} (h : TX T q w) (b : Below w.heap.size w w0) : TX T q w0 := fun w1 b1 => h w1 (Below.after b b1)
structure WL (w0 : World) (G : Nat) (cs : List Value) (v : Value) (L : List (List ByteArray)) (wi : World) : Prop where
 kz : Cel wi G cs 46
 ln : LnsR wi w0.heap.size v L
 bw : Below w0.heap.size w0 wi
 hG : G < w0.heap.size
theorem WL.below {w0 wi wj : World} {G : Nat} {cs : List Value} {v : Value} {L : List (List ByteArray)} (h : WL w0 G cs v L wi) (b : Below wi.heap.size wi wj) : WL w0 G cs v L wj :=
 ⟨h.kz.below b, h.ln.below b, Below.after h.bw b, h.hG⟩
theorem cel_b {B g : Nat} {cs : List Value} {t : TypeId} {w w' : World} (h : Cel w g cs t) (b : Below B w w') (hB : g < B) : Cel w' g cs t := by
 unfold Cel at h ⊢
 rw [b.block g hB]
 exact h
theorem WL.app {w0 wi wj wk : World} {G : Nat} {cs : List Value} {v v' : Value} {L L' : List (List ByteArray)} (h : WL w0 G cs v L wi) (b : Below wi.heap.size wi wj) (hl : LnsR wk w0.heap.size v' L') (b' : Below w0.heap.size wj wk) : WL w0 G cs v' L' wk :=
 ⟨cel_b (h.kz.below b) b' h.hG, hl, (Below.after h.bw b).trans b', h.hG⟩
theorem flat_str (l : List ByteArray) : (l.flatMap fun t => [Value.string t]) = l.map Value.string := by
 induction l with
 | nil => rfl
 | cons a l ih => rw [List.flatMap_cons, ih, List.map_cons]; rfl
theorem rowS_own {w : World} {B : Nat} {v : Value} {l : List ByteArray} (h : w.ownsRow B 9 1 v l.length (l.map Value.string)) : RowR w 1 v (l.map fun u => [Value.string u]) := by
 rw [← flat_str] at h
 exact RowR.of (fun u => [Value.string u]) (fun _ => rfl) h
theorem rowS_pt {w : World} {t : ByteArray} {x : Value} (h : PtS [.string t] 9 1 x w) : RowR w 1 x ([t].map fun u => [Value.string u]) := by
 obtain ⟨g, rfl, k⟩ := h
 refine ⟨_, 1, rfl, Nat.le_refl _, fun j q hq => ⟨g, 0, rfl, k.lt, fun i v hv => ?_⟩⟩
 rw [k.cell]
 match j, hq with
 | 0, hq => injection hq with hq; subst hq; match i, hv with | 0, hv => exact hv
theorem join_any (l : List ByteArray) (v : Value) (w : World) (hr : RowR w 1 v (l.map fun u => [Value.string u])) (h0 : 0 < l.length) (hl : l.length ≤ 10) (hz : ∀ u, u ∈ l → u.size ≤ 1000) :
  Calls Tryz.prog 101 #[v, .string ⟨#[32]⟩] w (Re w (.string ⟨(jnL l).toArray⟩)) := by
 match l, hr, h0, hl, hz with
 | [t], hr, _, _, _ => exact join_one t v w hr
 | t :: u :: r, hr, _, hl, hz => exact join_more t (u :: r) v w hr (by simp at hl ⊢; omega) (by simp) (fun q hq => Nat.le_trans (hz q hq) (by decide))
theorem rowV_own {w : World} {B n : Nat} {e : TypeId} {v : Value} {vs : List Value} (h : w.ownsRow B e 1 v n vs) : RowR w 1 v (vs.map fun u => [u]) := by
 have hn : vs.length = n := by rw [h.1, Nat.mul_one]
 subst hn
 have hf : (vs.flatMap fun u => [u]) = vs := by simp
 have h' : w.ownsRow B e 1 v vs.length (vs.flatMap fun u => [u]) := by rw [hf]; exact h
 exact RowR.of (fun u => [u]) (fun _ => rfl) h'
def LnOk (L : List (List ByteArray)) : Prop := ∀ l, l ∈ L → 0 < l.length ∧ l.length ≤ 10 ∧ ∀ t, t ∈ l → t.size ≤ 1000
theorem dg_size (n : Nat) (h : n < 100) : (dg n).size ≤ 1000 := by
 have : ∀ n, n < 100 → (dg n).size ≤ 1000 := by decide +kernel
 exact this n h
theorem kd8_size (f : Bool) : (kd8 f).size ≤ 1000 := by cases f <;> decide
theorem lnOk_app {L M : List (List ByteArray)} (h : LnOk L) (k : LnOk M) : LnOk (L ++ M) := fun l hl => by
 rcases List.mem_append.1 hl with q | q
 ·exact h l q
 ·exact k l q
theorem lnOk_two {a b : ByteArray} (ha : a.size ≤ 1000) (hb : b.size ≤ 1000) : LnOk [[a, b]] := fun l hl => by
 rw [List.mem_singleton.1 hl]
 refine ⟨by simp, by simp, fun t ht => ?_⟩
 rcases List.mem_cons.1 ht with rfl | ht
 ·exact ha
 ·rw [List.mem_singleton.1 ht]; exact hb
theorem lnOk_P {T : Q3 → ByteArray} (hT : ∀ q, (T q).size ≤ 1000) (l : List (Q3 × Q3)) : LnOk (lnP T l) := fun m hm => by
 obtain ⟨q, -, rfl⟩ := List.mem_map.1 hm
 exact lnOk_two (hT _) (hT _) _ (List.mem_singleton.2 rfl)
theorem lnOk_S (l : List (Nat × Nat × Bool)) (h : ∀ s, s ∈ l → s.1 < 100 ∧ s.2.1 < 100) : LnOk (lnS l) := fun m hm => by
 obtain ⟨q, hq, rfl⟩ := List.mem_map.1 hm
 obtain ⟨h1, h2⟩ := h q hq
 refine ⟨by simp, by simp, fun t ht => ?_⟩
 rcases List.mem_cons.1 ht with rfl | ht
 ·exact dg_size _ h1
 rcases List.mem_cons.1 ht with rfl | ht
 ·exact dg_size _ h2
 ·rw [List.mem_singleton.1 ht]; exact kd8_size _
theorem lnOk_F {T : Q3 → ByteArray} (hT : ∀ q, (T q).size ≤ 1000) (c : ByteArray) (hc : c.size ≤ 1000) (F : List Q3) (hF : F.length ≤ 9) (l : List ByteArray) (hl : l = [c] ++ F.map T) : 0 < l.length ∧ l.length ≤ 10 ∧ ∀ t, t ∈ l → t.size ≤ 1000 := by
 subst hl
 refine ⟨by simp, by simp; omega, fun t ht => ?_⟩
 rcases List.mem_append.1 ht with ht | ht
 ·rw [List.mem_singleton.1 ht]; exact hc
 ·obtain ⟨q, -, rfl⟩ := List.mem_map.1 ht
  exact hT q
theorem lines_ok {T : Q3 → ByteArray} (hT : ∀ q, (T q).size ≤ 1000) (A1 A3 : List (Q3 × Q3)) (A2 : List (Nat × Nat × Bool)) (F G : List Q3) (h1 : A1.length < 100) (h2 : A2.length < 100) (h3 : A3.length < 100) (hF : F.length ≤ 9) (hG : G.length ≤ 9) (hs : ∀ s, s ∈ A2 → s.1 < 100 ∧ s.2.1 < 100) : LnOk (lines8 T ⟨A1, A2, A3, F, G⟩) := by
 unfold lines8
 have w1 : ∀ c : ByteArray, c.size ≤ 1000 → LnOk [[c]] := fun c hc l hl => by
  rw [List.mem_singleton.1 hl]
  exact ⟨by simp, by simp, fun t ht => by rw [List.mem_singleton.1 ht]; exact hc⟩
 refine lnOk_app (lnOk_app (lnOk_app (lnOk_app (lnOk_app (lnOk_app (lnOk_app (w1 _ (by decide)) (lnOk_two (by decide) (dg_size _ h1))) (lnOk_P hT _)) (lnOk_two (by decide) (dg_size _ h2))) (lnOk_S _ hs)) (lnOk_two (by decide) (dg_size _ h3))) (lnOk_P hT _)) ?_
 intro l hl
 rcases List.mem_cons.1 hl with h | hl
 ·exact lnOk_F hT _ (by decide) F hF l h
 rcases List.mem_cons.1 hl with h | hl
 ·exact lnOk_F hT _ (by decide) G hG l h
 ·rw [List.mem_singleton.1 hl]
  exact w1 wE (by decide) _ (List.mem_singleton.2 rfl)
theorem jnL_len (l : List ByteArray) (h : ∀ t, t ∈ l → t.size ≤ 1000) : (jnL l).length ≤ l.length * 1001 := by
 have hs : ∀ t : ByteArray, t.data.toList.length = t.size := fun t => Array.length_toList
 have hr : ∀ r : List ByteArray, (∀ t, t ∈ r → t.size ≤ 1000) → (r.flatMap fun u => 32 :: u.data.toList).length ≤ r.length * 1001 := by
  intro r
  induction r with
  | nil => intro _; exact Nat.le_refl _
  | cons a r ih =>
   intro h
   have h1 := ih (fun t ht => h t (List.mem_cons_of_mem _ ht))
   have h2 := h a (List.mem_cons_self ..)
   rw [List.flatMap_cons, List.length_append, List.length_cons, hs, List.length_cons]
   omega
 cases l with
 | nil => exact Nat.le_refl _
 | cons t r =>
  have h1 := hr r (fun u hu => h u (List.mem_cons_of_mem _ hu))
  have h2 := h t (List.mem_cons_self ..)
  unfold jnL
  rw [List.length_append, hs, List.length_cons]
  omega
theorem line_at {w : World} {B n : Nat} {aL : Option Addr} {cL : Nat} {vs : List Value} {L : List (List ByteArray)} (h : w.ownsRow B 91 1 (.slice aL n cL) n vs) (hL : ∀ (j : Nat) (l : List ByteArray), L[j]? = some l → ∃ u, vs[j]? = some u ∧ w.ownsRow B 9 1 u l.length (l.map Value.string)) (j : Nat) (l : List ByteArray) (hl : L[j]? = some l) :
  ∃ g o au cu, aL = some ⟨g, o, none⟩ ∧ w.cell? ⟨g, o + j, none⟩ = some (.slice au l.length cu) ∧ RowR w 1 (.slice au l.length cu) (l.map fun u => [Value.string u]) := by
 obtain ⟨u, hu, ho⟩ := hL j l hl
 obtain ⟨au, cu, rfl⟩ := own_val ho
 obtain ⟨a, c, e, -, hr⟩ := rowV_own h
 have ea := (Value.slice.inj e).1
 obtain ⟨g, o, eg, -, hc⟩ := hr j [.slice au l.length cu] (by rw [List.getElem?_map, hu]; rfl)
 have := hc 0 _ rfl
 rw [Nat.mul_one, Nat.add_zero] at this
 exact ⟨g, o, au, cu, by rw [ea, eg], this, rowS_own ho⟩
theorem isb_below {T e : TypeId} {B b : Nat} {bs : List Value} {w w' : World} (h : Lib.IsBuilder T e B b bs w) (k : Below w.heap.size w w') : Lib.IsBuilder T e B b bs w' := by
 have one : ∀ p, Lib.BuilderAt T e B b p bs w → Lib.BuilderAt T e B b p bs w' := by
  rintro p ⟨h1, v, h2, h3, h4⟩
  have hl : b < w.heap.size := by
   rcases Nat.lt_or_ge b w.heap.size with h | h
   ·exact h
   ·rw [Array.getElem?_eq_none h] at h2; cases h2
  exact ⟨h1, v, by rw [k.block b hl]; exact h2, own_below h3 k, h4⟩
 exact h.elim (fun q => Or.inl (one _ q)) (fun q => Or.inr (one _ q))
theorem wtL_up (L : List (List ByteArray)) (k : Nat) (l : List ByteArray) (h : L[k]? = some l) : wtL (L.take k) ++ (jnL l ++ [10]) = wtL (L.take (k + 1)) := by
 rw [List.take_add_one, h]
 unfold wtL
 simp
theorem app10 (l : List UInt8) : Lib.strCells ((⟨l.toArray⟩ : ByteArray) ++ ⟨#[10]⟩) = Lib.byteCells (l ++ [10]) := by
 rw [Lib.strCells_eq, ByteArray.data_append]
 simp
theorem size10 (l : List UInt8) : ((⟨l.toArray⟩ : ByteArray) ++ ⟨#[10]⟩).size = l.length + 1 := by
 rw [ByteArray.size_append]
 simp [ByteArray.size]
theorem write_line (b : Nat) (Lb l : List UInt8) (w : World) (h : Lib.IsBuilder 158 5 b b (Lib.byteCells Lb) w) (hlen : Lb.length + l.length + 1 ≤ 140737488355328) (hb : b ≤ w.heap.size) :
  Calls Tryz.prog 100 #[.pointer (some ⟨b, 0, none⟩), .string ((⟨l.toArray⟩ : ByteArray) ++ ⟨#[10]⟩)] w fun e w' => ∃ n : Int, e = .returned (.tuple #[.int .i64 n, .nilIface]) ∧ Lib.IsBuilder 158 5 b b (Lib.byteCells (Lb ++ (l ++ [10]))) w' ∧ Below b w w' := by
 have H : Calls Tryz.prog 100 #[.pointer (some ⟨b, 0, none⟩), .string ((⟨l.toArray⟩ : ByteArray) ++ ⟨#[10]⟩)] w fun e w' => e = .returned (.tuple #[.int .i64 ((⟨l.toArray⟩ : ByteArray) ++ ⟨#[10]⟩).size, .nilIface]) ∧ (Lib.BuilderAt 158 5 b b (.pointer (some ⟨b, 0, none⟩)) (Lib.byteCells Lb ++ Lib.strCells ((⟨l.toArray⟩ : ByteArray) ++ ⟨#[10]⟩)) w' ∧ Below b w w') :=
  Any.Builder_WriteString lays166 Extra_105 b b (Lib.byteCells Lb) _ w h (by rw [Lib.byteCells_length, size10]; omega) hb
 refine H.mono ?_
 rintro e w' ⟨rfl, A, k⟩
 rw [app10, ← Lib.byteCells_append] at A
 exact ⟨_, rfl, Or.inr A, k⟩
def PR3 (P : ByteArray → Q3) (E : ByteArray → Int) : Prop := ∀ (t : ByteArray) (w : World), t.size ≤ 100000 → Calls Tryz.prog 153 #[.string t] w fun e w' => e = .returned (.tuple #[vQ (P t), .int .i64 (E t)]) ∧ Below w.heap.size w w'
theorem lm_at (t : ByteArray) (k : Nat) (h : k < t.size) : ((t[k]'h).toNat : Int) = (lm (byts t) k : Nat) := by rw [byts_at t k h]
def TL (R : Nat) (w : World) (v : Value) (l : List ByteArray) : Prop :=
 (l = [] ∧ ∃ a c, v = .slice a 0 c) ∨ ∃ (A o c : Nat), v = .slice (some ⟨A, o, none⟩) l.length c ∧ l.length ≤ c ∧ A < R ∧ (∀ j, j < l.length → w.cell? ⟨A, o + j, none⟩ = some (.string (nt l j))) ∧ l.length ≤ 100000
def RfR (w : World) (R : Nat) (s : RS) : Prop := ∃ v, Cel w R [v, .bool s.2] 94 ∧ TL R w v s.1 ∧ ∀ t, t ∈ s.1 → t.size ≤ 100000
def QC (R f : Nat) (xs : Array Value) (w : World) (st : RS) (v : Value) (st' : RS) : Prop :=
 R < w.heap.size → RfR w R st → Calls Tryz.prog f xs w fun e w' => e = .returned v ∧ RfR w' R st' ∧ Grew R w w'
theorem cellsU0 : Value.cells (.string { data := #[] }) = #[.string { data := #[] }] := by kernel_rfl
theorem wpList_apU {w : World} {ops : Array Oper} {rest : List Oper} {o : Oper} {a : Act} {Q : Exit → Act → World → Prop}
  (hg : o.guard = none) (s x : Operand) (hop : o.op = Op.call { callee := Callee.builtin Builtin.append, args := #[s, x], argTypes := #[91, 91] })
  (sv : Value) (L : List ByteArray) (hs : a.eval s = sv) (B : Nat) (hown : w.ownsRow B 9 1 sv L.length (L.map Value.string)) (hB : B ≤ w.heap.size) (b off c : Nat) (M : List ByteArray) (m : Nat) (hm : M.length = m) (hx : a.eval x = .slice (some ⟨b, off, none⟩) m c)
  (hc : ∀ j u, M[j]? = some u → w.cell? ⟨b, off + j, none⟩ = some (.string u)) (hn : L.length + m ≤ 1000000)
  (hK : ∀ v' w', w'.ownsRow B 9 1 v' (L ++ M).length ((L ++ M).map Value.string) → w.grownBy w' sv.ownBlock → (v' = .slice none 0 0 ↔ sv = .slice none 0 0 ∧ m = 0) → wpList Tryz.prog ops Q rest (a.put o.dst v') w') :
  wpList Tryz.prog ops Q (o :: rest) a w := by
 obtain ⟨i0, hi, hz0, hz1, hz2⟩ := info_parts (show (Tryz.prog.info? 9).map (fun i => (i.zero, i.size, i.bytes)) = some (some (.string ⟨#[]⟩), 1, 16) by kernel_rfl)
 refine wpList_append_own _ hg s x 91 hop B 9 i0 (.string ⟨#[]⟩) 1 16 Tryz.underlying91 hi hz0 hz1 hz2 (by rw [cellsU0]; rfl) (by decide) sv L.length _ hs hown ⟨b, off, none⟩ m c (M.map Value.string) hx (by simp [hm]) ?_ ?_ ?_ ?_ hB (fun v' w' h1 h2 h3 => hK v' w' (by rw [List.length_append, List.map_append, hm]; exact h1) h2 h3)
 ·intro j u hj
  rw [List.getElem?_map] at hj
  obtain ⟨t, ht, rfl⟩ := Option.map_eq_some_iff.1 hj
  rw [Addr.add_mid]
  exact hc j t ht
 ·intro u hu
  obtain ⟨t, -, rfl⟩ := List.mem_map.1 hu
  rfl
 ·unfold maxLen; omega
 ·omega
theorem grow_str (n : Nat) (w : World) (h0 : 0 < n) (hn : n ≤ 100000) :
  Calls Tryz.prog 156 #[.slice none 0 0, .int .i64 n] w fun e w' => ∃ cap, e = .returned (.slice (some ⟨w.heap.size, 0, none⟩) 0 cap) ∧ w'.ownsRow w.heap.size 9 1 (.slice (some ⟨w.heap.size, 0, none⟩) 0 cap) 0 [] ∧ Below w.heap.size w w' := by
 obtain ⟨i0, hi, hz0, hz1, hz2⟩ := info_parts (show (Tryz.prog.info? 9).map (fun i => (i.zero, i.size, i.bytes)) = some (some (.string ⟨#[]⟩), 1, 16) by kernel_rfl)
 have happ := Lib.run_append_nil_zeros (P := Tryz.prog) w 91 3 91 9 i0 (.string ⟨#[]⟩) .i64 .i64 Tryz.underlying91 Tryz.underlying3 hi hz0 n h0 (by omega) (by omega) (by rw [hz2]; omega)
 generalize hcap : grownCap w n 0 9 = cap at happ
 have hge : n ≤ cap := by rw [← hcap]; exact grownCap_ge w _ 0 _
 have hle : cap ≤ maxLen := by rw [← hcap]; exact grownCap_le_maxLen w _ 0 _ (by unfold maxLen; omega)
 rw [cellsU0] at happ
 generalize hZ : (Builtin.zeroCells #[Value.string ⟨#[]⟩] n ++ Builtin.zeroCells #[Value.string ⟨#[]⟩] (cap - n)) = Z at happ
 have hZs : Z.size = cap * 1 := by rw [← hZ]; simp [size_zeroCells]; omega
 clear hcap hZ
 have HO : Hid ((w.drew.alloc (.cells Z 9)).ownsRow w.heap.size 9 1 (.slice (some ⟨w.heap.size, 0, none⟩) 0 cap) 0 []) := World.ownsRow_made w.drew Z cap (Nat.le_refl _) hle hZs
 have HB : Hid (Below w.heap.size w (w.drew.alloc (.cells Z 9))) := (bdrew w).alloc (Nat.le_refl _) _
 clear hle hZs
 go_enter Tryz.func156, Tryz.ntmps156
 go_wp2_with (at_builtin; refine Lib.wpList_append_run _ rfl _ _ _ _ rfl _ _ rfl rfl _ _ happ ?_)
 go_ret
 exact ⟨cap, rfl, HO.out, HB.out⟩
theorem own_blk8 {w : World} {B z n : Nat} {e : TypeId} {v : Value} {xs : List Value} (h : w.ownsRow B e z v n xs) : ∀ g, v.ownBlock = some g → B ≤ g := fun g hg => (h.lt g hg).1
theorem concat_str (B : Nat) (v0 v1 : Value) (t0 t1 : ByteArray) (r0 r1 : List ByteArray) (w : World) (hB : Cel w B [v0, v1] 91) (h0 : RowR w 1 v0 ((t0 :: r0).map fun u => [Value.string u])) (h1 : RowR w 1 v1 ((t1 :: r1).map fun u => [Value.string u])) (hn : r0.length + r1.length ≤ 1000) :
  Calls Tryz.prog 99 #[.slice (some ⟨B, 0, none⟩) 2 2] w fun e w' => ∃ v, e = .returned v ∧ w'.ownsRow w.heap.size 9 1 v ((t0 :: r0) ++ (t1 :: r1)).length (((t0 :: r0) ++ (t1 :: r1)).map Value.string) ∧ Below w.heap.size w w' := by
 obtain ⟨b0, o0, c0, rfl, -, -, a0⟩ := RowR.str h0
 obtain ⟨b1, o1, c1, rfl, -, -, a1⟩ := RowR.str h1
 have k0 := hB.cell 0
 have k1 := hB.cell 1
 simp only [List.getElem?_cons_zero, List.getElem?_cons_succ] at k0 k1
 obtain ⟨n0, e0⟩ : ∃ n, n = r0.length + 1 := ⟨_, rfl⟩
 obtain ⟨n1, e1⟩ : ∃ n, n = r1.length + 1 := ⟨_, rfl⟩
 rw [← e0] at k0
 rw [← e1] at k1
 replace a0 := shut a0
 replace a1 := shut a1
 have hn' : n0 + n1 ≤ 2000 := by omega
 have HG : Hid (∀ w : World, Calls Tryz.prog 156 #[.slice none 0 0, .int .i64 ((n0 : Int) + (n1 : Int))] w fun e w' => ∃ cap, e = .returned (.slice (some ⟨w.heap.size, 0, none⟩) 0 cap) ∧ w'.ownsRow w.heap.size 9 1 (.slice (some ⟨w.heap.size, 0, none⟩) 0 cap) 0 [] ∧ Below w.heap.size w w') := fun w => by
  have := grow_str (n0 + n1) w (by omega) (by omega)
  rwa [Int.natCast_add] at this
 have E0 := shut e0
 have E1 := shut e1
 clear h0 h1 e0 e1 hB hn
 go_enter Tryz.func99, Tryz.ntmps99
 go_wp2_with fail
 refine wp_loop_rounds 3 ?_
 rw [rounds_succ]
 go_wp2_with fail
 rw [rounds_succ]
 go_wp2_with fail
 rw [rounds_succ]
 go_wp2_with fail
 go_fit (HG.out _)
 rintro e w1 ⟨cap, rfl, ho, b1⟩
 clear HG
 go_wp2_with fail
 go_loopw [6, 27] (fun v i wr => Below w.heap.size w wr ∧ ((i = .int .i64 0 ∧ wr.ownsRow w.heap.size 9 1 v 0 []) ∨ (i = .int .i64 1 ∧ wr.ownsRow w.heap.size 9 1 v (t0 :: r0).length ((t0 :: r0).map Value.string)) ∨ (i = .int .i64 2 ∧ wr.ownsRow w.heap.size 9 1 v ((t0 :: r0) ++ (t1 :: r1)).length (((t0 :: r0) ++ (t1 :: r1)).map Value.string)))) (fun _ i _ => 2 - (intOf i).toNat)
 case atStart => exact ⟨b1, Or.inl ⟨rfl, ho⟩⟩
 case round =>
  clear ho b1
  obtain ⟨bb, hi⟩ := hrel
  replace k0 := cell_below k0 bb
  replace k1 := cell_below k1 bb
  have r0' : Hid (∀ j u, (t0 :: r0)[j]? = some u → wr.cell? ⟨b0, o0 + j, none⟩ = some (.string u)) := fun j u hu => cell_below (a0.out j u hu) bb
  have r1' : Hid (∀ j u, (t1 :: r1)[j]? = some u → wr.cell? ⟨b1, o1 + j, none⟩ = some (.string u)) := fun j u hu => cell_below (a1.out j u hu) bb
  rcases hi with ⟨rfl, ho⟩ | ⟨rfl, ho⟩ | ⟨rfl, ho⟩
  ·replace ho := shut ho
   go_wp2_with (at_builtin; refine wpList_apU rfl _ _ rfl u6 [] rfl w.heap.size ho.out bb.size b0 o0 c0 (t0 :: r0) n0 E0.out.symm rfl r0'.out (by simp; omega) ?_; intro v' w2 o2 hg2 hnil)
   have B2 : Hid (Below w.heap.size w w2) := below_grown bb hg2 (Nat.le_refl _) (own_blk8 ho.out)
   rw [List.nil_append] at o2
   replace o2 := shut o2
   clear hg2 hnil ho k0 k1 bb
   go_wp2
   exact ⟨⟨B2.out, Or.inr (Or.inl ⟨by go_num, o2.out⟩)⟩, by simp [intOf]⟩
  ·replace ho := shut ho
   go_wp2_with (at_builtin; refine wpList_apU rfl _ _ rfl u6 (t0 :: r0) rfl w.heap.size ho.out bb.size b1 o1 c1 (t1 :: r1) n1 E1.out.symm rfl r1'.out (by have := E0.out; simp; omega) ?_; intro v' w2 o2 hg2 hnil)
   have B2 : Hid (Below w.heap.size w w2) := below_grown bb hg2 (Nat.le_refl _) (own_blk8 ho.out)
   replace o2 := shut o2
   clear hg2 hnil ho k0 k1 bb
   go_wp2
   exact ⟨⟨B2.out, Or.inr (Or.inr ⟨by go_num, o2.out⟩)⟩, by simp [intOf]⟩
  ·replace ho := shut ho
   clear k0 k1
   go_wp2
   go_ret
   exact ⟨_, rfl, ho.out, bb⟩
end Go.Proofs.YtnplifkgeeicjaaGreatDoor
