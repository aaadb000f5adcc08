/-
  Package pslg: errnoOf.
  Package pslg: a text that is too long.
  Package pslg: Parse.
  lines: rows of rows of texts.
  the lines of a plan.
  how long lines are; rows of texts.
  two rows of texts in one.
  the text of a plan.
  gussetref08: its reader.
-/
import Derived.Test.YtnplifkgeeicjaaGreatDoorU42
import Derived.Test.YtnplifkgeeicjaaGreatDoorU45
import Derived.Test.YtnplifkgeeicjaaGreatDoorU52
set_option maxRecDepth 100000
set_option maxHeartbeats 8000000
namespace Go.Proofs.YtnplifkgeeicjaaGreatDoor
open Go.RowKit
def ErrT (w : World) : Prop := w.cell? ⟨8, 0, none⟩ = some (.iface 245 (.agg #[.pointer (some ⟨20, 86, none⟩)]))
theorem as_hit2 (V : Nat) (e : Addr) (w : World) (hg : ErrT w) (kv : Cel w V [.pointer none] 132) :
  Calls Tryz.prog 92 #[.iface 132 (.pointer (some e)), .iface 148 (.pointer (some ⟨V, 0, none⟩))] w fun ev w' => ev = .returned (.bool true) ∧ Cel w' V [.pointer (some e)] 132 ∧ Grew V w w' := by
 refine (as_hit e ⟨V, 0, none⟩ (.pointer none) w hg (kv.cell 0) (Cel.frozen kv 0)).mono ?_
 rintro ev w' ⟨rfl, rfl⟩
 refine ⟨rfl, ((((kv.alloc _).alloc _).alloc _).alloc _).set 0 _, ?_⟩
 exact Grew.trans (Below.grew (((((Below.refl w.heap.size w).alloc (Nat.le_refl _) _).alloc (by simp) _).alloc (by simp; omega) _).alloc (by simp; omega) _)) ((Only.refl V _).setCell 0 _).grew
theorem errno_nil (w : World) : Calls Tryz.prog 43 #[.nilIface] w (Re w (.int .i64 0)) := by
 go_enter Tryz.func43, Tryz.ntmps43
 go_upto_region 2 with fail
 obtain ⟨w0, hq, kr, b0⟩ := mk1 w [.pointer none] 132
 rw [← hq]
 clear hq
 go_wp2_with (go_at_call 92; refine (as_nil _ _).mono ?_; rintro e w1 ⟨rfl, rfl⟩)
 go_ret
 exact ⟨rfl, b0⟩
theorem errno_ref (w : World) (aL : Addr) (er : Value) (h : RefE w aL er) (hT : ErrT w) (hL : w.cell? ⟨4, 0, none⟩ = some (.iface 348 (.pointer (some aL)))) (hc : ∃ c t, w.heap[aL.block]? = some (.cells c t (0, 0))) :
  Calls Tryz.prog 43 #[er] w (Re w (.int .i64 4)) := by
 obtain ⟨p, z, a, rfl, hne, ⟨ca, ta, ha⟩, kp⟩ := h
 obtain ⟨cb, tb, hb⟩ := hc
 go_enter Tryz.func43, Tryz.ntmps43
 go_upto_region 2 with fail
 obtain ⟨w0, hq, kr, b0⟩ := mk1 w [.pointer none] 132
 rw [← hq]
 clear hq
 have hT0 : ErrT w0 := by unfold ErrT at hT ⊢; rw [b0.cell (World.block_lt_of_cell? w _ hT)]; exact hT
 have hL0 := (b0.cell (World.block_lt_of_cell? w _ hL)).trans hL
 have kp0 := kp.below b0
 have la : a.block < w.heap.size := by
  rcases Nat.lt_or_ge a.block w.heap.size with h | h
  ·exact h
  ·rw [Array.getElem?_eq_none h] at ha; cases ha
 have lb : aL.block < w.heap.size := by
  rcases Nat.lt_or_ge aL.block w.heap.size with h | h
  ·exact h
  ·rw [Array.getElem?_eq_none h] at hb; cases hb
 have ha0 := (b0.block _ la).trans ha
 have hb0 := (b0.block _ lb).trans hb
 have hlL : 4 < w.heap.size := World.block_lt_of_cell? w _ hL
 have lp := kp.lt
 have HA := shut (as_hit2 w.heap.size ⟨p, 0, none⟩ w0 hT0 kr)
 have hs0 := kr.lt
 have HI := shut (fun w1 (k : Grew w.heap.size w0 w1) => is_wrap_other p 0 aL a ca cb ta tb w1 ((Grew.cel k kp0 (by omega)).cell 1) hne (by rw [k.block _ (by omega) (by omega)]; exact ha0) (by rw [k.block _ (by omega) (by omega)]; exact hb0))
 have HL := shut (fun w1 (k : Grew w.heap.size w0 w1) => (World.cell?_of_block (k.block 4 (by omega) (by omega))).trans hL0)
 have B := shut b0
 clear hT hL kp ha hb la lb ha0 hb0 hlL lp kp0 hL0 hT0 kr b0 hs0
 go_upto_region 4 with (go_at_call 92; refine HA.out.mono ?_; rintro e w1 ⟨rfl, k1, g1⟩)
 have c1 : w1.cell? ⟨w.heap.size, 0, none⟩ = some (.pointer (some ⟨p, 0, none⟩)) := k1.cell 0
 have hl1 : w1.cell? ⟨4, 0, none⟩ = some (.iface 348 (.pointer (some aL))) := HL.out _ g1
 go_wp2_with (go_at_call 93; refine (HI.out _ g1).mono ?_; rintro e w2 ⟨rfl, rfl⟩)
 go_ret
 exact ⟨rfl, g1.below B.out (Nat.le_refl _) (B.out.size)⟩
theorem errno_long (w : World) (aL : Addr) (p : Nat) (z : Int) (kp : Cel w p [.int .i64 z, .iface 348 (.pointer (some aL))] 134) (hT : ErrT w) (hL : w.cell? ⟨4, 0, none⟩ = some (.iface 348 (.pointer (some aL)))) :
  Calls Tryz.prog 43 #[.iface 132 (.pointer (some ⟨p, 0, none⟩))] w (Re w (.int .i64 5)) := by
 go_enter Tryz.func43, Tryz.ntmps43
 go_upto_region 2 with fail
 obtain ⟨w0, hq, kr, b0⟩ := mk1 w [.pointer none] 132
 rw [← hq]
 clear hq
 have hT0 : ErrT w0 := by unfold ErrT at hT ⊢; rw [b0.cell (World.block_lt_of_cell? w _ hT)]; exact hT
 have hL0 := (b0.cell (World.block_lt_of_cell? w _ hL)).trans hL
 have kp0 := kp.below b0
 have hlL : 4 < w.heap.size := World.block_lt_of_cell? w _ hL
 have lp := kp.lt
 have HA := shut (as_hit2 w.heap.size ⟨p, 0, none⟩ w0 hT0 kr)
 have hs0 := kr.lt
 have HI := shut (fun w1 (k : Grew w.heap.size w0 w1) => is_wrap_same p 0 aL w1 ((Grew.cel k kp0 (by omega)).cell 1))
 have HL := shut (fun w1 (k : Grew w.heap.size w0 w1) => (World.cell?_of_block (k.block 4 (by omega) (by omega))).trans hL0)
 have B := shut b0
 clear hT hL kp hlL lp kp0 hL0 hT0 kr b0 hs0
 go_upto_region 4 with (go_at_call 92; refine HA.out.mono ?_; rintro e w1 ⟨rfl, k1, g1⟩)
 have c1 : w1.cell? ⟨w.heap.size, 0, none⟩ = some (.pointer (some ⟨p, 0, none⟩)) := k1.cell 0
 have hl1 : w1.cell? ⟨4, 0, none⟩ = some (.iface 348 (.pointer (some aL))) := HL.out _ g1
 go_wp2_with (go_at_call 93; refine (HI.out _ g1).mono ?_; rintro e w2 ⟨rfl, rfl⟩)
 go_ret
 exact ⟨rfl, g1.below B.out (Nat.le_refl _) (B.out.size)⟩
theorem two_ne {l : List Nat} (e : l = [3, 5]) : l ≠ [] := by rw [e]; simp
theorem two_or {l : List Nat} {i : Nat} (h : i ∈ l) (e : l = [3, 5]) : i = 3 ∨ i = 5 := by rw [e] at h; simpa using h
set_option linter.constructorNameAsVariable false in
theorem read_long (s : ByteArray) (w : World) (hs : 20000 < s.size) (aL : Addr) (hL : w.cell? ⟨4, 0, none⟩ = some (.iface 348 (.pointer (some aL)))) :
  Calls Tryz.prog 42 #[.string s] w fun e w' => ∃ p z, e = .returned (.tuple #[.agg Z39.toArray, .iface 132 (.pointer (some ⟨p, 0, none⟩))]) ∧ Cel w' p [.int .i64 z, .iface 348 (.pointer (some aL))] 134 ∧ Below w.heap.size w w' := by
 have hs' : (s.size : Int) > 20000 := by omega
 go_enter Tryz.func42, Tryz.ntmps42
 go_upto_region 2 with fail
 obtain ⟨w0, hq, kz, b0⟩ := mk1 w [nilS, nilS, nilS, .bool false, .string eS, .string eS, .bool false, .string eS, .string eS, .bool false, .string eS, .string eS, .bool false, .string eS, .string eS, .bool false, .string eS, .string eS, .bool false, .string eS, .string eS, .bool false, .string eS, .string eS, .bool false, .string eS, .string eS, .bool false, .string eS, .string eS, .bool false, .string eS, .string eS, .bool false, .string eS, .string eS, .bool false, .string eS, .string eS] 46
 rw [← hq]
 clear hq
 have hL0 := (b0.cell (World.block_lt_of_cell? w _ hL)).trans hL
 refine wp_region_held_drew (S := fun w' => w'.cell? ⟨4, 0, none⟩ = some (.iface 348 (.pointer (some aL)))) (by kernel_rfl) hL0 (fun hS => ?_)
 replace kz := kz.drew'
 replace b0 := Below.after b0 (bdrew _)
 have hlL := World.block_lt_of_cell? w _ hL
 clear hL hL0
 generalize w0.drew = wd at *
 refine WA.start (n := 7) (by kernel_rfl) ?_
 refine WA.tp 0 rfl ?_
 refine WA.tp 1 rfl ?_
 refine WA.tp 2 rfl ?_
 refine WA.all (two_ne (by kernel_rfl)) (fun i hi => ?_)
 have sw : ∀ {w' : World}, Below wd.heap.size wd w' → w'.cell? ⟨4, 0, none⟩ = some (.iface 348 (.pointer (some aL))) := fun b => (b.cell (World.block_lt_of_cell? wd _ hS)).trans hS
 have lz := kz.lt
 rcases two_or hi (by kernel_rfl) with rfl | rfl
 ·refine wpOp_step rfl (fun K hK => ?_)
  go_simp
  obtain ⟨w1, hq, kp, b1⟩ := mk1 wd [.int .i64 0, .iface 348 (.pointer (some aL))] 134
  rw [← hq]
  refine hK _ _ ⟨sw b1, ?_⟩
  clear hK K hq hi
  replace hS := sw b1
  replace kz := kz.below b1
  replace b0 := Below.after b0 b1
  refine WA.tp 4 rfl ?_
  refine WA.cal 5 rfl (fun K hK => ?_)
  rw [if_pos (by rfl)]
  refine wp_store_row 46 _ _ rfl _ #[nilS, nilS, nilS, .bool false, .string eS, .string eS, .bool false, .string eS, .string eS, .bool false, .string eS, .string eS, .bool false, .string eS, .string eS, .bool false, .string eS, .string eS, .bool false, .string eS, .string eS, .bool false, .string eS, .string eS, .bool false, .string eS, .string eS, .bool false, .string eS, .string eS, .bool false, .string eS, .string eS, .bool false, .string eS, .string eS, .bool false, .string eS, .string eS] rfl rfl 46 _ kz (by kernel_rfl) rfl (by kernel_rfl) ?_
  have oZ := (Only.refl w.heap.size w1).setRow #[nilS, nilS, nilS, .bool false, .string eS, .string eS, .bool false, .string eS, .string eS, .bool false, .string eS, .string eS, .bool false, .string eS, .string eS, .bool false, .string eS, .string eS, .bool false, .string eS, .string eS, .bool false, .string eS, .string eS, .bool false, .string eS, .string eS, .bool false, .string eS, .string eS, .bool false, .string eS, .string eS, .bool false, .string eS, .string eS, .bool false, .string eS, .string eS]
  refine hK.out _ _ ((World.cell?_of_block (oZ.block 4 (Nat.ne_of_lt hlL))).trans hS) (fun hS => ?_)
  clear hK K
  refine WA.tp 6 rfl ?_
  refine WA.done (by kernel_rfl) ?_
  clear hS
  go_wp2_with fail
  exact post_pl (p := 2) (u := 3) (cs := [nilS, nilS, nilS, .bool false, .string eS, .string eS, .bool false, .string eS, .string eS, .bool false, .string eS, .string eS, .bool false, .string eS, .string eS, .bool false, .string eS, .string eS, .bool false, .string eS, .string eS, .bool false, .string eS, .string eS, .bool false, .string eS, .string eS, .bool false, .string eS, .string eS, .bool false, .string eS, .string eS, .bool false, .string eS, .string eS, .bool false, .string eS, .string eS]) (by kernel_rfl) rfl rfl rfl (kz.rowS [nilS, nilS, nilS, .bool false, .string eS, .string eS, .bool false, .string eS, .string eS, .bool false, .string eS, .string eS, .bool false, .string eS, .string eS, .bool false, .string eS, .string eS, .bool false, .string eS, .string eS, .bool false, .string eS, .string eS, .bool false, .string eS, .string eS, .bool false, .string eS, .string eS, .bool false, .string eS, .string eS, .bool false, .string eS, .string eS, .bool false, .string eS, .string eS]) rfl ⟨wd.heap.size, rfl, ⟨0, oZ.cel kp (by omega)⟩, oZ.below b0 (Nat.le_refl _)⟩
 ·refine wpOp_step rfl (fun K hK => ?_)
  rw [if_pos (by rfl)]
  refine wp_store_row 46 _ _ rfl _ #[nilS, nilS, nilS, .bool false, .string eS, .string eS, .bool false, .string eS, .string eS, .bool false, .string eS, .string eS, .bool false, .string eS, .string eS, .bool false, .string eS, .string eS, .bool false, .string eS, .string eS, .bool false, .string eS, .string eS, .bool false, .string eS, .string eS, .bool false, .string eS, .string eS, .bool false, .string eS, .string eS, .bool false, .string eS, .string eS, .bool false, .string eS, .string eS] rfl rfl 46 _ kz (by kernel_rfl) rfl (by kernel_rfl) ?_
  have oZ := (Only.refl w.heap.size wd).setRow #[nilS, nilS, nilS, .bool false, .string eS, .string eS, .bool false, .string eS, .string eS, .bool false, .string eS, .string eS, .bool false, .string eS, .string eS, .bool false, .string eS, .string eS, .bool false, .string eS, .string eS, .bool false, .string eS, .string eS, .bool false, .string eS, .string eS, .bool false, .string eS, .string eS, .bool false, .string eS, .string eS, .bool false, .string eS, .string eS, .bool false, .string eS, .string eS]
  have kr := kz.rowS [nilS, nilS, nilS, .bool false, .string eS, .string eS, .bool false, .string eS, .string eS, .bool false, .string eS, .string eS, .bool false, .string eS, .string eS, .bool false, .string eS, .string eS, .bool false, .string eS, .string eS, .bool false, .string eS, .string eS, .bool false, .string eS, .string eS, .bool false, .string eS, .string eS, .bool false, .string eS, .string eS, .bool false, .string eS, .string eS, .bool false, .string eS, .string eS]
  have bZ := oZ.below b0 (Nat.le_refl _)
  have hS1 := (World.cell?_of_block (oZ.block 4 (Nat.ne_of_lt hlL))).trans hS
  refine hK _ _ ⟨hS1, ?_⟩
  clear hK K hi sw hS
  generalize World.setRow _ _ _ = w1 at *
  refine WA.cal 3 rfl (fun K hK => ?_)
  simp only [List.getElem_toArray, List.getElem_cons_succ, List.getElem_cons_zero]
  go_simp
  obtain ⟨w2, hq, kp, b1⟩ := mk1 w1 [.int .i64 0, .iface 348 (.pointer (some aL))] 134
  rw [← hq]
  have hS2 := (b1.cell (World.block_lt_of_cell? w1 _ hS1)).trans hS1
  refine hK.out _ _ hS2 (fun hS => ?_)
  clear hK K hq
  refine WA.tp 4 rfl ?_
  refine WA.tp 6 rfl ?_
  refine WA.done (by kernel_rfl) ?_
  clear hS
  go_wp2_with fail
  exact post_pl (p := 2) (u := 3) (cs := [nilS, nilS, nilS, .bool false, .string eS, .string eS, .bool false, .string eS, .string eS, .bool false, .string eS, .string eS, .bool false, .string eS, .string eS, .bool false, .string eS, .string eS, .bool false, .string eS, .string eS, .bool false, .string eS, .string eS, .bool false, .string eS, .string eS, .bool false, .string eS, .string eS, .bool false, .string eS, .string eS, .bool false, .string eS, .string eS, .bool false, .string eS, .string eS]) (by kernel_rfl) rfl rfl rfl (kr.below b1) rfl ⟨w1.heap.size, rfl, ⟨0, kp⟩, Below.after bZ b1⟩
def PlanAt (w : World) (B : Nat) (cs : List Value) (p : Pl) : Prop := ∃ (v1 v2 v3 : Value) (x y : Nat → Q3), cs = pl39 v1 v2 v3 (L18 x) (L18 y) ∧
 w.ownsRow B 30 6 v1 p.pts.length (p.pts.flatMap cP) ∧ w.ownsRow B 103 3 v2 p.segs.length (p.segs.flatMap cS) ∧ w.ownsRow B 30 6 v3 p.holes.length (p.holes.flatMap cP) ∧
 p.F = [x 0, x 1, x 2, x 3, x 4, x 5] ∧ p.G = [y 0, y 1, y 2, y 3, y 4, y 5]
theorem planAt_of {w : World} {B : Nat} {v1 v2 v3 : Value} {x y : Nat → Q3} {A1 A3 : List (Q3 × Q3)} {A2 : List (Nat × Nat × Bool)} {A4 A5 : List Q3} (o1 : w.ownsRow B 30 6 v1 A1.length (A1.flatMap cP)) (o2 : w.ownsRow B 103 3 v2 A2.length (A2.flatMap cS))
  (o3 : w.ownsRow B 30 6 v3 A3.length (A3.flatMap cP)) (hF : A4 = [x 0, x 1, x 2, x 3, x 4, x 5]) (hG : A5 = [y 0, y 1, y 2, y 3, y 4, y 5]) : PlanAt w B (pl39 v1 v2 v3 (L18 x) (L18 y)) ⟨A1, A2, A3, A4, A5⟩ := ⟨v1, v2, v3, x, y, rfl, o1, o2, o3, hF, hG⟩
abbrev zQ : Q3 := (false, eS, eS)
def zPl : Pl := ⟨[], [], [], [zQ, zQ, zQ, zQ, zQ, zQ], [zQ, zQ, zQ, zQ, zQ, zQ]⟩
theorem planAt_zero (w : World) (B : Nat) : PlanAt w B Z39 zPl := ⟨nilS, nilS, nilS, fun _ => zQ, fun _ => zQ, rfl, World.ownsRow_nil _ _ _ _, World.ownsRow_nil _ _ _ _, World.ownsRow_nil _ _ _ _, rfl, rfl⟩
def psp (P : ByteArray → Q3) (E : ByteArray → Int) (s : ByteArray) : Pl × Int := if 20000 < s.size then (zPl, 5) else match plan P E (toks s) with | some p => (p, 0) | none => (zPl, 4)
theorem PlanAt.len {w : World} {B : Nat} {cs : List Value} {p : Pl} (h : PlanAt w B cs p) : cs.length = 39 := by
 obtain ⟨v1, v2, v3, x, y, rfl, -⟩ := h
 rfl
theorem PlanAt.one {w : World} {B : Nat} {cs : List Value} {p : Pl} (h : PlanAt w B cs p) : cs.toArray.all (·.oneCell') = true := by
 obtain ⟨v1, v2, v3, x, y, rfl, o1, o2, o3, -⟩ := h
 obtain ⟨a1, c1, rfl⟩ := own_val o1
 obtain ⟨a2, c2, rfl⟩ := own_val o2
 obtain ⟨a3, c3, rfl⟩ := own_val o3
 kernel_rfl
theorem PlanAt.only {w w' : World} {B g : Nat} {cs : List Value} {p : Pl} (h : PlanAt w B cs p) (k : Only g w w') (hg : g < B) : PlanAt w' B cs p := by
 obtain ⟨v1, v2, v3, x, y, h0, o1, o2, o3, h4⟩ := h
 exact ⟨v1, v2, v3, x, y, h0, own_only o1 k hg, own_only o2 k hg, own_only o3 k hg, h4⟩
theorem own_below {w w' : World} {B : Nat} {e : TypeId} {size n : Nat} {v : Value} {xs : List Value} (h : w.ownsRow B e size v n xs) (k : Below w.heap.size w w') : w'.ownsRow B e size v n xs := by
 obtain ⟨h1, h2⟩ := h
 refine ⟨h1, ?_⟩
 rcases h2 with h2 | ⟨q, cap, cur, h3, h4, h5, h6⟩
 ·exact .inl h2
 ·have hl : q < w.heap.size := by
   rcases Nat.lt_or_ge q w.heap.size with h | h
   ·exact h
   ·rw [Array.getElem?_eq_none h] at h5; cases h5
  exact .inr ⟨q, cap, cur, h3, h4, by rw [k.block q hl]; exact h5, h6⟩
theorem PlanAt.below {w w' : World} {B : Nat} {cs : List Value} {p : Pl} (h : PlanAt w B cs p) (k : Below w.heap.size w w') : PlanAt w' B cs p := by
 obtain ⟨v1, v2, v3, x, y, h0, o1, o2, o3, h4⟩ := h
 exact ⟨v1, v2, v3, x, y, h0, own_below o1 k, own_below o2 k, own_below o3 k, h4⟩
theorem PlanAt.mono {w : World} {B B' : Nat} {cs : List Value} {p : Pl} (h : PlanAt w B cs p) (hB : B' ≤ B) : PlanAt w B' cs p := by
 obtain ⟨v1, v2, v3, x, y, h0, o1, o2, o3, h4⟩ := h
 exact ⟨v1, v2, v3, x, y, h0, own_mono o1 hB, own_mono o2 hB, own_mono o3 hB, h4⟩
structure Env8 (w : World) (aL : Addr) : Prop where
 sens : Sens w.heap.size w aL
 tab : Tab w
 tabB : lays729_ren.g 1 < w.heap.size
 errT : ErrT w
theorem Env8.below {w w' : World} {aL : Addr} (h : Env8 w aL) (k : Below w.heap.size w w') : Env8 w' aL :=
 ⟨(h.sens.below k).mono k.size, h.tab.below k, Nat.lt_of_lt_of_le h.tabB k.size, by have := h.errT; unfold ErrT at this ⊢; rw [k.cell (World.block_lt_of_cell? w _ this)]; exact this⟩
theorem read_any (P : ByteArray → Q3) (E : ByteArray → Int) (hP : PR P E) (s : ByteArray) (w : World) (aL : Addr) (h : Env8 w aL) :
  Calls Tryz.prog 42 #[.string s] w fun e w' => ∃ (cs : List Value) (er : Value) (p : Pl), e = .returned (.tuple #[.agg cs.toArray, er]) ∧ PlanAt w' w.heap.size cs p ∧ Below w.heap.size w w' ∧
   ((psp P E s).2 = 0 → p = (psp P E s).1 ∧ er = .nilIface) ∧ ((psp P E s).2 ≠ 0 → er ≠ .nilIface ∧ (psp P E s).1 = zPl) ∧
   ∀ w1, Below w'.heap.size w' w1 → Calls Tryz.prog 43 #[er] w1 fun e w2 => e = .returned (.int .i64 (psp P E s).2) ∧ Below w1.heap.size w1 w2 := by
 unfold psp
 by_cases hs : 20000 < s.size
 ·rw [if_pos hs]
  refine (read_long s w hs aL h.sens.1.2.2.1).mono ?_
  rintro e w' ⟨p, z, rfl, kp, b⟩
  refine ⟨Z39, _, zPl, rfl, planAt_zero _ _, b, (fun h => by cases h), (fun _ => ⟨(fun h => by cases h), rfl⟩), fun w1 b1 => ?_⟩
  have hL := h.sens.1.2.2.1
  exact errno_long w1 aL p z (kp.below b1) (by have := (h.below b).errT; unfold ErrT at this ⊢; rw [b1.cell (World.block_lt_of_cell? w' _ this)]; exact this) (((h.below b).below b1).sens.1.2.2.1)
 ·rw [if_neg hs]
  refine (read_ok P E hP s w (by omega) aL h.sens h.tab h.tabB).mono ?_
  rintro e w' ⟨v1, v2, v3, er, x, y, rfl, o1, o2, o3, hF, hG, hok, hbad, b⟩
  have hp := planAt_of o1 o2 o3 hF hG
  unfold plan rpl
  generalize (r1 P E (toks s)).1 = A1 at *
  generalize (r2 P E (toks s)).1 = A2 at *
  generalize (r3 P E (toks s)).1 = A3 at *
  generalize (r4 P E (toks s)).1 = A4 at *
  generalize (r5 P E (toks s)).1 = A5 at *
  generalize r6 P E (toks s) = A6 at *
  by_cases h6 : A6 = some []
  ·rw [if_pos h6]
   obtain rfl := hok h6
   exact ⟨_, _, _, rfl, hp, b, fun _ => ⟨rfl, rfl⟩, fun h => absurd rfl h, fun w1 _ => errno_nil w1⟩
  ·rw [if_neg h6]
   have hr := hbad h6
   refine ⟨_, _, _, rfl, hp, b, (fun h => by cases h), fun _ => ⟨?_, rfl⟩, fun w1 b1 => ?_⟩
   ·obtain ⟨p, z, a, rfl, -⟩ := hr
    intro h; cases h
   ·have e1 := (h.below b).below b1
    have hr1 : RefE w1 aL er := by
     obtain ⟨p, z, a, h1, h2, ⟨c, t, h3⟩, h4⟩ := hr
     refine ⟨p, z, a, h1, h2, ⟨c, t, ?_⟩, h4.below b1⟩
     have hl : a.block < w'.heap.size := by
      rcases Nat.lt_or_ge a.block w'.heap.size with h | h
      ·exact h
      ·rw [Array.getElem?_eq_none h] at h3; cases h3
     rw [b1.block _ hl]; exact h3
    exact errno_ref w1 aL er hr1 e1.errT e1.sens.1.2.2.1 e1.sens.1.2.2.2
theorem fresh39 (w1 : World) (cs : List Value) (hl : cs.length = 39) (h1 : cs.toArray.all (·.oneCell') = true) : ∃ w2, (storeCells ⟨w1.heap.size, 0, none⟩ cs).run Tryz.prog (w1.alloc (.cells #[nilS, nilS, nilS, .bool false, .string eS, .string eS, .bool false, .string eS, .string eS, .bool false, .string eS, .string eS, .bool false, .string eS, .string eS, .bool false, .string eS, .string eS, .bool false, .string eS, .string eS, .bool false, .string eS, .string eS, .bool false, .string eS, .string eS, .bool false, .string eS, .string eS, .bool false, .string eS, .string eS, .bool false, .string eS, .string eS, .bool false, .string eS, .string eS] 46)) = .ok () w2 ∧ Cel w2 w1.heap.size cs 46 ∧ Below w1.heap.size w1 w2 := by
 have hc := Cel.new w1 [nilS, nilS, nilS, .bool false, .string eS, .string eS, .bool false, .string eS, .string eS, .bool false, .string eS, .string eS, .bool false, .string eS, .string eS, .bool false, .string eS, .string eS, .bool false, .string eS, .string eS, .bool false, .string eS, .string eS, .bool false, .string eS, .string eS, .bool false, .string eS, .string eS, .bool false, .string eS, .string eS, .bool false, .string eS, .string eS, .bool false, .string eS, .string eS] 46
 have := run_storeCells_from (P := Tryz.prog) w1.heap.size 46 cs 0 _ _ hc (by rw [Nat.zero_add, hl]; rfl) (fun v hv => (Array.all_eq_true_iff_forall_mem.1 h1) v (by simpa using hv))
 rw [List.take_zero, List.nil_append] at this
 exact ⟨_, this, hc.rowS cs, below_setRow ((Below.refl _ _).alloc (Nat.le_refl _) _) (Nat.le_refl _) _⟩
set_option linter.constructorNameAsVariable false in
theorem parse_any (P : ByteArray → Q3) (E : ByteArray → Int) (hP : PR P E) (s : ByteArray) (w : World) (aL : Addr) (h : Env8 w aL) :
  Calls Tryz.prog 18 #[.string s] w fun e w' => ∃ cs : List Value, e = .returned (.tuple #[.agg cs.toArray, .int .i64 (psp P E s).2]) ∧ PlanAt w' w.heap.size cs (psp P E s).1 ∧ Below w.heap.size w w' := by
 have HR := shut (fun w1 (b : Below w.heap.size w w1) => read_any P E hP s w1 aL (h.below b))
 generalize psp P E s = r at *
 obtain ⟨p0, e0⟩ := r
 clear h
 go_enter Tryz.func18, Tryz.ntmps18
 go_upto_region 1 with fail
 obtain ⟨w0, hq, kz, b0⟩ := mk1 w [nilS, nilS, nilS, .bool false, .string eS, .string eS, .bool false, .string eS, .string eS, .bool false, .string eS, .string eS, .bool false, .string eS, .string eS, .bool false, .string eS, .string eS, .bool false, .string eS, .string eS, .bool false, .string eS, .string eS, .bool false, .string eS, .string eS, .bool false, .string eS, .string eS, .bool false, .string eS, .string eS, .bool false, .string eS, .string eS, .bool false, .string eS, .string eS] 46
 rw [← hq]
 clear hq
 go_upto_region 2 with (go_at_call 42; refine (HR.out _ b0).mono ?_; rintro e w1 ⟨cs, er, p, rfl, hp, b1, h0, h1, hE⟩; have hlen := hp.len; obtain ⟨w2, hst, k2, b2⟩ := fresh39 w1 cs hp.len hp.one)
 go_upto_region 3 with (go_at_call 43; refine (hE w2 b2).mono ?_; rintro e w3 ⟨rfl, b3⟩)
 have kz3 := ((kz.below b1).below b2).below b3
 have k3 := k2.below b3
 have hp3 := (hp.below b2).below b3
 have s0 := b0.size
 have B3 := Below.after (Below.after (Below.after b0 b1) b2) b3
 have hlt : w.heap.size < w0.heap.size := kz.lt
 have one := hp.one
 clear hE hst k2 b2 b3 b1 kz b0 HR
 by_cases he : e0 = 0
 ·obtain ⟨rfl, rfl⟩ := h0 he
  subst he
  clear h0 h1
  go_wp2_with (first | (refine wpList_load_row rfl 46 _ rfl _ rfl 46 cs.toArray (0, 0) _ k3 Tryz.underlying46 rfl (by rw [List.size_toArray, hlen]; kernel_rfl) ?_) | (refine wpList_store_row rfl 46 _ _ rfl _ cs.toArray rfl rfl 46 _ kz3 (by rw [List.size_toArray, hlen]; kernel_rfl) (show 39 = cs.toArray.size by rw [List.size_toArray, hlen]) one ?_))
  have oZ := (Only.refl w.heap.size w3).setRow cs.toArray
  exact post_pl (p := 2) (u := 3) (cs := cs) (by kernel_rfl) rfl rfl rfl (kz3.rowS cs) hlen ⟨cs, rfl, (hp3.only oZ hlt).mono s0, oZ.below B3 (Nat.le_refl _)⟩
 ·obtain ⟨-, rfl⟩ := h1 he
  clear h0 h1 hp3 hp k3 one
  go_wp2_with (refine wpList_store_row rfl 46 _ _ rfl _ #[nilS, nilS, nilS, .bool false, .string eS, .string eS, .bool false, .string eS, .string eS, .bool false, .string eS, .string eS, .bool false, .string eS, .string eS, .bool false, .string eS, .string eS, .bool false, .string eS, .string eS, .bool false, .string eS, .string eS, .bool false, .string eS, .string eS, .bool false, .string eS, .string eS, .bool false, .string eS, .string eS, .bool false, .string eS, .string eS, .bool false, .string eS, .string eS] rfl rfl 46 _ kz3 (by kernel_rfl) rfl (by kernel_rfl) ?_)
  have oZ := (Only.refl w.heap.size w3).setRow #[nilS, nilS, nilS, .bool false, .string eS, .string eS, .bool false, .string eS, .string eS, .bool false, .string eS, .string eS, .bool false, .string eS, .string eS, .bool false, .string eS, .string eS, .bool false, .string eS, .string eS, .bool false, .string eS, .string eS, .bool false, .string eS, .string eS, .bool false, .string eS, .string eS, .bool false, .string eS, .string eS, .bool false, .string eS, .string eS, .bool false, .string eS, .string eS]
  exact post_pl (p := 2) (u := 3) (cs := [nilS, nilS, nilS, .bool false, .string eS, .string eS, .bool false, .string eS, .string eS, .bool false, .string eS, .string eS, .bool false, .string eS, .string eS, .bool false, .string eS, .string eS, .bool false, .string eS, .string eS, .bool false, .string eS, .string eS, .bool false, .string eS, .string eS, .bool false, .string eS, .string eS, .bool false, .string eS, .string eS, .bool false, .string eS, .string eS, .bool false, .string eS, .string eS]) (by kernel_rfl) rfl rfl rfl (kz3.rowS [nilS, nilS, nilS, .bool false, .string eS, .string eS, .bool false, .string eS, .string eS, .bool false, .string eS, .string eS, .bool false, .string eS, .string eS, .bool false, .string eS, .string eS, .bool false, .string eS, .string eS, .bool false, .string eS, .string eS, .bool false, .string eS, .string eS, .bool false, .string eS, .string eS, .bool false, .string eS, .string eS, .bool false, .string eS, .string eS, .bool false, .string eS, .string eS]) rfl ⟨[nilS, nilS, nilS, .bool false, .string eS, .string eS, .bool false, .string eS, .string eS, .bool false, .string eS, .string eS, .bool false, .string eS, .string eS, .bool false, .string eS, .string eS, .bool false, .string eS, .string eS, .bool false, .string eS, .string eS, .bool false, .string eS, .string eS, .bool false, .string eS, .string eS, .bool false, .string eS, .string eS, .bool false, .string eS, .string eS, .bool false, .string eS, .string eS], rfl, planAt_zero _ _, oZ.below B3 (Nat.le_refl _)⟩
theorem below_grown {B : Nat} {w w1 w2 : World} {row : Option Nat} (h : Below B w w1) (hg : w1.grownBy w2 row) (hB : B ≤ w.heap.size) (hr : ∀ k, row = some k → B ≤ k) : Below B w w2 :=
 ⟨hg.os.trans h.os, hg.tape.trans h.tape, hg.output.trans h.output, Nat.le_trans h.size hg.size, fun i hi => (hg.block i (Nat.lt_of_lt_of_le hi (Nat.le_trans hB h.size)) (fun e => by have := hr i e.symm; omega)).trans (h.block i hi)⟩
theorem own_grown {w w' : World} {B B' z z' n n' : Nat} {e e' : TypeId} {u v : Value} {xs ys : List Value} (h : w.ownsRow B e z u n xs) (hv : w.ownsRow B' e' z' v n' ys) (hne : e ≠ e') (hg : w.grownBy w' v.ownBlock) : w'.ownsRow B e z u n xs := by
 obtain ⟨h1, h2⟩ := h
 refine ⟨h1, ?_⟩
 rcases h2 with h2 | ⟨q, cap, cur, h3, h4, h5, h6⟩
 ·exact .inl h2
 ·have hl : q < w.heap.size := by
   rcases Nat.lt_or_ge q w.heap.size with h | h
   ·exact h
   ·rw [Array.getElem?_eq_none h] at h5; cases h5
  refine .inr ⟨q, cap, cur, h3, h4, ?_, h6⟩
  rw [hg.block q hl ?_]
  ·exact h5
  ·intro hk
   rcases hv.2 with ⟨rfl, -⟩ | ⟨g, cap', cur', rfl, k4, k5, -⟩
   ·cases hk
   ·injection hk with hk
    subst hk
    have := Option.some.inj (h5.symm.trans k5)
    injection this with _ e _
    exact hne e
theorem cel_grown {w w' : World} {B z n g : Nat} {e t : TypeId} {v : Value} {xs cs : List Value} (k : Cel w g cs t) (hv : w.ownsRow B e z v n xs) (hne : t ≠ e) (hg : w.grownBy w' v.ownBlock) : Cel w' g cs t := by
 have hl := k.lt
 unfold Cel at k ⊢
 rw [hg.block g hl ?_]
 ·exact k
 ·intro hk
  rcases hv.2 with ⟨rfl, -⟩ | ⟨q, cap', cur', rfl, k4, k5, -⟩
  ·cases hk
  ·injection hk with hk
   subst hk
   have := Option.some.inj (k.symm.trans k5)
   injection this with _ e _
   exact hne e
theorem own_cel {w : World} {B g : Nat} {e : TypeId} {cs : List Value} {n : Nat} (h : Cel w g cs e) (hB : B ≤ g) (hn : cs.length = n) (hm : n ≤ 1000) : w.ownsRow B e 1 (.slice (some ⟨g, 0, none⟩) n n) n cs := by
 subst hn
 exact ⟨by simp, Or.inr ⟨g, _, _, rfl, hB, h, Nat.le_refl _, by unfold maxLen; omega, by simp, by simp⟩⟩
def LnsR (w : World) (B : Nat) (v : Value) (L : List (List ByteArray)) : Prop := ∃ vs : List Value, w.ownsRow B 91 1 v L.length vs ∧ ∀ (j : Nat) (l : List ByteArray), L[j]? = some l → ∃ u, vs[j]? = some u ∧ w.ownsRow B 9 1 u l.length (l.map Value.string)
theorem LnsR.below {w w' : World} {B : Nat} {v : Value} {L : List (List ByteArray)} (h : LnsR w B v L) (k : Below w.heap.size w w') : LnsR w' B v L := by
 obtain ⟨vs, h1, h2⟩ := h
 refine ⟨vs, own_below h1 k, fun j l hl => ?_⟩
 obtain ⟨u, h3, h4⟩ := h2 j l hl
 exact ⟨u, h3, own_below h4 k⟩
theorem LnsR.app {w w' : World} {B : Nat} {v v' : Value} {L M : List (List ByteArray)} {us : List Value} (h : LnsR w B v L)
  (hu : ∀ (j : Nat) (l : List ByteArray), M[j]? = some l → ∃ u, us[j]? = some u ∧ w.ownsRow B 9 1 u l.length (l.map Value.string))
  (hv' : ∀ vs : List Value, w.ownsRow B 91 1 v L.length vs → w'.ownsRow B 91 1 v' (L.length + M.length) (vs ++ us)) (hg : w.grownBy w' v.ownBlock) : LnsR w' B v' (L ++ M) := by
 obtain ⟨vs, h1, h2⟩ := h
 have hvl : vs.length = L.length := by rw [h1.1, Nat.mul_one]
 have hne : 9 ≠ 91 := by decide
 refine ⟨vs ++ us, by rw [List.length_append]; exact hv' vs h1, fun j l hj => ?_⟩
 by_cases hlt : j < L.length
 ·rw [List.getElem?_append_left hlt] at hj
  obtain ⟨u, h3, h4⟩ := h2 j l hj
  exact ⟨u, by rw [List.getElem?_append_left (by omega)]; exact h3, own_grown h4 h1 hne hg⟩
 ·rw [List.getElem?_append_right (by omega)] at hj
  obtain ⟨u, h3, h4⟩ := hu _ _ hj
  exact ⟨u, by rw [List.getElem?_append_right (by omega), hvl]; exact h3, own_grown h4 h1 hne hg⟩
theorem wp_apL {w : World} {o : Oper} {a : Act} {K : Act → World → Prop} {Q : Exit → Act → World → Prop} (s x : Operand) (hop : o.op = Op.call { callee := Callee.builtin Builtin.append, args := #[s, x], argTypes := #[151, 151] })
  (v : Value) (B : Nat) (L : List (List ByteArray)) (hs : a.eval s = v) (hL : LnsR w B v L) (hB : B ≤ w.heap.size) (b c k : Nat) (hx : a.eval x = .slice (some ⟨b, 0, none⟩) k c)
  (us : List Value) (M : List (List ByteArray)) (hc : Cel w b us 91) (hk : us.length = k) (hm : M.length = k)
  (hu : ∀ (j : Nat) (l : List ByteArray), M[j]? = some l → ∃ u, us[j]? = some u ∧ w.ownsRow B 9 1 u l.length (l.map Value.string)) (h1 : ∀ u ∈ us, u.oneCell' = true) (hn : L.length + k ≤ 1000000)
  (hK : ∀ v' w', LnsR w' B v' (L ++ M) → Below B w w' → (∀ g cs t, t ≠ 91 → Cel w g cs t → Cel w' g cs t) → K (a.put o.dst v') w') :
  o.wp Tryz.prog a w K Q := by
 obtain ⟨vs, ho, -⟩ := id hL
 obtain ⟨i0, hi, hz0, hz1, hz2⟩ := info_parts (show (Tryz.prog.info? 91).map (fun i => (i.zero, i.size, i.bytes)) = some (some (.slice none 0 0), 1, 24) by kernel_rfl)
 refine wp_append_own w s x 151 hop B 91 i0 (.slice none 0 0) 1 24 Tryz.underlying151 hi hz0 hz1 hz2 (by kernel_rfl) (by decide) v L.length vs hs ho ⟨b, 0, none⟩ k c us hx (by rw [hk, Nat.mul_one]) (fun j u hj => ?_) h1 (by unfold maxLen; omega) (by omega) hB (fun v' w' h2 h3 _ => hK v' w' (hL.app hu (fun vs' ho' => ?_) h3) (below_grown (Below.refl _ _) h3 hB (fun q hq => (ho.lt q hq).1)) (fun g cs t ht hc => cel_grown hc ho ht h3))
 ·rw [show (⟨b, 0, none⟩ : Addr).add j = ⟨b, j, none⟩ by simp [Addr.add]; omega, hc.cell j]
  exact hj
 ·have : vs' = vs := by
   rcases ho.2 with ⟨e1, e2⟩ | ⟨g, cap, cur, e1, -, e2, -, -, -, e3⟩
   ·have a1 := ho.1
    have a2 := ho'.1
    rw [e2, Nat.zero_mul] at a1 a2
    rw [List.length_eq_zero_iff.1 a1, List.length_eq_zero_iff.1 a2]
   ·rcases ho'.2 with ⟨d1, d2⟩ | ⟨g', cap', cur', d1, -, d2, -, -, -, d3⟩
    ·rw [d1] at e1; cases e1
    ·rw [d1] at e1
     obtain ⟨e5, -, -⟩ := Value.slice.inj e1
     have e6 : g' = g := congrArg Addr.block (Option.some.inj e5)
     subst e6
     have := Option.some.inj (d2.symm.trans e2)
     injection this with e4 _ _
     rw [← e3, ← d3, e4]
  rw [this, hm]
  exact h2
theorem ba1 {w : World} (o : Obj) : Below w.heap.size w (w.alloc o) := (Below.refl _ _).alloc (Nat.le_refl _) _
theorem wp_ap9 {w : World} {o : Oper} {a : Act} {K : Act → World → Prop} {Q : Exit → Act → World → Prop} (s x : Operand) (hop : o.op = Op.call { callee := Callee.builtin Builtin.append, args := #[s, x], argTypes := #[151, 151] })
  (v : Value) (B : Nat) (L : List (List ByteArray)) (hs : a.eval s = v) (w0 : World) (u : Value) (l : List ByteArray) (hw : w = w0.alloc (.cells [u].toArray 91)) (hL : LnsR w0 B v L) (hB : B ≤ w0.heap.size) (g : Nat) (hg : w0.heap.size = g) (hx : a.eval x = .slice (some ⟨g, 0, none⟩) 1 1)
  (hu : w0.ownsRow B 9 1 u l.length (l.map Value.string)) (hn : L.length + 1 ≤ 1000000)
  (hK : ∀ v' w', LnsR w' B v' (L ++ [l]) → Below B w0 w' → (∀ g cs t, t ≠ 91 → Cel w0 g cs t → Cel w' g cs t) → K (a.put o.dst v') w') :
  o.wp Tryz.prog a w K Q := by
 subst hw
 subst hg
 obtain ⟨ua, uc, rfl⟩ := own_val hu
 refine wp_apL s x hop v B L hs (hL.below (ba1 _)) (Nat.le_trans hB (ba1 _).size) w0.heap.size 1 1 hx [.slice ua l.length uc] [l] (Cel.new _ _ _) rfl rfl (fun j l' hj => ?_) (fun u hu => ?_) hn (fun v' w' h1 h2 h3 => hK v' w' h1 (((Below.refl _ _).alloc hB _).trans h2) (fun g cs t ht hc => h3 g cs t ht (hc.below (ba1 _))))
 ·cases j with
  | zero => injection hj with hj; subst hj; exact ⟨_, rfl, own_below hu (ba1 _)⟩
  | succ j => simp at hj
 ·rw [List.mem_singleton.1 hu]; rfl
theorem wpList_ap9 {w : World} {ops : Array Oper} {rest : List Oper} {o : Oper} {a : Act} {Q : Exit → Act → World → Prop}
  (hgd : o.guard = none) (s x : Operand) (hop : o.op = Op.call { callee := Callee.builtin Builtin.append, args := #[s, x], argTypes := #[151, 151] })
  (v : Value) (B : Nat) (L : List (List ByteArray)) (hs : a.eval s = v) (w0 : World) (u : Value) (l : List ByteArray) (hw : w = w0.alloc (.cells [u].toArray 91)) (hL : LnsR w0 B v L) (hB : B ≤ w0.heap.size) (g : Nat) (hg : w0.heap.size = g) (hx : a.eval x = .slice (some ⟨g, 0, none⟩) 1 1)
  (hu : w0.ownsRow B 9 1 u l.length (l.map Value.string)) (hn : L.length + 1 ≤ 1000000)
  (hK : ∀ v' w', LnsR w' B v' (L ++ [l]) → Below B w0 w' → wpList Tryz.prog ops Q rest (a.put o.dst v') w') :
  wpList Tryz.prog ops Q (o :: rest) a w := wpList_plain hgd fun _ hK' => wp_ap9 s x hop v B L hs w0 u l hw hL hB g hg hx hu hn fun v' w' h1 h2 _ => hK' _ _ (hK v' w' h1 h2)
def lnP (T : Q3 → ByteArray) (l : List (Q3 × Q3)) : List (List ByteArray) := l.map fun q => [T q.1, T q.2]
def lnS (l : List (Nat × Nat × Bool)) : List (List ByteArray) := l.map fun s => [dg s.1, dg s.2.1, kd8 s.2.2]
def lines8 (T : Q3 → ByteArray) (p : Pl) : List (List ByteArray) :=
 ((((((([[wP]] ++ [[wV, dg p.pts.length]]) ++ lnP T p.pts) ++ [[wS, dg p.segs.length]]) ++ lnS p.segs) ++ [[wH, dg p.holes.length]]) ++ lnP T p.holes) ++ [[wF] ++ p.F.map T, [wG] ++ p.G.map T, [wE]])
def wtL (L : List (List ByteArray)) : List UInt8 := L.flatMap fun l => jnL l ++ [10]
def wtx (T : Q3 → ByteArray) (p : Pl) : ByteArray := ⟨(wtL (lines8 T p)).toArray⟩
theorem TX.below {T : Q3 → ByteArray} {q : Q3} {w w0 : World} (h : TX T q w) (b : Below w.heap.size w w0) : TX T q w0 := fun w1 b1 => h w1 (Below.after b b1)
structure WL (w0 : World) (G : Nat) (cs : List Value) (v : Value) (L : List (List ByteArray)) (wi : World) : Prop where
 kz : Cel wi G cs 46
 ln : LnsR wi w0.heap.size v L
 bw : Below w0.heap.size w0 wi
 hG : G < w0.heap.size
theorem WL.below {w0 wi wj : World} {G : Nat} {cs : List Value} {v : Value} {L : List (List ByteArray)} (h : WL w0 G cs v L wi) (b : Below wi.heap.size wi wj) : WL w0 G cs v L wj :=
 ⟨h.kz.below b, h.ln.below b, Below.after h.bw b, h.hG⟩
theorem cel_b {B g : Nat} {cs : List Value} {t : TypeId} {w w' : World} (h : Cel w g cs t) (b : Below B w w') (hB : g < B) : Cel w' g cs t := by
 unfold Cel at h ⊢
 rw [b.block g hB]
 exact h
theorem WL.app {w0 wi wj wk : World} {G : Nat} {cs : List Value} {v v' : Value} {L L' : List (List ByteArray)} (h : WL w0 G cs v L wi) (b : Below wi.heap.size wi wj) (hl : LnsR wk w0.heap.size v' L') (b' : Below w0.heap.size wj wk) : WL w0 G cs v' L' wk :=
 ⟨cel_b (h.kz.below b) b' h.hG, hl, (Below.after h.bw b).trans b', h.hG⟩
theorem flat_str (l : List ByteArray) : (l.flatMap fun t => [Value.string t]) = l.map Value.string := by
 induction l with
 | nil => rfl
 | cons a l ih => rw [List.flatMap_cons, ih, List.map_cons]; rfl
theorem rowS_own {w : World} {B : Nat} {v : Value} {l : List ByteArray} (h : w.ownsRow B 9 1 v l.length (l.map Value.string)) : RowR w 1 v (l.map fun u => [Value.string u]) := by
 rw [← flat_str] at h
 exact RowR.of (fun u => [Value.string u]) (fun _ => rfl) h
theorem rowS_pt {w : World} {t : ByteArray} {x : Value} (h : PtS [.string t] 9 1 x w) : RowR w 1 x ([t].map fun u => [Value.string u]) := by
 obtain ⟨g, rfl, k⟩ := h
 refine ⟨_, 1, rfl, Nat.le_refl _, fun j q hq => ⟨g, 0, rfl, k.lt, fun i v hv => ?_⟩⟩
 rw [k.cell]
 match j, hq with
 | 0, hq => injection hq with hq; subst hq; match i, hv with | 0, hv => exact hv
theorem join_any (l : List ByteArray) (v : Value) (w : World) (hr : RowR w 1 v (l.map fun u => [Value.string u])) (h0 : 0 < l.length) (hl : l.length ≤ 10) (hz : ∀ u, u ∈ l → u.size ≤ 1000) :
  Calls Tryz.prog 101 #[v, .string ⟨#[32]⟩] w (Re w (.string ⟨(jnL l).toArray⟩)) := by
 match l, hr, h0, hl, hz with
 | [t], hr, _, _, _ => exact join_one t v w hr
 | t :: u :: r, hr, _, hl, hz => exact join_more t (u :: r) v w hr (by simp at hl ⊢; omega) (by simp) (fun q hq => Nat.le_trans (hz q hq) (by decide))
theorem rowV_own {w : World} {B n : Nat} {e : TypeId} {v : Value} {vs : List Value} (h : w.ownsRow B e 1 v n vs) : RowR w 1 v (vs.map fun u => [u]) := by
 have hn : vs.length = n := by rw [h.1, Nat.mul_one]
 subst hn
 have hf : (vs.flatMap fun u => [u]) = vs := by simp
 have h' : w.ownsRow B e 1 v vs.length (vs.flatMap fun u => [u]) := by rw [hf]; exact h
 exact RowR.of (fun u => [u]) (fun _ => rfl) h'
def LnOk (L : List (List ByteArray)) : Prop := ∀ l, l ∈ L → 0 < l.length ∧ l.length ≤ 10 ∧ ∀ t, t ∈ l → t.size ≤ 1000
theorem dg_size (n : Nat) (h : n < 100) : (dg n).size ≤ 1000 := by
 have : ∀ n, n < 100 → (dg n).size ≤ 1000 := by decide +kernel
 exact this n h
theorem kd8_size (f : Bool) : (kd8 f).size ≤ 1000 := by cases f <;> decide
theorem lnOk_app {L M : List (List ByteArray)} (h : LnOk L) (k : LnOk M) : LnOk (L ++ M) := fun l hl => by
 rcases List.mem_append.1 hl with q | q
 ·exact h l q
 ·exact k l q
theorem lnOk_two {a b : ByteArray} (ha : a.size ≤ 1000) (hb : b.size ≤ 1000) : LnOk [[a, b]] := fun l hl => by
 rw [List.mem_singleton.1 hl]
 refine ⟨by simp, by simp, fun t ht => ?_⟩
 rcases List.mem_cons.1 ht with rfl | ht
 ·exact ha
 ·rw [List.mem_singleton.1 ht]; exact hb
theorem lnOk_P {T : Q3 → ByteArray} (hT : ∀ q, (T q).size ≤ 1000) (l : List (Q3 × Q3)) : LnOk (lnP T l) := fun m hm => by
 obtain ⟨q, -, rfl⟩ := List.mem_map.1 hm
 exact lnOk_two (hT _) (hT _) _ (List.mem_singleton.2 rfl)
theorem lnOk_S (l : List (Nat × Nat × Bool)) (h : ∀ s, s ∈ l → s.1 < 100 ∧ s.2.1 < 100) : LnOk (lnS l) := fun m hm => by
 obtain ⟨q, hq, rfl⟩ := List.mem_map.1 hm
 obtain ⟨h1, h2⟩ := h q hq
 refine ⟨by simp, by simp, fun t ht => ?_⟩
 rcases List.mem_cons.1 ht with rfl | ht
 ·exact dg_size _ h1
 rcases List.mem_cons.1 ht with rfl | ht
 ·exact dg_size _ h2
 ·rw [List.mem_singleton.1 ht]; exact kd8_size _
theorem lnOk_F {T : Q3 → ByteArray} (hT : ∀ q, (T q).size ≤ 1000) (c : ByteArray) (hc : c.size ≤ 1000) (F : List Q3) (hF : F.length ≤ 9) (l : List ByteArray) (hl : l = [c] ++ F.map T) : 0 < l.length ∧ l.length ≤ 10 ∧ ∀ t, t ∈ l → t.size ≤ 1000 := by
 subst hl
 refine ⟨by simp, by simp; omega, fun t ht => ?_⟩
 rcases List.mem_append.1 ht with ht | ht
 ·rw [List.mem_singleton.1 ht]; exact hc
 ·obtain ⟨q, -, rfl⟩ := List.mem_map.1 ht
  exact hT q
theorem lines_ok {T : Q3 → ByteArray} (hT : ∀ q, (T q).size ≤ 1000) (A1 A3 : List (Q3 × Q3)) (A2 : List (Nat × Nat × Bool)) (F G : List Q3) (h1 : A1.length < 100) (h2 : A2.length < 100) (h3 : A3.length < 100) (hF : F.length ≤ 9) (hG : G.length ≤ 9) (hs : ∀ s, s ∈ A2 → s.1 < 100 ∧ s.2.1 < 100) : LnOk (lines8 T ⟨A1, A2, A3, F, G⟩) := by
 unfold lines8
 have w1 : ∀ c : ByteArray, c.size ≤ 1000 → LnOk [[c]] := fun c hc l hl => by
  rw [List.mem_singleton.1 hl]
  exact ⟨by simp, by simp, fun t ht => by rw [List.mem_singleton.1 ht]; exact hc⟩
 refine lnOk_app (lnOk_app (lnOk_app (lnOk_app (lnOk_app (lnOk_app (lnOk_app (w1 _ (by decide)) (lnOk_two (by decide) (dg_size _ h1))) (lnOk_P hT _)) (lnOk_two (by decide) (dg_size _ h2))) (lnOk_S _ hs)) (lnOk_two (by decide) (dg_size _ h3))) (lnOk_P hT _)) ?_
 intro l hl
 rcases List.mem_cons.1 hl with h | hl
 ·exact lnOk_F hT _ (by decide) F hF l h
 rcases List.mem_cons.1 hl with h | hl
 ·exact lnOk_F hT _ (by decide) G hG l h
 ·rw [List.mem_singleton.1 hl]
  exact w1 wE (by decide) _ (List.mem_singleton.2 rfl)
theorem jnL_len (l : List ByteArray) (h : ∀ t, t ∈ l → t.size ≤ 1000) : (jnL l).length ≤ l.length * 1001 := by
 have hs : ∀ t : ByteArray, t.data.toList.length = t.size := fun t => Array.length_toList
 have hr : ∀ r : List ByteArray, (∀ t, t ∈ r → t.size ≤ 1000) → (r.flatMap fun u => 32 :: u.data.toList).length ≤ r.length * 1001 := by
  intro r
  induction r with
  | nil => intro _; exact Nat.le_refl _
  | cons a r ih =>
   intro h
   have h1 := ih (fun t ht => h t (List.mem_cons_of_mem _ ht))
   have h2 := h a (List.mem_cons_self ..)
   rw [List.flatMap_cons, List.length_append, List.length_cons, hs, List.length_cons]
   omega
 cases l with
 | nil => exact Nat.le_refl _
 | cons t r =>
  have h1 := hr r (fun u hu => h u (List.mem_cons_of_mem _ hu))
  have h2 := h t (List.mem_cons_self ..)
  unfold jnL
  rw [List.length_append, hs, List.length_cons]
  omega
theorem line_at {w : World} {B n : Nat} {aL : Option Addr} {cL : Nat} {vs : List Value} {L : List (List ByteArray)} (h : w.ownsRow B 91 1 (.slice aL n cL) n vs) (hL : ∀ (j : Nat) (l : List ByteArray), L[j]? = some l → ∃ u, vs[j]? = some u ∧ w.ownsRow B 9 1 u l.length (l.map Value.string)) (j : Nat) (l : List ByteArray) (hl : L[j]? = some l) :
  ∃ g o au cu, aL = some ⟨g, o, none⟩ ∧ w.cell? ⟨g, o + j, none⟩ = some (.slice au l.length cu) ∧ RowR w 1 (.slice au l.length cu) (l.map fun u => [Value.string u]) := by
 obtain ⟨u, hu, ho⟩ := hL j l hl
 obtain ⟨au, cu, rfl⟩ := own_val ho
 obtain ⟨a, c, e, -, hr⟩ := rowV_own h
 have ea := (Value.slice.inj e).1
 obtain ⟨g, o, eg, -, hc⟩ := hr j [.slice au l.length cu] (by rw [List.getElem?_map, hu]; rfl)
 have := hc 0 _ rfl
 rw [Nat.mul_one, Nat.add_zero] at this
 exact ⟨g, o, au, cu, by rw [ea, eg], this, rowS_own ho⟩
theorem isb_below {T e : TypeId} {B b : Nat} {bs : List Value} {w w' : World} (h : Lib.IsBuilder T e B b bs w) (k : Below w.heap.size w w') : Lib.IsBuilder T e B b bs w' := by
 have one : ∀ p, Lib.BuilderAt T e B b p bs w → Lib.BuilderAt T e B b p bs w' := by
  rintro p ⟨h1, v, h2, h3, h4⟩
  have hl : b < w.heap.size := by
   rcases Nat.lt_or_ge b w.heap.size with h | h
   ·exact h
   ·rw [Array.getElem?_eq_none h] at h2; cases h2
  exact ⟨h1, v, by rw [k.block b hl]; exact h2, own_below h3 k, h4⟩
 exact h.elim (fun q => Or.inl (one _ q)) (fun q => Or.inr (one _ q))
theorem wtL_up (L : List (List ByteArray)) (k : Nat) (l : List ByteArray) (h : L[k]? = some l) : wtL (L.take k) ++ (jnL l ++ [10]) = wtL (L.take (k + 1)) := by
 rw [List.take_add_one, h]
 unfold wtL
 simp
theorem app10 (l : List UInt8) : Lib.strCells ((⟨l.toArray⟩ : ByteArray) ++ ⟨#[10]⟩) = Lib.byteCells (l ++ [10]) := by
 rw [Lib.strCells_eq, ByteArray.data_append]
 simp
theorem size10 (l : List UInt8) : ((⟨l.toArray⟩ : ByteArray) ++ ⟨#[10]⟩).size = l.length + 1 := by
 rw [ByteArray.size_append]
 simp [ByteArray.size]
theorem write_line (b : Nat) (Lb l : List UInt8) (w : World) (h : Lib.IsBuilder 158 5 b b (Lib.byteCells Lb) w) (hlen : Lb.length + l.length + 1 ≤ 140737488355328) (hb : b ≤ w.heap.size) :
  Calls Tryz.prog 100 #[.pointer (some ⟨b, 0, none⟩), .string ((⟨l.toArray⟩ : ByteArray) ++ ⟨#[10]⟩)] w fun e w' => ∃ n : Int, e = .returned (.tuple #[.int .i64 n, .nilIface]) ∧ Lib.IsBuilder 158 5 b b (Lib.byteCells (Lb ++ (l ++ [10]))) w' ∧ Below b w w' := by
 have H : Calls Tryz.prog 100 #[.pointer (some ⟨b, 0, none⟩), .string ((⟨l.toArray⟩ : ByteArray) ++ ⟨#[10]⟩)] w fun e w' => e = .returned (.tuple #[.int .i64 ((⟨l.toArray⟩ : ByteArray) ++ ⟨#[10]⟩).size, .nilIface]) ∧ (Lib.BuilderAt 158 5 b b (.pointer (some ⟨b, 0, none⟩)) (Lib.byteCells Lb ++ Lib.strCells ((⟨l.toArray⟩ : ByteArray) ++ ⟨#[10]⟩)) w' ∧ Below b w w') :=
  Any.Builder_WriteString lays166 Extra_105 b b (Lib.byteCells Lb) _ w h (by rw [Lib.byteCells_length, size10]; omega) hb
 refine H.mono ?_
 rintro e w' ⟨rfl, A, k⟩
 rw [app10, ← Lib.byteCells_append] at A
 exact ⟨_, rfl, Or.inr A, k⟩
theorem cellsU0 : Value.cells (.string { data := #[] }) = #[.string { data := #[] }] := by kernel_rfl
theorem wpList_apU {w : World} {ops : Array Oper} {rest : List Oper} {o : Oper} {a : Act} {Q : Exit → Act → World → Prop}
  (hg : o.guard = none) (s x : Operand) (hop : o.op = Op.call { callee := Callee.builtin Builtin.append, args := #[s, x], argTypes := #[91, 91] })
  (sv : Value) (L : List ByteArray) (hs : a.eval s = sv) (B : Nat) (hown : w.ownsRow B 9 1 sv L.length (L.map Value.string)) (hB : B ≤ w.heap.size) (b off c : Nat) (M : List ByteArray) (m : Nat) (hm : M.length = m) (hx : a.eval x = .slice (some ⟨b, off, none⟩) m c)
  (hc : ∀ j u, M[j]? = some u → w.cell? ⟨b, off + j, none⟩ = some (.string u)) (hn : L.length + m ≤ 1000000)
  (hK : ∀ v' w', w'.ownsRow B 9 1 v' (L ++ M).length ((L ++ M).map Value.string) → w.grownBy w' sv.ownBlock → (v' = .slice none 0 0 ↔ sv = .slice none 0 0 ∧ m = 0) → wpList Tryz.prog ops Q rest (a.put o.dst v') w') :
  wpList Tryz.prog ops Q (o :: rest) a w := by
 obtain ⟨i0, hi, hz0, hz1, hz2⟩ := info_parts (show (Tryz.prog.info? 9).map (fun i => (i.zero, i.size, i.bytes)) = some (some (.string ⟨#[]⟩), 1, 16) by kernel_rfl)
 refine wpList_append_own _ hg s x 91 hop B 9 i0 (.string ⟨#[]⟩) 1 16 Tryz.underlying91 hi hz0 hz1 hz2 (by rw [cellsU0]; rfl) (by decide) sv L.length _ hs hown ⟨b, off, none⟩ m c (M.map Value.string) hx (by simp [hm]) ?_ ?_ ?_ ?_ hB (fun v' w' h1 h2 h3 => hK v' w' (by rw [List.length_append, List.map_append, hm]; exact h1) h2 h3)
 ·intro j u hj
  rw [List.getElem?_map] at hj
  obtain ⟨t, ht, rfl⟩ := Option.map_eq_some_iff.1 hj
  rw [Addr.add_mid]
  exact hc j t ht
 ·intro u hu
  obtain ⟨t, -, rfl⟩ := List.mem_map.1 hu
  rfl
 ·unfold maxLen; omega
 ·omega
theorem grow_str (n : Nat) (w : World) (h0 : 0 < n) (hn : n ≤ 100000) :
  Calls Tryz.prog 156 #[.slice none 0 0, .int .i64 n] w fun e w' => ∃ cap, e = .returned (.slice (some ⟨w.heap.size, 0, none⟩) 0 cap) ∧ w'.ownsRow w.heap.size 9 1 (.slice (some ⟨w.heap.size, 0, none⟩) 0 cap) 0 [] ∧ Below w.heap.size w w' := by
 obtain ⟨i0, hi, hz0, hz1, hz2⟩ := info_parts (show (Tryz.prog.info? 9).map (fun i => (i.zero, i.size, i.bytes)) = some (some (.string ⟨#[]⟩), 1, 16) by kernel_rfl)
 have happ := Lib.run_append_nil_zeros (P := Tryz.prog) w 91 3 91 9 i0 (.string ⟨#[]⟩) .i64 .i64 Tryz.underlying91 Tryz.underlying3 hi hz0 n h0 (by omega) (by omega) (by rw [hz2]; omega)
 generalize hcap : grownCap w n 0 9 = cap at happ
 have hge : n ≤ cap := by rw [← hcap]; exact grownCap_ge w _ 0 _
 have hle : cap ≤ maxLen := by rw [← hcap]; exact grownCap_le_maxLen w _ 0 _ (by unfold maxLen; omega)
 rw [cellsU0] at happ
 generalize hZ : (Builtin.zeroCells #[Value.string ⟨#[]⟩] n ++ Builtin.zeroCells #[Value.string ⟨#[]⟩] (cap - n)) = Z at happ
 have hZs : Z.size = cap * 1 := by rw [← hZ]; simp [size_zeroCells]; omega
 clear hcap hZ
 have HO : Hid ((w.drew.alloc (.cells Z 9)).ownsRow w.heap.size 9 1 (.slice (some ⟨w.heap.size, 0, none⟩) 0 cap) 0 []) := World.ownsRow_made w.drew Z cap (Nat.le_refl _) hle hZs
 have HB : Hid (Below w.heap.size w (w.drew.alloc (.cells Z 9))) := (bdrew w).alloc (Nat.le_refl _) _
 clear hle hZs
 go_enter Tryz.func156, Tryz.ntmps156
 go_wp2_with (at_builtin; refine Lib.wpList_append_run _ rfl _ _ _ _ rfl _ _ rfl rfl _ _ happ ?_)
 go_ret
 exact ⟨cap, rfl, HO.out, HB.out⟩
theorem own_blk8 {w : World} {B z n : Nat} {e : TypeId} {v : Value} {xs : List Value} (h : w.ownsRow B e z v n xs) : ∀ g, v.ownBlock = some g → B ≤ g := fun g hg => (h.lt g hg).1
theorem concat_str (B : Nat) (v0 v1 : Value) (t0 t1 : ByteArray) (r0 r1 : List ByteArray) (w : World) (hB : Cel w B [v0, v1] 91) (h0 : RowR w 1 v0 ((t0 :: r0).map fun u => [Value.string u])) (h1 : RowR w 1 v1 ((t1 :: r1).map fun u => [Value.string u])) (hn : r0.length + r1.length ≤ 1000) :
  Calls Tryz.prog 99 #[.slice (some ⟨B, 0, none⟩) 2 2] w fun e w' => ∃ v, e = .returned v ∧ w'.ownsRow w.heap.size 9 1 v ((t0 :: r0) ++ (t1 :: r1)).length (((t0 :: r0) ++ (t1 :: r1)).map Value.string) ∧ Below w.heap.size w w' := by
 obtain ⟨b0, o0, c0, rfl, -, -, a0⟩ := RowR.str h0
 obtain ⟨b1, o1, c1, rfl, -, -, a1⟩ := RowR.str h1
 have k0 := hB.cell 0
 have k1 := hB.cell 1
 simp only [List.getElem?_cons_zero, List.getElem?_cons_succ] at k0 k1
 obtain ⟨n0, e0⟩ : ∃ n, n = r0.length + 1 := ⟨_, rfl⟩
 obtain ⟨n1, e1⟩ : ∃ n, n = r1.length + 1 := ⟨_, rfl⟩
 rw [← e0] at k0
 rw [← e1] at k1
 replace a0 := shut a0
 replace a1 := shut a1
 have hn' : n0 + n1 ≤ 2000 := by omega
 have HG : Hid (∀ w : World, Calls Tryz.prog 156 #[.slice none 0 0, .int .i64 ((n0 : Int) + (n1 : Int))] w fun e w' => ∃ cap, e = .returned (.slice (some ⟨w.heap.size, 0, none⟩) 0 cap) ∧ w'.ownsRow w.heap.size 9 1 (.slice (some ⟨w.heap.size, 0, none⟩) 0 cap) 0 [] ∧ Below w.heap.size w w') := fun w => by
  have := grow_str (n0 + n1) w (by omega) (by omega)
  rwa [Int.natCast_add] at this
 have E0 := shut e0
 have E1 := shut e1
 clear h0 h1 e0 e1 hB hn
 go_enter Tryz.func99, Tryz.ntmps99
 go_wp2_with fail
 refine wp_loop_rounds 3 ?_
 rw [rounds_succ]
 go_wp2_with fail
 rw [rounds_succ]
 go_wp2_with fail
 rw [rounds_succ]
 go_wp2_with fail
 go_fit (HG.out _)
 rintro e w1 ⟨cap, rfl, ho, b1⟩
 clear HG
 go_wp2_with fail
 go_loopw [6, 27] (fun v i wr => Below w.heap.size w wr ∧ ((i = .int .i64 0 ∧ wr.ownsRow w.heap.size 9 1 v 0 []) ∨ (i = .int .i64 1 ∧ wr.ownsRow w.heap.size 9 1 v (t0 :: r0).length ((t0 :: r0).map Value.string)) ∨ (i = .int .i64 2 ∧ wr.ownsRow w.heap.size 9 1 v ((t0 :: r0) ++ (t1 :: r1)).length (((t0 :: r0) ++ (t1 :: r1)).map Value.string)))) (fun _ i _ => 2 - (intOf i).toNat)
 case atStart => exact ⟨b1, Or.inl ⟨rfl, ho⟩⟩
 case round =>
  clear ho b1
  obtain ⟨bb, hi⟩ := hrel
  replace k0 := cell_below k0 bb
  replace k1 := cell_below k1 bb
  have r0' : Hid (∀ j u, (t0 :: r0)[j]? = some u → wr.cell? ⟨b0, o0 + j, none⟩ = some (.string u)) := fun j u hu => cell_below (a0.out j u hu) bb
  have r1' : Hid (∀ j u, (t1 :: r1)[j]? = some u → wr.cell? ⟨b1, o1 + j, none⟩ = some (.string u)) := fun j u hu => cell_below (a1.out j u hu) bb
  rcases hi with ⟨rfl, ho⟩ | ⟨rfl, ho⟩ | ⟨rfl, ho⟩
  ·replace ho := shut ho
   go_wp2_with (at_builtin; refine wpList_apU rfl _ _ rfl u6 [] rfl w.heap.size ho.out bb.size b0 o0 c0 (t0 :: r0) n0 E0.out.symm rfl r0'.out (by simp; omega) ?_; intro v' w2 o2 hg2 hnil)
   have B2 : Hid (Below w.heap.size w w2) := below_grown bb hg2 (Nat.le_refl _) (own_blk8 ho.out)
   rw [List.nil_append] at o2
   replace o2 := shut o2
   clear hg2 hnil ho k0 k1 bb
   go_wp2
   exact ⟨⟨B2.out, Or.inr (Or.inl ⟨by go_num, o2.out⟩)⟩, by simp [intOf]⟩
  ·replace ho := shut ho
   go_wp2_with (at_builtin; refine wpList_apU rfl _ _ rfl u6 (t0 :: r0) rfl w.heap.size ho.out bb.size b1 o1 c1 (t1 :: r1) n1 E1.out.symm rfl r1'.out (by have := E0.out; simp; omega) ?_; intro v' w2 o2 hg2 hnil)
   have B2 : Hid (Below w.heap.size w w2) := below_grown bb hg2 (Nat.le_refl _) (own_blk8 ho.out)
   replace o2 := shut o2
   clear hg2 hnil ho k0 k1 bb
   go_wp2
   exact ⟨⟨B2.out, Or.inr (Or.inr ⟨by go_num, o2.out⟩)⟩, by simp [intOf]⟩
  ·replace ho := shut ho
   clear k0 k1
   go_wp2
   go_ret
   exact ⟨_, rfl, ho.out, bb⟩
theorem row2 {w : World} {g : Nat} {a d : Bool} {b c e f : ByteArray} {t : TypeId} (k : Cel w g (ql2 a b c d e f) t) : RowR w 3 (.slice (some ⟨g, 0, none⟩) 2 2) ([((a, b, c) : Q3), (d, e, f)].map cQ) := by
 refine ⟨_, 2, rfl, Nat.le_refl _, fun j q hq => ⟨g, 0, rfl, k.lt, fun i v hv => ?_⟩⟩
 rw [k.cell]
 match j, hq with
 | 0, hq => injection hq with hq; subst hq; match i, hv with | 0, hv => exact hv | 1, hv => exact hv | 2, hv => exact hv
 | 1, hq => injection hq with hq; subst hq; match i, hv with | 0, hv => exact hv | 1, hv => exact hv | 2, hv => exact hv
theorem lnP_len (T : Q3 → ByteArray) (l : List (Q3 × Q3)) (k : Nat) : (lnP T (l.take k)).length ≤ k := by
 unfold lnP
 rw [List.length_map, List.length_take]
 omega
theorem lnP_up (T : Q3 → ByteArray) (l : List (Q3 × Q3)) (k : Nat) (q : Q3 × Q3) (h : l[k]? = some q) (L : List (List ByteArray)) : (L ++ lnP T (l.take k)) ++ [[T q.1, T q.2]] = L ++ lnP T (l.take (k + 1)) := by
 rw [List.take_add_one, h]
 unfold lnP
 simp
theorem lnS_len (l : List (Nat × Nat × Bool)) (k : Nat) : (lnS (l.take k)).length ≤ k := by
 unfold lnS
 rw [List.length_map, List.length_take]
 omega
theorem lnS_up (l : List (Nat × Nat × Bool)) (k : Nat) (q : Nat × Nat × Bool) (h : l[k]? = some q) (L : List (List ByteArray)) : (L ++ lnS (l.take k)) ++ [[dg q.1, dg q.2.1, kd8 q.2.2]] = L ++ lnS (l.take (k + 1)) := by
 rw [List.take_add_one, h]
 unfold lnS
 simp
theorem rg_cel {w : World} {g : Nat} {cs : List Value} {t : TypeId} (k : Cel w g cs t) (o n : Nat) : w.rangeAt g o ((cs.drop o).take n) := fun j v hv => by
 rw [k.cell, ← List.getElem?_drop]
 rw [List.getElem?_take] at hv
 split at hv
 ·exact hv
 ·cases hv
theorem row6 {w : World} {g : Nat} {cs : List Value} {t : TypeId} (k : Cel w g cs t) (o : Nat) (x : Nat → Q3) (h : (cs.drop o).take 18 = L18 x) : RowR w 3 (.slice (some ⟨g, o, none⟩) 6 6) ([x 0, x 1, x 2, x 3, x 4, x 5].map cQ) := by
 refine ⟨_, 6, rfl, Nat.le_refl _, fun j q hq => ⟨g, o, rfl, k.lt, fun i v hv => ?_⟩⟩
 rw [k.cell, Nat.add_assoc, ← List.getElem?_drop]
 have hL : (L18 x)[j * 3 + i]? = some v := by
  match j, hq with
  | 0, hq => injection hq with hq; subst hq; match i, hv with | 0, hv => exact hv | 1, hv => exact hv | 2, hv => exact hv
  | 1, hq => injection hq with hq; subst hq; match i, hv with | 0, hv => exact hv | 1, hv => exact hv | 2, hv => exact hv
  | 2, hq => injection hq with hq; subst hq; match i, hv with | 0, hv => exact hv | 1, hv => exact hv | 2, hv => exact hv
  | 3, hq => injection hq with hq; subst hq; match i, hv with | 0, hv => exact hv | 1, hv => exact hv | 2, hv => exact hv
  | 4, hq => injection hq with hq; subst hq; match i, hv with | 0, hv => exact hv | 1, hv => exact hv | 2, hv => exact hv
  | 5, hq => injection hq with hq; subst hq; match i, hv with | 0, hv => exact hv | 1, hv => exact hv | 2, hv => exact hv
 rw [← h] at hL
 rw [List.getElem?_take] at hL
 split at hL
 ·exact hL
 ·cases hL
theorem tx_six {T : Q3 → ByteArray} {x : Nat → Q3} {w : World} (h : ∀ i, TX T (x i) w) (q : Q3) (hq : q ∈ [x 0, x 1, x 2, x 3, x 4, x 5]) : TX T q w := by
 rcases List.mem_cons.1 hq with rfl | hq
 ·exact h 0
 rcases List.mem_cons.1 hq with rfl | hq
 ·exact h 1
 rcases List.mem_cons.1 hq with rfl | hq
 ·exact h 2
 rcases List.mem_cons.1 hq with rfl | hq
 ·exact h 3
 rcases List.mem_cons.1 hq with rfl | hq
 ·exact h 4
 rw [List.mem_singleton.1 hq]
 exact h 5
theorem written_any (T : Q3 → ByteArray) (A1 A3 : List (Q3 × Q3)) (A2 : List (Nat × Nat × Bool)) (a1 a2 a3 : Option Addr) (n1 n2 n3 m1 m2 m3 : Nat) (x y : Nat → Q3) (w : World) (e1 : A1.length = n1) (e2 : A2.length = n2) (e3 : A3.length = n3)
  (h1 : n1 < 100) (h2 : n2 < 100) (h3 : n3 < 100) (r1 : RowR w 6 (.slice a1 n1 m1) (A1.map cP)) (r2 : RowR w 3 (.slice a2 n2 m2) (A2.map cS)) (r3 : RowR w 6 (.slice a3 n3 m3) (A3.map cP))
  (t1 : ∀ q, q ∈ A1 → TX T q.1 w ∧ TX T q.2 w) (t3 : ∀ q, q ∈ A3 → TX T q.1 w ∧ TX T q.2 w) (tx : ∀ i, TX T (x i) w) (ty : ∀ i, TX T (y i) w) (s2 : ∀ s, s ∈ A2 → s.1 < 100 ∧ s.2.1 < 100) (zT : ∀ q, (T q).size ≤ 1000) :
  Calls Tryz.prog 52 #[.agg #[.slice a1 n1 m1, .slice a2 n2 m2, .slice a3 n3 m3, .bool (x 0).1, .string (x 0).2.1, .string (x 0).2.2, .bool (x 1).1, .string (x 1).2.1, .string (x 1).2.2, .bool (x 2).1, .string (x 2).2.1, .string (x 2).2.2, .bool (x 3).1, .string (x 3).2.1, .string (x 3).2.2, .bool (x 4).1, .string (x 4).2.1, .string (x 4).2.2, .bool (x 5).1, .string (x 5).2.1, .string (x 5).2.2, .bool (y 0).1, .string (y 0).2.1, .string (y 0).2.2, .bool (y 1).1, .string (y 1).2.1, .string (y 1).2.2, .bool (y 2).1, .string (y 2).2.1, .string (y 2).2.2, .bool (y 3).1, .string (y 3).2.1, .string (y 3).2.2, .bool (y 4).1, .string (y 4).2.1, .string (y 4).2.2, .bool (y 5).1, .string (y 5).2.1, .string (y 5).2.2]] w (Re w (.string (wtx T ⟨A1, A2, A3, [x 0, x 1, x 2, x 3, x 4, x 5], [y 0, y 1, y 2, y 3, y 4, y 5]⟩))) := by
 go_enter Tryz.func52, Tryz.ntmps52
 go_upto_region 1 with fail
 obtain ⟨w0, hq, kz, b0⟩ := mk1 w [.slice a1 n1 m1, .slice a2 n2 m2, .slice a3 n3 m3, .bool (x 0).1, .string (x 0).2.1, .string (x 0).2.2, .bool (x 1).1, .string (x 1).2.1, .string (x 1).2.2, .bool (x 2).1, .string (x 2).2.1, .string (x 2).2.2, .bool (x 3).1, .string (x 3).2.1, .string (x 3).2.2, .bool (x 4).1, .string (x 4).2.1, .string (x 4).2.2, .bool (x 5).1, .string (x 5).2.1, .string (x 5).2.2, .bool (y 0).1, .string (y 0).2.1, .string (y 0).2.2, .bool (y 1).1, .string (y 1).2.1, .string (y 1).2.2, .bool (y 2).1, .string (y 2).2.1, .string (y 2).2.2, .bool (y 3).1, .string (y 3).2.1, .string (y 3).2.2, .bool (y 4).1, .string (y 4).2.1, .string (y 4).2.2, .bool (y 5).1, .string (y 5).2.1, .string (y 5).2.2] 46
 rw [← hq]
 clear hq
 have R1 := shut (fun wi (b : Below w0.heap.size w0 wi) => (r1.below b0).below b)
 have R2 := shut (fun wi (b : Below w0.heap.size w0 wi) => (r2.below b0).below b)
 have R3 := shut (fun wi (b : Below w0.heap.size w0 wi) => (r3.below b0).below b)
 have T1 := shut (fun q hq => And.intro ((t1 q hq).1.below b0) ((t1 q hq).2.below b0))
 have T3 := shut (fun q hq => And.intro ((t3 q hq).1.below b0) ((t3 q hq).2.below b0))
 have TX' := shut (fun i => (tx i).below b0)
 have TY := shut (fun i => (ty i).below b0)
 have hG := kz.lt
 have ZT := shut zT
 have S2 := shut s2
 have E1 := shut e1
 have E2 := shut e2
 have E3 := shut e3
 clear r1 r2 r3 t1 t3 tx ty zT s2 e1 e2 e3
 obtain ⟨G, hGG⟩ : ∃ G, G = w.heap.size := ⟨_, rfl⟩
 rw [← hGG] at kz hG ⊢
 have kz' : Cel w0 G (pl39 (.slice a1 n1 m1) (.slice a2 n2 m2) (.slice a3 n3 m3) (L18 x) (L18 y)) 46 := kz
 clear kz hGG
 obtain ⟨cs, hcs⟩ : ∃ cs : List Value, cs = pl39 (.slice a1 n1 m1) (.slice a2 n2 m2) (.slice a3 n3 m3) (L18 x) (L18 y) := ⟨_, rfl⟩
 rw [← hcs] at kz'
 have C0 : Hid (∀ wi, Cel wi G cs 46 → wi.cell? ⟨G, 0, none⟩ = some (.slice a1 n1 m1)) := fun wi k => by rw [k.cell 0, hcs]; rfl
 have C1 : Hid (∀ wi, Cel wi G cs 46 → wi.cell? ⟨G, 1, none⟩ = some (.slice a2 n2 m2)) := fun wi k => by rw [k.cell 1, hcs]; rfl
 have C2 : Hid (∀ wi, Cel wi G cs 46 → wi.cell? ⟨G, 2, none⟩ = some (.slice a3 n3 m3)) := fun wi k => by rw [k.cell 2, hcs]; rfl
 have CF : Hid (∀ wi, Cel wi G cs 46 → RowR wi 3 (.slice (some ⟨G, 3, none⟩) 6 6) ([x 0, x 1, x 2, x 3, x 4, x 5].map cQ)) := fun wi k => row6 k 3 x (by rw [hcs]; rfl)
 have CG : Hid (∀ wi, Cel wi G cs 46 → RowR wi 3 (.slice (some ⟨G, 21, none⟩) 6 6) ([y 0, y 1, y 2, y 3, y 4, y 5].map cQ)) := fun wi k => row6 k 21 y (by rw [hcs]; rfl)
 clear hcs
 go_upto_region 2 with fail
 obtain ⟨w2, hq, ka, kb, b2⟩ := mk2 w0 [.string wP] [.slice (some ⟨w0.heap.size, 0, none⟩) 1 1] 9 91
 rw [← hq]
 clear hq
 generalize Value.agg _ = V0
 have H2 : WL w0 G cs (.slice (some ⟨w0.heap.size + 1, 0, none⟩) 1 1) [[wP]] w2 := by
  refine ⟨kz'.below b2, ⟨[.slice (some ⟨w0.heap.size, 0, none⟩) 1 1], own_cel kb (by omega) rfl (by decide), fun j l hj => ?_⟩, b2, hG⟩
  cases j with
  | zero => injection hj with hj; subst hj; exact ⟨_, rfl, own_cel ka (Nat.le_refl _) rfl (by decide)⟩
  | succ j => simp at hj
 clear ka kb kz'
 have c0 := C0.out _ H2.kz
 have HI := shut (fun w1 => itoa_any n1 h1 w1)
 have zz : ([[wP]]).length + 1 ≤ 1000000 := by decide
 go_upto_region 3 with (first | (go_at_call 96; refine (HI.out _).mono ?_; rintro e w3 ⟨rfl, b3⟩; have K3 := H2.below b3) | (refine wpList_ap9 rfl _ _ rfl (.slice (some ⟨w0.heap.size + 1, 0, none⟩) 1 1) w0.heap.size ([[wP]]) rfl (w3.alloc (.cells [.string wV, .string (dg n1)].toArray 9)) (.slice (some ⟨w3.heap.size, 0, none⟩) 2 2) [wV, dg n1] rfl (K3.ln.below (ba1 _)) (Nat.le_trans K3.bw.size (ba1 _).size) (w3.heap.size + 1) (by simp) rfl (own_cel (Cel.new _ _ _) K3.bw.size rfl (by decide)) zz ?_; intro v3 w4 l4 b4))
 have H3 := K3.app (ba1 _) l4 b4
 clear H2 K3 l4 b4 b3 c0 HI zz
 obtain ⟨L1, hL1⟩ : ∃ L, L = [[wP]] ++ [[wV, dg n1]] := ⟨_, rfl⟩
 rw [← hL1] at H3
 have zL1 : L1.length ≤ 2 := by rw [hL1]; exact Nat.le_refl 2
 have HL1 := shut hL1
 clear hL1
 have c0 := C0.out _ H3.kz
 go_upto_region 4 with fail
 clear c0
 go_loopw [3, 26] (fun v i wr => ∃ k : Nat, k ≤ n1 ∧ i = .int .i64 (k : Nat) ∧ WL w0 G cs v (L1 ++ lnP T (A1.take k)) wr) (fun _ i _ => n1 - (intOf i).toNat)
 case atStart => exact ⟨0, Nat.zero_le _, rfl, by simpa [lnP, lnS] using H3⟩
 case round =>
  clear H3
  obtain ⟨k, hk, rfl, HW⟩ := hrel
  by_cases hgo : k < n1
  ·have hgo' : (k : Int) < (n1 : Int) := by omega
   obtain ⟨q, hq⟩ : ∃ q, A1[k]? = some q := ⟨_, List.getElem?_eq_getElem (by rw [E1.out]; exact hgo)⟩
   obtain ⟨a, c, ea, -, hR⟩ := R1.out _ HW.bw
   obtain ⟨g, o, eg, -, hc⟩ := hR k _ (by rw [List.getElem?_map, hq]; rfl)
   replace ea := (Value.slice.inj ea).1
   rw [eg] at ea
   subst ea
   obtain ⟨tqx, tqy⟩ := T1.out q (List.mem_of_getElem? hq)
   have hup := shut (lnP_up T A1 k q hq L1)
   obtain ⟨⟨xn, xs, xd⟩, yn, ys, yd⟩ := q
   have qA : wr.rangeAt g (o + k * 6) (ql2 xn xs xd yn ys yd) := hc
   have hlen := lnP_len T A1 k
   clear hc hR eg hq
   go_upto_region 6 with (refine wpList_load_mid rfl 30 _ rfl g (o + k * 6) rfl (ql2 xn xs xd yn ys yd) _ qA Tryz.underlying30 rfl (by kernel_rfl) ?_)
   obtain ⟨w5, hq, kp, b5⟩ := mk1 wr (ql2 xn xs xd yn ys yd) 30
   rw [← hq]
   clear hq qA
   have K5 := HW.below b5
   have rX : w5.rangeAt wr.heap.size 0 (ql1 xn xs xd) := rg_cel kp 0 3
   have rY : w5.rangeAt wr.heap.size 3 (ql1 yn ys yd) := rg_cel kp 3 3
   have HTX : Hid (∀ q, q ∈ [((xn, xs, xd) : Q3), (yn, ys, yd)] → TX T q (w5.alloc (.cells (ql2 xn xs xd yn ys yd).toArray 26))) := fun q hq => by
    have hb := Below.after K5.bw (ba1 (.cells (ql2 xn xs xd yn ys yd).toArray 26))
    rcases List.mem_cons.1 hq with rfl | hq
    ·exact tqx.below hb
    ·rw [List.mem_singleton.1 hq]; exact tqy.below hb
   have hlen' : (L1 ++ lnP T (A1.take k)).length + 1 ≤ 1000000 := by rw [List.length_append]; omega
   clear kp b5 HW tqx tqy hlen
   generalize L1 ++ lnP T (A1.take k) = LL at *
   go_upto_region 7 with (first | (refine wpList_load_mid rfl 26 _ rfl wr.heap.size 0 rfl (ql1 xn xs xd) _ rX Tryz.underlying26 rfl (by kernel_rfl) ?_) | (refine wpList_load_mid rfl 26 _ rfl wr.heap.size 3 rfl (ql1 yn ys yd) _ rY Tryz.underlying26 rfl (by kernel_rfl) ?_) | (go_at_call 97; refine (texts_any T [(xn, xs, xd), (yn, ys, yd)] (Nat.le_of_ble_eq_true rfl) _ _ (row2 (Cel.new w5 _ 26)) HTX.out).mono ?_; rintro e w6 ⟨v6, rfl, o5, b6⟩; have K6 := (K5.below (ba1 _)).below b6; have o6 : w6.ownsRow _ 9 1 v6 2 ([T (xn, xs, xd), T (yn, ys, yd)].map Value.string) := o5; obtain ⟨a6, c6, rfl⟩ := own_val o6) | (refine wpList_ap9 rfl _ _ rfl u3 w0.heap.size LL rfl w6 (.slice a6 2 c6) [T (xn, xs, xd), T (yn, ys, yd)] rfl K6.ln K6.bw.size w6.heap.size rfl rfl (own_mono o6 (Nat.le_trans K5.bw.size (ba1 _).size)) hlen' ?_; intro v7 w7 l7 b7))
   have K7 := WL.app K6 (Below.refl _ _) l7 b7
   rw [hup.out] at K7
   clear K6 K5 l7 b7 o6 o5 b6 HTX rX rY hlen' hup
   go_wp2
   go_roundw
   case rel => exact ⟨k + 1, by omega, by go_num, K7⟩
   case measure => simp [intOf]; omega
  ·have hgo' : ¬ (k : Int) < (n1 : Int) := by omega
   have hkn : k = A1.length := by rw [E1.out]; omega
   rw [hkn, List.take_length] at HW
   clear hgo hk
   obtain ⟨L2, hL2⟩ : ∃ L, L = L1 ++ lnP T A1 := ⟨_, rfl⟩
   rw [← hL2] at HW
   have zL2 : L2.length ≤ 102 := by rw [hL2]; rw [List.length_append]; unfold lnP; rw [List.length_map, E1.out]; omega
   have HL2 := shut hL2
   clear hL2
   go_upto_region 8 with fail
   have c0 := C1.out _ HW.kz
   have HI := shut (fun w1 => itoa_any n2 h2 w1)
   have zz : (L2).length + 1 ≤ 1000000 := by omega
   go_upto_region 9 with (first | (go_at_call 96; refine (HI.out _).mono ?_; rintro e w3 ⟨rfl, b3⟩; have K3 := HW.below b3) | (refine wpList_ap9 rfl _ _ rfl u3 w0.heap.size (L2) rfl (w3.alloc (.cells [.string wS, .string (dg n2)].toArray 9)) (.slice (some ⟨w3.heap.size, 0, none⟩) 2 2) [wS, dg n2] rfl (K3.ln.below (ba1 _)) (Nat.le_trans K3.bw.size (ba1 _).size) (w3.heap.size + 1) (by simp) rfl (own_cel (Cel.new _ _ _) K3.bw.size rfl (by decide)) zz ?_; intro v3 w4 l4 b4))
   have H4 := K3.app (ba1 _) l4 b4
   clear HW K3 l4 b4 b3 c0 HI zz
   obtain ⟨L3, hL3⟩ : ∃ L, L = L2 ++ [[wS, dg n2]] := ⟨_, rfl⟩
   rw [← hL3] at H4
   have zL3 : L3.length ≤ 103 := by rw [hL3]; rw [List.length_append]; exact Nat.add_le_add_right zL2 1
   have HL3 := shut hL3
   clear hL3
   have c0 := C1.out _ H4.kz
   go_upto_region 10 with fail
   clear c0
   go_loopw [3, 51] (fun v i wr => ∃ k : Nat, k ≤ n2 ∧ i = .int .i64 (k : Nat) ∧ WL w0 G cs v (L3 ++ lnS (A2.take k)) wr) (fun _ i _ => n2 - (intOf i).toNat)
   case atStart => exact ⟨0, Nat.zero_le _, rfl, by simpa [lnP, lnS] using H4⟩
   case round =>
    clear H4
    obtain ⟨k, hk, rfl, HW⟩ := hrel
    by_cases hgo : k < n2
    ·have hgo' : (k : Int) < (n2 : Int) := by omega
     obtain ⟨q, hq⟩ : ∃ q, A2[k]? = some q := ⟨_, List.getElem?_eq_getElem (by rw [E2.out]; exact hgo)⟩
     obtain ⟨a, c, ea, -, hR⟩ := R2.out _ HW.bw
     obtain ⟨g, o, eg, -, hc⟩ := hR k _ (by rw [List.getElem?_map, hq]; rfl)
     replace ea := (Value.slice.inj ea).1
     rw [eg] at ea
     subst ea
     obtain ⟨sa, sb⟩ := S2.out q (List.mem_of_getElem? hq)
     have hup := shut (lnS_up A2 k q hq L3)
     obtain ⟨a, b, f⟩ := q
     have qA : wr.rangeAt g (o + k * 3) [.int .i64 (a : Nat), .int .i64 (b : Nat), .bool f] := hc
     have hlen := lnS_len A2 k
     clear hc hR eg hq
     go_upto_region 12 with (refine wpList_load_mid rfl 103 _ rfl g (o + k * 3) rfl [.int .i64 (a : Nat), .int .i64 (b : Nat), .bool f] _ qA Tryz.underlying103 rfl (by kernel_rfl) ?_)
     obtain ⟨w5, hq, kp, b5⟩ := mk1 wr [.int .i64 (a : Nat), .int .i64 (b : Nat), .bool f] 103
     rw [← hq]
     clear hq qA
     have K5 := (HW.below b5).below (bdrew w5)
     have kp' := kp.below (bdrew w5)
     have hlen' : (L3 ++ lnS (A2.take k)).length + 1 ≤ 1000000 := by rw [List.length_append]; omega
     have I1 := shut (fun w1 => itoa_any a sa w1)
     have I2 := shut (fun w1 => itoa_any b sb w1)
     have I3 := shut (fun w1 => kind_any a b f w1)
     clear b5 HW hlen kp
     generalize L3 ++ lnS (A2.take k) = LL at *
     obtain ⟨gS, hgS⟩ : ∃ g, g = wr.heap.size := ⟨_, rfl⟩
     rw [← hgS] at kp' ⊢
     clear hgS
     refine wp_region_held_drew (S := fun w' => w'.cell? ⟨gS, 0, none⟩ = some (.int .i64 (a : Nat)) ∧ w'.cell? ⟨gS, 1, none⟩ = some (.int .i64 (b : Nat)) ∧ w'.rangeAt gS 0 [.int .i64 (a : Nat), .int .i64 (b : Nat), .bool f]) (by kernel_rfl) ⟨kp'.cell 0, kp'.cell 1, rg_cel kp' 0 3⟩ (fun hS => ?_)
     generalize w5.drew = wd at *
     refine WA.start (n := 13) (by kernel_rfl) ?_
     refine WA.tp 0 rfl ?_
     refine WA.tp 1 rfl ?_
     refine WA.tp 2 rfl ?_
     refine WA.tp 4 rfl ?_
     refine WA.tp 5 rfl ?_
     refine WA.tp 7 rfl ?_ (hy := yieldsIf_load_mid (by rfl) 103 _ rfl gS 0 rfl [.int .i64 (a : Nat), .int .i64 (b : Nat), .bool f] _ (fun w' h => h.2.2) Tryz.underlying103 rfl (by kernel_rfl))
     refine WA.cal 3 rfl (fun K hK => ?_)
     simp only [List.getElem_toArray, List.getElem_cons_succ, List.getElem_cons_zero]
     go_simp
     go_fit (I1.out _)
     rintro e wa ⟨rfl, bq⟩
     have Kwa := K5.below bq
     replace kp' := kp'.below bq
     try go_wp2_with fail
     refine hK.out _ _ ⟨cell_below hS.1 bq, cell_below hS.2.1 bq, fun i v hv => cell_below (hS.2.2 i v hv) bq⟩ (fun hS => ?_)
     clear hK K bq K5
     refine WA.cal 6 rfl (fun K hK => ?_)
     simp only [List.getElem_toArray, List.getElem_cons_succ, List.getElem_cons_zero]
     go_simp
     go_fit (I2.out _)
     rintro e wb ⟨rfl, bq⟩
     have Kwb := Kwa.below bq
     replace kp' := kp'.below bq
     try go_wp2_with fail
     refine hK.out _ _ ⟨cell_below hS.1 bq, cell_below hS.2.1 bq, fun i v hv => cell_below (hS.2.2 i v hv) bq⟩ (fun hS => ?_)
     clear hK K bq Kwa
     refine WA.cal 8 rfl (fun K hK => ?_)
     simp only [List.getElem_toArray, List.getElem_cons_succ, List.getElem_cons_zero]
     go_simp
     go_fit (I3.out _)
     rintro e wc ⟨rfl, bq⟩
     have Kwc := Kwb.below bq
     replace kp' := kp'.below bq
     try go_wp2_with fail
     refine hK.out _ _ ⟨cell_below hS.1 bq, cell_below hS.2.1 bq, fun i v hv => cell_below (hS.2.2 i v hv) bq⟩ (fun hS => ?_)
     clear hK K bq Kwb
     have kq := kp'.below (ba1 (.cells [.string (dg a), .string (dg b), .string (kd8 f)].toArray 9))
     have kr := kq.below (ba1 (.cells [.slice (some ⟨wc.heap.size, 0, none⟩) 3 3].toArray 91))
     refine WA.cal 9 rfl (fun K hK => ?_)
     rw [if_pos (by rfl)]
     unfold Oper.wp execOp
     go_simp
     refine hK.out _ _ ⟨kq.cell 0, kq.cell 1, rg_cel kq 0 3⟩ (fun hS => ?_)
     clear hK K
     refine WA.cal 10 rfl (fun K hK => ?_)
     rw [if_pos (by rfl)]
     unfold Oper.wp execOp
     go_simp
     refine hK.out _ _ ⟨kr.cell 0, kr.cell 1, rg_cel kr 0 3⟩ (fun hS => ?_)
     clear hK K
     refine WA.cal 11 rfl (fun K hK => ?_)
     rw [if_pos (by rfl)]
     refine wp_ap9 _ _ rfl u3 w0.heap.size LL rfl (wc.alloc (.cells [.string (dg a), .string (dg b), .string (kd8 f)].toArray 9)) (.slice (some ⟨wc.heap.size, 0, none⟩) 3 3) [dg a, dg b, kd8 f] rfl (Kwc.ln.below (ba1 _)) (Nat.le_trans Kwc.bw.size (ba1 _).size) (wc.heap.size + 1) (by simp) rfl (own_cel (Cel.new _ _ _) Kwc.bw.size rfl (by decide)) hlen' ?_
     intro v7 w7 l7 b7 q7
     have ks := q7 _ _ _ (by decide) kq
     refine hK.out _ _ ⟨ks.cell 0, ks.cell 1, rg_cel ks 0 3⟩ (fun hS => ?_)
     clear hK K q7
     refine WA.tp 12 rfl ?_
     refine WA.done (by kernel_rfl) ?_
     have K7 := Kwc.app (ba1 _) l7 b7
     rw [hup.out] at K7
     clear hS ks kr kq kp' Kwc l7 b7 I1 I2 I3 hlen' hup sa sb
     go_wp2
     go_roundw
     case rel => exact ⟨k + 1, by omega, by go_num, K7⟩
     case measure => simp [intOf]; omega
    ·have hgo' : ¬ (k : Int) < (n2 : Int) := by omega
     have hkn : k = A2.length := by rw [E2.out]; omega
     rw [hkn, List.take_length] at HW
     clear hgo hk
     obtain ⟨L4, hL4⟩ : ∃ L, L = L3 ++ lnS A2 := ⟨_, rfl⟩
     rw [← hL4] at HW
     have zL4 : L4.length ≤ 203 := by rw [hL4]; rw [List.length_append]; unfold lnS; rw [List.length_map, E2.out]; omega
     have HL4 := shut hL4
     clear hL4
     go_upto_region 14 with fail
     have c0 := C2.out _ HW.kz
     have HI := shut (fun w1 => itoa_any n3 h3 w1)
     have zz : (L4).length + 1 ≤ 1000000 := by omega
     go_upto_region 15 with (first | (go_at_call 96; refine (HI.out _).mono ?_; rintro e w3 ⟨rfl, b3⟩; have K3 := HW.below b3) | (refine wpList_ap9 rfl _ _ rfl u3 w0.heap.size (L4) rfl (w3.alloc (.cells [.string wH, .string (dg n3)].toArray 9)) (.slice (some ⟨w3.heap.size, 0, none⟩) 2 2) [wH, dg n3] rfl (K3.ln.below (ba1 _)) (Nat.le_trans K3.bw.size (ba1 _).size) (w3.heap.size + 1) (by simp) rfl (own_cel (Cel.new _ _ _) K3.bw.size rfl (by decide)) zz ?_; intro v3 w4 l4 b4))
     have H5 := K3.app (ba1 _) l4 b4
     clear HW K3 l4 b4 b3 c0 HI zz
     obtain ⟨L5, hL5⟩ : ∃ L, L = L4 ++ [[wH, dg n3]] := ⟨_, rfl⟩
     rw [← hL5] at H5
     have zL5 : L5.length ≤ 204 := by rw [hL5]; rw [List.length_append]; exact Nat.add_le_add_right zL4 1
     have HL5 := shut hL5
     clear hL5
     have c0 := C2.out _ H5.kz
     go_upto_region 16 with fail
     clear c0
     go_loopw [3, 79] (fun v i wr => ∃ k : Nat, k ≤ n3 ∧ i = .int .i64 (k : Nat) ∧ WL w0 G cs v (L5 ++ lnP T (A3.take k)) wr) (fun _ i _ => n3 - (intOf i).toNat)
     case atStart => exact ⟨0, Nat.zero_le _, rfl, by simpa [lnP, lnS] using H5⟩
     case round =>
      clear H5
      obtain ⟨k, hk, rfl, HW⟩ := hrel
      by_cases hgo : k < n3
      ·have hgo' : (k : Int) < (n3 : Int) := by omega
       obtain ⟨q, hq⟩ : ∃ q, A3[k]? = some q := ⟨_, List.getElem?_eq_getElem (by rw [E3.out]; exact hgo)⟩
       obtain ⟨a, c, ea, -, hR⟩ := R3.out _ HW.bw
       obtain ⟨g, o, eg, -, hc⟩ := hR k _ (by rw [List.getElem?_map, hq]; rfl)
       replace ea := (Value.slice.inj ea).1
       rw [eg] at ea
       subst ea
       obtain ⟨tqx, tqy⟩ := T3.out q (List.mem_of_getElem? hq)
       have hup := shut (lnP_up T A3 k q hq L5)
       obtain ⟨⟨xn, xs, xd⟩, yn, ys, yd⟩ := q
       have qA : wr.rangeAt g (o + k * 6) (ql2 xn xs xd yn ys yd) := hc
       have hlen := lnP_len T A3 k
       clear hc hR eg hq
       go_upto_region 18 with (refine wpList_load_mid rfl 30 _ rfl g (o + k * 6) rfl (ql2 xn xs xd yn ys yd) _ qA Tryz.underlying30 rfl (by kernel_rfl) ?_)
       obtain ⟨w5, hq, kp, b5⟩ := mk1 wr (ql2 xn xs xd yn ys yd) 30
       rw [← hq]
       clear hq qA
       have K5 := HW.below b5
       have rX : w5.rangeAt wr.heap.size 0 (ql1 xn xs xd) := rg_cel kp 0 3
       have rY : w5.rangeAt wr.heap.size 3 (ql1 yn ys yd) := rg_cel kp 3 3
       have HTX : Hid (∀ q, q ∈ [((xn, xs, xd) : Q3), (yn, ys, yd)] → TX T q (w5.alloc (.cells (ql2 xn xs xd yn ys yd).toArray 26))) := fun q hq => by
        have hb := Below.after K5.bw (ba1 (.cells (ql2 xn xs xd yn ys yd).toArray 26))
        rcases List.mem_cons.1 hq with rfl | hq
        ·exact tqx.below hb
        ·rw [List.mem_singleton.1 hq]; exact tqy.below hb
       have hlen' : (L5 ++ lnP T (A3.take k)).length + 1 ≤ 1000000 := by rw [List.length_append]; omega
       clear kp b5 HW tqx tqy hlen
       generalize L5 ++ lnP T (A3.take k) = LL at *
       go_upto_region 19 with (first | (refine wpList_load_mid rfl 26 _ rfl wr.heap.size 0 rfl (ql1 xn xs xd) _ rX Tryz.underlying26 rfl (by kernel_rfl) ?_) | (refine wpList_load_mid rfl 26 _ rfl wr.heap.size 3 rfl (ql1 yn ys yd) _ rY Tryz.underlying26 rfl (by kernel_rfl) ?_) | (go_at_call 97; refine (texts_any T [(xn, xs, xd), (yn, ys, yd)] (Nat.le_of_ble_eq_true rfl) _ _ (row2 (Cel.new w5 _ 26)) HTX.out).mono ?_; rintro e w6 ⟨v6, rfl, o5, b6⟩; have K6 := (K5.below (ba1 _)).below b6; have o6 : w6.ownsRow _ 9 1 v6 2 ([T (xn, xs, xd), T (yn, ys, yd)].map Value.string) := o5; obtain ⟨a6, c6, rfl⟩ := own_val o6) | (refine wpList_ap9 rfl _ _ rfl u3 w0.heap.size LL rfl w6 (.slice a6 2 c6) [T (xn, xs, xd), T (yn, ys, yd)] rfl K6.ln K6.bw.size w6.heap.size rfl rfl (own_mono o6 (Nat.le_trans K5.bw.size (ba1 _).size)) hlen' ?_; intro v7 w7 l7 b7))
       have K7 := WL.app K6 (Below.refl _ _) l7 b7
       rw [hup.out] at K7
       clear K6 K5 l7 b7 o6 o5 b6 HTX rX rY hlen' hup
       go_wp2
       go_roundw
       case rel => exact ⟨k + 1, by omega, by go_num, K7⟩
       case measure => simp [intOf]; omega
      ·have hgo' : ¬ (k : Int) < (n3 : Int) := by omega
       have hkn : k = A3.length := by rw [E3.out]; omega
       rw [hkn, List.take_length] at HW
       clear hgo hk
       obtain ⟨L6, hL6⟩ : ∃ L, L = L5 ++ lnP T A3 := ⟨_, rfl⟩
       rw [← hL6] at HW
       have zL6 : L6.length ≤ 304 := by rw [hL6]; rw [List.length_append]; unfold lnP; rw [List.length_map, E3.out]; omega
       have HL6 := shut hL6
       clear hL6
       go_upto_region 20 with fail
       have K5 := HW.below (bdrew wr)
       have hlen := zL6
       refine wp_region_held_drew (S := SB w0) (by kernel_rfl) K5.bw (fun hS => ?_)
       clear HW
       generalize wr.drew = wd at *
       refine WA.start (n := 17) (by kernel_rfl) ?_
       refine WA.tp 0 rfl ?_
       refine WA.tp 2 rfl ?_
       refine WA.tp 3 rfl ?_
       refine WA.tp 8 rfl ?_
       refine WA.tp 9 rfl ?_
       have HF := shut (fun w1 (b : Below wd.heap.size wd w1) => texts_any T [x 0, x 1, x 2, x 3, x 4, x 5] (Nat.le_of_ble_eq_true rfl) _ w1 (CF.out _ (K5.below b).kz) (fun q hq => tx_six (fun i => (TX'.out i).below (K5.below b).bw) q hq))
       refine WA.genr3 (W := w0) (i1 := 1) (s1 := 94) (i2 := 7) (s2 := 100) (i3 := 13) (s3 := 106) undef undef undef [.string wF] [.string wG] [.string wE] 9 ?_
       refine WA.rows3 4 1 7 13 false false false rfl rfl rfl rfl hS ?_ (hR := by intro b1 b2 b3; cases b1 <;> cases b2 <;> cases b3 <;> decide +kernel)
       intro b1 b2 b3 x1 x2 x3 w6 f1 f2 f3 q1 q2 q3 hS6 bn K hK
       clear q1 q2 q3
       simp only [ly]
       go_simp
       go_fit (HF.out _ bn)
       rintro e w7 ⟨v7, rfl, o7, b7⟩
       have o8 : w7.ownsRow _ 9 1 v7 6 (([x 0, x 1, x 2, x 3, x 4, x 5].map T).map Value.string) := o7
       obtain ⟨a7, c7, rfl⟩ := own_val o8
       try go_wp2_with fail
       refine hK.out _ _ (Below.after hS6 b7) (fun hS => ?_)
       clear hK K
       replace K5 := (K5.below bn).below b7
       replace o8 := own_mono o8 hS6.size
       replace f1 := fun e => (f1 e).below b7
       replace f2 := fun e => (f2 e).below b7
       replace f3 := fun e => (f3 e).below b7
       clear o7 b7 bn HF hS6
       revert b1 b2 b3 x1 x2 x3 f1 f2 f3
       refine WA.rows3 5 1 7 13 true false false rfl rfl rfl rfl hS ?_ (hR := by intro b1 b2 b3; cases b1 <;> cases b2 <;> cases b3 <;> decide +kernel)
       intro b1 b2 b3 x1 x2 x3 w8 f1 f2 f3 r1 q2 q3 hS8 bn K hK
       clear q2 q3
       have r2 := r1 rfl
       subst r2
       obtain ⟨g1, rfl, hg1, k1⟩ := f1 rfl
       simp only [ly]
       rw [if_pos (by rfl)]
       unfold Oper.wp execOp
       go_simp
       refine hK.out _ _ (ba2 hS8) (fun hS => ?_)
       clear hK K
       obtain ⟨w9, hq, k9, b9⟩ := mk1 w8 [.slice (some ⟨g1, 0, none⟩) 1 1, .slice a7 6 c7] 91
       rw [← hq] at hS ⊢
       clear hq
       replace K5 := (K5.below bn).below b9
       replace o8 := own_below (own_below o8 bn) b9
       replace k1 := k1.below b9
       replace f2 := fun e => (f2 e).below b9
       replace f3 := fun e => (f3 e).below b9
       have HC := shut (fun w1 (b : Below w9.heap.size w9 w1) => concat_str _ _ _ wF (T (x 0)) [] [T (x 1), T (x 2), T (x 3), T (x 4), T (x 5)] w1 (k9.below b) ((rowS_pt ⟨g1, rfl, k1⟩).below b) ((rowS_own o8).below b) (Nat.le_of_ble_eq_true rfl))
       clear bn f1 r1 b9 hS8
       revert b2 b3 x2 x3 f2 f3
       refine WA.rows2 6 7 13 false false rfl rfl rfl hS ?_ (hR := by intro b2 b3; cases b2 <;> cases b3 <;> decide +kernel)
       intro b2 b3 x2 x3 w10 f2 f3 q2 q3 hS10 bn K hK
       clear q2 q3
       simp only [ly]
       go_simp
       go_fit (HC.out _ bn)
       rintro e w11 ⟨v11, rfl, o11, b11⟩
       have oF : w11.ownsRow _ 9 1 v11 7 (([wF] ++ [x 0, x 1, x 2, x 3, x 4, x 5].map T).map Value.string) := o11
       obtain ⟨aF, cF, rfl⟩ := own_val oF
       try go_wp2_with fail
       refine hK.out _ _ (Below.after hS10 b11) (fun hS => ?_)
       clear hK K
       replace K5 := (K5.below bn).below b11
       replace oF := own_mono oF hS10.size
       replace f2 := fun e => (f2 e).below b11
       replace f3 := fun e => (f3 e).below b11
       clear o11 b11 bn HC hS10 k9 o8 k1 hg1
       have HG := shut (fun w1 (b : Below w11.heap.size w11 w1) => texts_any T [y 0, y 1, y 2, y 3, y 4, y 5] (Nat.le_of_ble_eq_true rfl) _ w1 (CG.out _ (K5.below b).kz) (fun q hq => tx_six (fun i => (TY.out i).below (K5.below b).bw) q hq))
       revert b2 b3 x2 x3 f2 f3
       refine WA.rows2 10 7 13 false false rfl rfl rfl hS ?_ (hR := by intro b2 b3; cases b2 <;> cases b3 <;> decide +kernel)
       intro b2 b3 x2 x3 w12 f2 f3 q2 q3 hS12 bn K hK
       clear q2 q3
       simp only [ly]
       go_simp
       go_fit (HG.out _ bn)
       rintro e w13 ⟨v13, rfl, o13, b13⟩
       have oY : w13.ownsRow _ 9 1 v13 6 (([y 0, y 1, y 2, y 3, y 4, y 5].map T).map Value.string) := o13
       obtain ⟨aY, cY, rfl⟩ := own_val oY
       try go_wp2_with fail
       refine hK.out _ _ (Below.after hS12 b13) (fun hS => ?_)
       clear hK K
       replace K5 := (K5.below bn).below b13
       replace oF := own_below (own_below oF bn) b13
       replace oY := own_mono oY hS12.size
       replace f2 := fun e => (f2 e).below b13
       replace f3 := fun e => (f3 e).below b13
       clear o13 b13 bn HG hS12
       revert b2 b3 x2 x3 f2 f3
       refine WA.rows2 11 7 13 true false rfl rfl rfl hS ?_ (hR := by intro b2 b3; cases b2 <;> cases b3 <;> decide +kernel)
       intro b2 b3 x2 x3 w14 f2 f3 r2 q3 hS14 bn K hK
       clear q3
       have r3 := r2 rfl
       subst r3
       obtain ⟨g2, rfl, hg2, k2⟩ := f2 rfl
       simp only [ly]
       rw [if_pos (by rfl)]
       unfold Oper.wp execOp
       go_simp
       refine hK.out _ _ (ba2 hS14) (fun hS => ?_)
       clear hK K
       obtain ⟨w15, hq, k15, b15⟩ := mk1 w14 [.slice (some ⟨g2, 0, none⟩) 1 1, .slice aY 6 cY] 91
       rw [← hq] at hS ⊢
       clear hq
       replace K5 := (K5.below bn).below b15
       replace oF := own_below (own_below oF bn) b15
       replace oY := own_below (own_below oY bn) b15
       replace k2 := k2.below b15
       replace f3 := fun e => (f3 e).below b15
       have HC := shut (fun w1 (b : Below w15.heap.size w15 w1) => concat_str _ _ _ wG (T (y 0)) [] [T (y 1), T (y 2), T (y 3), T (y 4), T (y 5)] w1 (k15.below b) ((rowS_pt ⟨g2, rfl, k2⟩).below b) ((rowS_own oY).below b) (Nat.le_of_ble_eq_true rfl))
       clear bn f2 r2 b15 hS14
       revert b3 x3 f3
       refine WA.rows1 12 13 false rfl rfl hS ?_ (hR := by intro b3; cases b3 <;> decide +kernel)
       intro b3 x3 w16 f3 q3 hS16 bn K hK
       clear q3
       simp only [ly]
       go_simp
       go_fit (HC.out _ bn)
       rintro e w17 ⟨v17, rfl, o17, b17⟩
       have oG : w17.ownsRow _ 9 1 v17 7 (([wG] ++ [y 0, y 1, y 2, y 3, y 4, y 5].map T).map Value.string) := o17
       obtain ⟨aG, cG, rfl⟩ := own_val oG
       try go_wp2_with fail
       refine hK.out _ _ (Below.after hS16 b17) (fun hS => ?_)
       clear hK K
       replace K5 := (K5.below bn).below b17
       replace oF := own_below (own_below oF bn) b17
       replace oG := own_mono oG hS16.size
       replace f3 := fun e => (f3 e).below b17
       clear o17 b17 bn HC hS16 k15 oY k2 hg2
       revert b3 x3 f3
       refine WA.rows1 14 13 true rfl rfl hS ?_ (hR := by intro b3; cases b3 <;> decide +kernel)
       intro b3 x3 w18 f3 r3 hS18 bn K hK
       have r4 := r3 rfl
       subst r4
       obtain ⟨g3, rfl, hg3, k3⟩ := f3 rfl
       simp only [ly]
       rw [if_pos (by rfl)]
       unfold Oper.wp execOp
       go_simp
       refine hK.out _ _ (ba2 hS18) (fun hS => ?_)
       clear hK K
       obtain ⟨w19, hq, k19, b19⟩ := mk1 w18 [.slice aF 7 cF, .slice aG 7 cG, .slice (some ⟨g3, 0, none⟩) 1 1] 91
       rw [← hq] at hS ⊢
       clear hq
       replace K5 := (K5.below bn).below b19
       replace oF := own_below (own_below oF bn) b19
       replace oG := own_below (own_below oG bn) b19
       have oE : w19.ownsRow w0.heap.size 9 1 (.slice (some ⟨g3, 0, none⟩) 1 1) 1 ([wE].map Value.string) := own_cel (k3.below b19) hg3 rfl (by decide)
       clear bn f3 r3 b19 hS18 k3
       refine WA.cal 15 rfl (fun K hK => ?_)
       rw [if_pos (by rfl)]
       refine wp_apL _ _ rfl u3 w0.heap.size L6 rfl K5.ln K5.bw.size w18.heap.size 3 3 rfl [.slice aF 7 cF, .slice aG 7 cG, .slice (some ⟨g3, 0, none⟩) 1 1] [[wF] ++ [x 0, x 1, x 2, x 3, x 4, x 5].map T, [wG] ++ [y 0, y 1, y 2, y 3, y 4, y 5].map T, [wE]] k19 rfl rfl (fun j l hj => ?_) (fun u hu => ?_) (by omega) ?_
       ·match j, hj with
        | 0, hj => injection hj with hj; subst hj; exact ⟨_, rfl, oF⟩
        | 1, hj => injection hj with hj; subst hj; exact ⟨_, rfl, oG⟩
        | 2, hj => injection hj with hj; subst hj; exact ⟨_, rfl, oE⟩
       ·rcases List.mem_cons.1 hu with rfl | hu
        ·rfl
        rcases List.mem_cons.1 hu with rfl | hu
        ·rfl
        rw [List.mem_singleton.1 hu]; rfl
       intro v20 w20 l20 b20 q20
       refine hK.out _ _ (K5.bw.trans b20) (fun hS => ?_)
       clear hK K q20
       refine WA.tp 16 rfl ?_
       refine WA.done (by kernel_rfl) ?_
       have K20 := K5.app (Below.refl _ _) l20 b20
       clear hS K5 l20 b20 k19 oF oG oE hg3 hlen
       obtain ⟨LA, hLA⟩ : ∃ L, L = L6 ++ [[wF] ++ [x 0, x 1, x 2, x 3, x 4, x 5].map T, [wG] ++ [y 0, y 1, y 2, y 3, y 4, y 5].map T, [wE]] := ⟨_, rfl⟩
       rw [← hLA] at K20
       have HLA : Hid (LA = lines8 T ⟨A1, A2, A3, [x 0, x 1, x 2, x 3, x 4, x 5], [y 0, y 1, y 2, y 3, y 4, y 5]⟩) := by
        show LA = _
        rw [hLA, HL6.out, HL5.out, HL4.out, HL3.out, HL2.out, HL1.out]
        unfold lines8
        rw [E1.out, E2.out, E3.out]
       have hok := shut (show LnOk LA by rw [HLA.out]; exact lines_ok ZT.out A1 A3 A2 _ _ (by rw [E1.out]; exact h1) (by rw [E2.out]; exact h2) (by rw [E3.out]; exact h3) (by simp) (by simp) S2.out)
       obtain ⟨nL, hnL⟩ : ∃ n, n = LA.length := ⟨_, rfl⟩
       have znL : nL ≤ 400 := by rw [hnL, hLA, List.length_append]; show L6.length + 3 ≤ 400; omega
       obtain ⟨vs, oL, hL⟩ := K20.ln
       rw [← hnL] at oL
       obtain ⟨aL, cL, rfl⟩ := own_val oL
       have B20 := K20.bw
       have HRd := shut (fun j l hl => line_at oL hL j l hl)
       have HnL := shut hnL
       clear K20 oL hL hLA hnL HL1 HL2 HL3 HL4 HL5 HL6 zL1 zL2 zL3 zL4 zL5 zL6 R1 R2 R3 T1 T3 TX' TY S2 ZT C0 C1 C2 CF CG E1 E2 E3
       go_upto_region 22 with fail
       obtain ⟨w21, hq, kb, b21⟩ := mk1 w20 [.pointer none, .slice none 0 0] 158
       rw [← hq]
       clear hq
       have A21 : Lib.IsBuilder 158 5 w20.heap.size w20.heap.size (Lib.byteCells []) w21 := Or.inl ⟨Nat.le_refl _, .slice none 0 0, kb, World.ownsRow_nil _ _ _ _, by intro h; cases h⟩
       go_upto_region 23 with fail
       go_loopw [111] (fun i wr => ∃ (k : Nat) (Lb : List UInt8), k ≤ nL ∧ i = .int .i64 (k : Nat) ∧ Lib.IsBuilder 158 5 w20.heap.size w20.heap.size (Lib.byteCells Lb) wr ∧ Lb.length ≤ 20000 * k ∧ Below w20.heap.size w20 wr ∧ Hid (Lb = wtL (LA.take k))) (fun i _ => nL - (intOf i).toNat)
       case atStart => exact ⟨0, [], Nat.zero_le _, rfl, A21, Nat.le_refl _, b21, rfl⟩
       case round =>
        clear A21 kb b21
        obtain ⟨k, Lb, hk, rfl, A, hLb, bw, HB⟩ := hrel
        by_cases hgo : k < nL
        ·have hgo' : (k : Int) < (nL : Int) := by omega
         obtain ⟨l, hl⟩ : ∃ l, LA[k]? = some l := ⟨_, List.getElem?_eq_getElem (by rw [← HnL.out]; exact hgo)⟩
         obtain ⟨g, o, au, cu, rfl, hc, hr⟩ := HRd.out k l hl
         obtain ⟨ok1, ok2, ok3⟩ := hok.out l (List.mem_of_getElem? hl)
         have c1 : wr.cell? ⟨g, o + k, none⟩ = some (.slice au l.length cu) := cell_below hc bw
         have HJ := shut (join_any l (.slice au l.length cu) wr (hr.below bw) ok1 ok2 ok3)
         have hjl := jnL_len l ok3
         have hjl' : (jnL l).length ≤ 10010 := Nat.le_trans hjl (Nat.mul_le_mul_right 1001 ok2)
         have hup := shut (wtL_up LA k l hl)
         have hsz := bw.size
         clear hc hr ok1 ok2 ok3 hjl hl
         go_upto_region 26 with (first | (go_at_call 101; refine HJ.out.mono ?_; rintro e w6 ⟨rfl, b6⟩; have A6 := isb_below A b6) | (go_at_call 100; refine (write_line w20.heap.size Lb (jnL l) w6 A6 (by omega) (Nat.le_trans hsz b6.size)).mono ?_; rintro e w7 ⟨nn, rfl, A7, b7⟩))
         have B7 := (bw.trans (b6.mono hsz)).trans b7
         have e7 : Lb ++ (jnL l ++ [10]) = wtL (LA.take (k + 1)) := by rw [HB.out]; exact hup.out
         have E7 := shut e7
         have l7 : (Lb ++ (jnL l ++ [10])).length ≤ 20000 * (k + 1) := by rw [List.length_append, List.length_append, List.length_cons, List.length_nil]; omega
         clear A A6 b6 b7 bw c1 HJ hup e7 HB hLb hjl' hsz
         go_wp2
         go_roundw
         case rel => exact ⟨k + 1, Lb ++ (jnL l ++ [10]), by omega, by go_num, A7, l7, B7, E7.out⟩
         case measure => simp [intOf]; omega
        ·have hgo' : ¬ (k : Int) < (nL : Int) := by omega
         have e8 : Lb = wtL (lines8 T ⟨A1, A2, A3, [x 0, x 1, x 2, x 3, x 4, x 5], [y 0, y 1, y 2, y 3, y 4, y 5]⟩) := by rw [HB.out, show k = LA.length by rw [← HnL.out]; omega, List.take_length, HLA.out]
         have HS := shut (String_any w20.heap.size w20.heap.size Lb wr A bw.size)
         rw [e8] at HS
         have hf : Below w.heap.size w w20 := Below.after b0 B20
         clear A HB hLb HRd hok e8
         go_wp2_with (go_at_call 102; refine HS.out.mono ?_; rintro e w9 ⟨rfl, b9⟩)
         go_ret
         exact ⟨rfl, Below.after hf (bw.trans b9)⟩
def TL (R : Nat) (w : World) (v : Value) (l : List ByteArray) : Prop :=
 (l = [] ∧ ∃ a c, v = .slice a 0 c) ∨ ∃ (A o c : Nat), v = .slice (some ⟨A, o, none⟩) l.length c ∧ l.length ≤ c ∧ A < R ∧ (∀ j, j < l.length → w.cell? ⟨A, o + j, none⟩ = some (.string (nt l j))) ∧ l.length ≤ 100000
def RfR (w : World) (R : Nat) (s : RS) : Prop := ∃ v, Cel w R [v, .bool s.2] 94 ∧ TL R w v s.1 ∧ ∀ t, t ∈ s.1 → t.size ≤ 100000
def QC (R f : Nat) (xs : Array Value) (w : World) (st : RS) (v : Value) (st' : RS) : Prop :=
 R < w.heap.size → RfR w R st → Calls Tryz.prog f xs w fun e w' => e = .returned v ∧ RfR w' R st' ∧ Grew R w w'
end Go.Proofs.YtnplifkgeeicjaaGreatDoor
