/-
  two plans held against each other.
  plans held against each other, and read, once more.
  package pslg's Print.
-/
import Derived.Test.YtnplifkgeeicjaaGreatDoorU46
set_option maxRecDepth 20000
set_option maxHeartbeats 8000000
namespace Go.Proofs.YtnplifkgeeicjaaGreatDoor
open Go.RowKit
theorem wpList_load_midG {ops : Array Oper} {rest : List Oper} {op : Oper} {a : Act} {w : World} {Q : Exit → Act → World → Prop} (hgw : Region.wanted op (yielded ops a.tmps) = true) (ty : TypeId) (x : Operand) (ho : op.op = .load ty x)
  (b o : Nat) (hx : a.eval x = .pointer (some ⟨b, o, none⟩)) (cs : List Value) (d : TypeDesc) (hc : w.rangeAt b o cs)
  (hu : Tryz.prog.underlying ty = some d) (hd : d.isRow = true) (hi : (Tryz.prog.info? ty).map (·.size) = some cs.length)
  (h : wpList Tryz.prog ops Q rest (a.put op.dst (.agg cs.toArray)) w) : wpList Tryz.prog ops Q (op :: rest) a w :=
 wpList_step fun _ hK => by rw [if_pos hgw]; exact wp_load_mid ty x ho b o hx cs d hc hu hd hi (hK _ _ h)
theorem eqPoly (x : Nat → Q3) (w1 : World) : (Op.equalIn 10000 28 (.agg #[.bool (x 0).1, .string (x 0).2.1, .string (x 0).2.2, .bool (x 1).1, .string (x 1).2.1, .string (x 1).2.2, .bool (x 2).1, .string (x 2).2.1, .string (x 2).2.2, .bool (x 3).1, .string (x 3).2.1, .string (x 3).2.2, .bool (x 4).1, .string (x 4).2.1, .string (x 4).2.2, .bool (x 5).1, .string (x 5).2.1, .string (x 5).2.2]) (.agg #[.bool (x 0).1, .string (x 0).2.1, .string (x 0).2.2, .bool (x 1).1, .string (x 1).2.1, .string (x 1).2.2, .bool (x 2).1, .string (x 2).2.1, .string (x 2).2.2, .bool (x 3).1, .string (x 3).2.1, .string (x 3).2.2, .bool (x 4).1, .string (x 4).2.1, .string (x 4).2.2, .bool (x 5).1, .string (x 5).2.1, .string (x 5).2.2])).run Tryz.prog w1 = .ok true w1 := by
 have hm : (Tryz.prog.info? 26).isSome = true := by kernel_rfl
 obtain ⟨i, hi⟩ := Option.isSome_iff_exists.1 hm
 have hc : Tryz.prog.cellsOf 26 = 3 := by kernel_rfl
 rw [show (10000 : Nat) = 9999 + 1 from rfl, run_equalIn_array w1 9999 _ _ Tryz.underlying28 hi, hc, show List.range 6 = [0, 1, 2, 3, 4, 5] from rfl]
 clear hm hi hc
 simp only [Op.eqItems]
 go_simp
theorem psame_any (A1 A3 : List (Q3 × Q3)) (A2 : List (Nat × Nat × Bool)) (a1 a2 a3 b1 b2 b3 : Option Addr) (n1 n2 n3 m1 m2 m3 k1 k2 k3 : Nat) (x y : Nat → Q3) (w : World) (h1 : A1.length ≤ 100000) (h2 : A2.length ≤ 100000) (h3 : A3.length ≤ 100000)
  (r1 : RowR w 6 (.slice a1 n1 m1) (A1.map cP)) (r2 : RowR w 3 (.slice a2 n2 m2) (A2.map cS)) (r3 : RowR w 6 (.slice a3 n3 m3) (A3.map cP)) (s1 : RowR w 6 (.slice b1 n1 k1) (A1.map cP)) (s2 : RowR w 3 (.slice b2 n2 k2) (A2.map cS)) (s3 : RowR w 6 (.slice b3 n3 k3) (A3.map cP)) :
  Calls Tryz.prog 53 #[.agg #[.slice a1 n1 m1, .slice a2 n2 m2, .slice a3 n3 m3, .bool (x 0).1, .string (x 0).2.1, .string (x 0).2.2, .bool (x 1).1, .string (x 1).2.1, .string (x 1).2.2, .bool (x 2).1, .string (x 2).2.1, .string (x 2).2.2, .bool (x 3).1, .string (x 3).2.1, .string (x 3).2.2, .bool (x 4).1, .string (x 4).2.1, .string (x 4).2.2, .bool (x 5).1, .string (x 5).2.1, .string (x 5).2.2, .bool (y 0).1, .string (y 0).2.1, .string (y 0).2.2, .bool (y 1).1, .string (y 1).2.1, .string (y 1).2.2, .bool (y 2).1, .string (y 2).2.1, .string (y 2).2.2, .bool (y 3).1, .string (y 3).2.1, .string (y 3).2.2, .bool (y 4).1, .string (y 4).2.1, .string (y 4).2.2, .bool (y 5).1, .string (y 5).2.1, .string (y 5).2.2], .agg #[.slice b1 n1 k1, .slice b2 n2 k2, .slice b3 n3 k3, .bool (x 0).1, .string (x 0).2.1, .string (x 0).2.2, .bool (x 1).1, .string (x 1).2.1, .string (x 1).2.2, .bool (x 2).1, .string (x 2).2.1, .string (x 2).2.2, .bool (x 3).1, .string (x 3).2.1, .string (x 3).2.2, .bool (x 4).1, .string (x 4).2.1, .string (x 4).2.2, .bool (x 5).1, .string (x 5).2.1, .string (x 5).2.2, .bool (y 0).1, .string (y 0).2.1, .string (y 0).2.2, .bool (y 1).1, .string (y 1).2.1, .string (y 1).2.2, .bool (y 2).1, .string (y 2).2.1, .string (y 2).2.2, .bool (y 3).1, .string (y 3).2.1, .string (y 3).2.2, .bool (y 4).1, .string (y 4).2.1, .string (y 4).2.2, .bool (y 5).1, .string (y 5).2.1, .string (y 5).2.2]] w (Re w (.bool true)) := by
 have P1 := shut (fun wi (b : Below w.heap.size w wi) => sl_pts _ _ A1 h1 wi (r1.below b) (s1.below b))
 have P2 := shut (fun wi (b : Below w.heap.size w wi) => sl_seg _ _ A2 h2 wi (r2.below b) (s2.below b))
 have P3 := shut (fun wi (b : Below w.heap.size w wi) => sl_pts _ _ A3 h3 wi (r3.below b) (s3.below b))
 clear r1 r2 r3 s1 s2 s3 h1 h2 h3
 go_enter Tryz.func53, Tryz.ntmps53
 go_upto_region 1 with fail
 obtain ⟨w0, hq, kz, ky, b0⟩ := mk2 w [.slice a1 n1 m1, .slice a2 n2 m2, .slice a3 n3 m3, .bool (x 0).1, .string (x 0).2.1, .string (x 0).2.2, .bool (x 1).1, .string (x 1).2.1, .string (x 1).2.2, .bool (x 2).1, .string (x 2).2.1, .string (x 2).2.2, .bool (x 3).1, .string (x 3).2.1, .string (x 3).2.2, .bool (x 4).1, .string (x 4).2.1, .string (x 4).2.2, .bool (x 5).1, .string (x 5).2.1, .string (x 5).2.2, .bool (y 0).1, .string (y 0).2.1, .string (y 0).2.2, .bool (y 1).1, .string (y 1).2.1, .string (y 1).2.2, .bool (y 2).1, .string (y 2).2.1, .string (y 2).2.2, .bool (y 3).1, .string (y 3).2.1, .string (y 3).2.2, .bool (y 4).1, .string (y 4).2.1, .string (y 4).2.2, .bool (y 5).1, .string (y 5).2.1, .string (y 5).2.2] [.slice b1 n1 k1, .slice b2 n2 k2, .slice b3 n3 k3, .bool (x 0).1, .string (x 0).2.1, .string (x 0).2.2, .bool (x 1).1, .string (x 1).2.1, .string (x 1).2.2, .bool (x 2).1, .string (x 2).2.1, .string (x 2).2.2, .bool (x 3).1, .string (x 3).2.1, .string (x 3).2.2, .bool (x 4).1, .string (x 4).2.1, .string (x 4).2.2, .bool (x 5).1, .string (x 5).2.1, .string (x 5).2.2, .bool (y 0).1, .string (y 0).2.1, .string (y 0).2.2, .bool (y 1).1, .string (y 1).2.1, .string (y 1).2.2, .bool (y 2).1, .string (y 2).2.1, .string (y 2).2.2, .bool (y 3).1, .string (y 3).2.1, .string (y 3).2.2, .bool (y 4).1, .string (y 4).2.1, .string (y 4).2.2, .bool (y 5).1, .string (y 5).2.1, .string (y 5).2.2] 46 46
 rw [← hq]
 clear hq
 have kz' : Cel w0 w.heap.size (pl39 (.slice a1 n1 m1) (.slice a2 n2 m2) (.slice a3 n3 m3) (L18 x) (L18 y)) 46 := kz
 have ky' : Cel w0 (w.heap.size + 1) (pl39 (.slice b1 n1 k1) (.slice b2 n2 k2) (.slice b3 n3 k3) (L18 x) (L18 y)) 46 := ky
 clear kz ky
 obtain ⟨cs, hcs⟩ : ∃ cs : List Value, cs = pl39 (.slice a1 n1 m1) (.slice a2 n2 m2) (.slice a3 n3 m3) (L18 x) (L18 y) := ⟨_, rfl⟩
 obtain ⟨ds, hds⟩ : ∃ ds : List Value, ds = pl39 (.slice b1 n1 k1) (.slice b2 n2 k2) (.slice b3 n3 k3) (L18 x) (L18 y) := ⟨_, rfl⟩
 rw [← hcs] at kz'
 rw [← hds] at ky'
 obtain ⟨g, hg⟩ : ∃ g, g = w.heap.size := ⟨_, rfl⟩
 rw [← hg] at kz' ky' ⊢
 obtain ⟨f, hf⟩ : ∃ f, f = g + 1 := ⟨_, rfl⟩
 rw [← hf] at ky' ⊢
 have C0 : Hid (∀ wi, Cel wi g cs 46 → wi.cell? ⟨g, 0, none⟩ = some (.slice a1 n1 m1)) := fun wi k => by rw [k.cell 0, hcs]; rfl
 have C1 : Hid (∀ wi, Cel wi g cs 46 → wi.cell? ⟨g, 1, none⟩ = some (.slice a2 n2 m2)) := fun wi k => by rw [k.cell 1, hcs]; rfl
 have C2 : Hid (∀ wi, Cel wi g cs 46 → wi.cell? ⟨g, 2, none⟩ = some (.slice a3 n3 m3)) := fun wi k => by rw [k.cell 2, hcs]; rfl
 have D0 : Hid (∀ wi, Cel wi f ds 46 → wi.cell? ⟨f, 0, none⟩ = some (.slice b1 n1 k1)) := fun wi k => by rw [k.cell 0, hds]; rfl
 have D1 : Hid (∀ wi, Cel wi f ds 46 → wi.cell? ⟨f, 1, none⟩ = some (.slice b2 n2 k2)) := fun wi k => by rw [k.cell 1, hds]; rfl
 have D2 : Hid (∀ wi, Cel wi f ds 46 → wi.cell? ⟨f, 2, none⟩ = some (.slice b3 n3 k3)) := fun wi k => by rw [k.cell 2, hds]; rfl
 have CF : Hid (∀ wi, Cel wi g cs 46 → wi.rangeAt g 3 [.bool (x 0).1, .string (x 0).2.1, .string (x 0).2.2, .bool (x 1).1, .string (x 1).2.1, .string (x 1).2.2, .bool (x 2).1, .string (x 2).2.1, .string (x 2).2.2, .bool (x 3).1, .string (x 3).2.1, .string (x 3).2.2, .bool (x 4).1, .string (x 4).2.1, .string (x 4).2.2, .bool (x 5).1, .string (x 5).2.1, .string (x 5).2.2]) := fun wi k => by have := rg_cel k 3 18; rw [hcs] at this; exact this
 have CG : Hid (∀ wi, Cel wi g cs 46 → wi.rangeAt g 21 [.bool (y 0).1, .string (y 0).2.1, .string (y 0).2.2, .bool (y 1).1, .string (y 1).2.1, .string (y 1).2.2, .bool (y 2).1, .string (y 2).2.1, .string (y 2).2.2, .bool (y 3).1, .string (y 3).2.1, .string (y 3).2.2, .bool (y 4).1, .string (y 4).2.1, .string (y 4).2.2, .bool (y 5).1, .string (y 5).2.1, .string (y 5).2.2]) := fun wi k => by have := rg_cel k 21 18; rw [hcs] at this; exact this
 have DF : Hid (∀ wi, Cel wi f ds 46 → wi.rangeAt f 3 [.bool (x 0).1, .string (x 0).2.1, .string (x 0).2.2, .bool (x 1).1, .string (x 1).2.1, .string (x 1).2.2, .bool (x 2).1, .string (x 2).2.1, .string (x 2).2.2, .bool (x 3).1, .string (x 3).2.1, .string (x 3).2.2, .bool (x 4).1, .string (x 4).2.1, .string (x 4).2.2, .bool (x 5).1, .string (x 5).2.1, .string (x 5).2.2]) := fun wi k => by have := rg_cel k 3 18; rw [hds] at this; exact this
 have DG : Hid (∀ wi, Cel wi f ds 46 → wi.rangeAt f 21 [.bool (y 0).1, .string (y 0).2.1, .string (y 0).2.2, .bool (y 1).1, .string (y 1).2.1, .string (y 1).2.2, .bool (y 2).1, .string (y 2).2.1, .string (y 2).2.2, .bool (y 3).1, .string (y 3).2.1, .string (y 3).2.2, .bool (y 4).1, .string (y 4).2.1, .string (y 4).2.2, .bool (y 5).1, .string (y 5).2.1, .string (y 5).2.2]) := fun wi k => by have := rg_cel k 21 18; rw [hds] at this; exact this
 have EF := fun w1 => eqPoly x w1
 have EG := fun w1 => eqPoly y w1
 have Hg := shut hg
 clear hcs hds hg hf
 generalize Value.agg #[.slice a1 n1 m1, .slice a2 n2 m2, .slice a3 n3 m3, .bool (x 0).1, .string (x 0).2.1, .string (x 0).2.2, .bool (x 1).1, .string (x 1).2.1, .string (x 1).2.2, .bool (x 2).1, .string (x 2).2.1, .string (x 2).2.2, .bool (x 3).1, .string (x 3).2.1, .string (x 3).2.2, .bool (x 4).1, .string (x 4).2.1, .string (x 4).2.2, .bool (x 5).1, .string (x 5).2.1, .string (x 5).2.2, .bool (y 0).1, .string (y 0).2.1, .string (y 0).2.2, .bool (y 1).1, .string (y 1).2.1, .string (y 1).2.2, .bool (y 2).1, .string (y 2).2.1, .string (y 2).2.2, .bool (y 3).1, .string (y 3).2.1, .string (y 3).2.2, .bool (y 4).1, .string (y 4).2.1, .string (y 4).2.2, .bool (y 5).1, .string (y 5).2.1, .string (y 5).2.2] = V0
 generalize Value.agg #[.slice b1 n1 k1, .slice b2 n2 k2, .slice b3 n3 k3, .bool (x 0).1, .string (x 0).2.1, .string (x 0).2.2, .bool (x 1).1, .string (x 1).2.1, .string (x 1).2.2, .bool (x 2).1, .string (x 2).2.1, .string (x 2).2.2, .bool (x 3).1, .string (x 3).2.1, .string (x 3).2.2, .bool (x 4).1, .string (x 4).2.1, .string (x 4).2.2, .bool (x 5).1, .string (x 5).2.1, .string (x 5).2.2, .bool (y 0).1, .string (y 0).2.1, .string (y 0).2.2, .bool (y 1).1, .string (y 1).2.1, .string (y 1).2.2, .bool (y 2).1, .string (y 2).2.1, .string (y 2).2.2, .bool (y 3).1, .string (y 3).2.1, .string (y 3).2.2, .bool (y 4).1, .string (y 4).2.1, .string (y 4).2.2, .bool (y 5).1, .string (y 5).2.1, .string (y 5).2.2] = V1
 have c0 := C0.out _ kz'
 have d0 := D0.out _ ky'
 go_wp2_with (first | (go_at_call 103; first | (go_fit (P1.out w0 b0); rintro e w1 ⟨rfl, b1⟩; have B1 := Below.after b0 b1; have kz1 := kz'.below b1; have ky1 := ky'.below b1; have c1 := C1.out _ kz1; have d1 := D1.out _ ky1) | (go_fit (P3.out w2 B2); rintro e w3 ⟨rfl, b3⟩; have B3 := Below.after B2 b3; have kz3 := kz2.below b3; have ky3 := ky2.below b3; have cf := CF.out _ kz3; have cg := CG.out _ kz3; have df := DF.out _ ky3; have dh := DG.out _ ky3)) | (go_at_call 104; refine (P2.out w1 B1).mono ?_; rintro e w2 ⟨rfl, b2⟩; have B2 := Below.after B1 b2; have kz2 := kz1.below b2; have ky2 := ky1.below b2; have c2 := C2.out _ kz2; have d2 := D2.out _ ky2) | (refine wpList_load_midG (by rfl) 28 _ rfl g 3 rfl [.bool (x 0).1, .string (x 0).2.1, .string (x 0).2.2, .bool (x 1).1, .string (x 1).2.1, .string (x 1).2.2, .bool (x 2).1, .string (x 2).2.1, .string (x 2).2.2, .bool (x 3).1, .string (x 3).2.1, .string (x 3).2.2, .bool (x 4).1, .string (x 4).2.1, .string (x 4).2.2, .bool (x 5).1, .string (x 5).2.1, .string (x 5).2.2] _ cf Tryz.underlying28 rfl (by kernel_rfl) ?_) | (refine wpList_load_midG (by rfl) 28 _ rfl f 3 rfl [.bool (x 0).1, .string (x 0).2.1, .string (x 0).2.2, .bool (x 1).1, .string (x 1).2.1, .string (x 1).2.2, .bool (x 2).1, .string (x 2).2.1, .string (x 2).2.2, .bool (x 3).1, .string (x 3).2.1, .string (x 3).2.2, .bool (x 4).1, .string (x 4).2.1, .string (x 4).2.2, .bool (x 5).1, .string (x 5).2.1, .string (x 5).2.2] _ df Tryz.underlying28 rfl (by kernel_rfl) ?_) | (refine wpList_load_midG (by rfl) 28 _ rfl g 21 rfl [.bool (y 0).1, .string (y 0).2.1, .string (y 0).2.2, .bool (y 1).1, .string (y 1).2.1, .string (y 1).2.2, .bool (y 2).1, .string (y 2).2.1, .string (y 2).2.2, .bool (y 3).1, .string (y 3).2.1, .string (y 3).2.2, .bool (y 4).1, .string (y 4).2.1, .string (y 4).2.2, .bool (y 5).1, .string (y 5).2.1, .string (y 5).2.2] _ cg Tryz.underlying28 rfl (by kernel_rfl) ?_) | (refine wpList_load_midG (by rfl) 28 _ rfl f 21 rfl [.bool (y 0).1, .string (y 0).2.1, .string (y 0).2.2, .bool (y 1).1, .string (y 1).2.1, .string (y 1).2.2, .bool (y 2).1, .string (y 2).2.1, .string (y 2).2.2, .bool (y 3).1, .string (y 3).2.1, .string (y 3).2.2, .bool (y 4).1, .string (y 4).2.1, .string (y 4).2.2, .bool (y 5).1, .string (y 5).2.1, .string (y 5).2.2] _ dh Tryz.underlying28 rfl (by kernel_rfl) ?_))
 go_ret
 exact ⟨rfl, B3⟩
theorem rsame_any (A1 A3 : List (Q3 × Q3)) (A2 : List (Nat × Nat × Bool)) (a1 a2 a3 b1 b2 b3 : Option Addr) (n1 n2 n3 m1 m2 m3 k1 k2 k3 : Nat) (x y : Nat → Q3) (w : World) (h1 : A1.length ≤ 100000) (h2 : A2.length ≤ 100000) (h3 : A3.length ≤ 100000)
  (r1 : RowR w 6 (.slice a1 n1 m1) (A1.map cP)) (r2 : RowR w 3 (.slice a2 n2 m2) (A2.map cS)) (r3 : RowR w 6 (.slice a3 n3 m3) (A3.map cP)) (s1 : RowR w 6 (.slice b1 n1 k1) (A1.map cP)) (s2 : RowR w 3 (.slice b2 n2 k2) (A2.map cS)) (s3 : RowR w 6 (.slice b3 n3 k3) (A3.map cP)) :
  Calls Tryz.prog 20 #[.agg #[.slice a1 n1 m1, .slice a2 n2 m2, .slice a3 n3 m3, .bool (x 0).1, .string (x 0).2.1, .string (x 0).2.2, .bool (x 1).1, .string (x 1).2.1, .string (x 1).2.2, .bool (x 2).1, .string (x 2).2.1, .string (x 2).2.2, .bool (x 3).1, .string (x 3).2.1, .string (x 3).2.2, .bool (x 4).1, .string (x 4).2.1, .string (x 4).2.2, .bool (x 5).1, .string (x 5).2.1, .string (x 5).2.2, .bool (y 0).1, .string (y 0).2.1, .string (y 0).2.2, .bool (y 1).1, .string (y 1).2.1, .string (y 1).2.2, .bool (y 2).1, .string (y 2).2.1, .string (y 2).2.2, .bool (y 3).1, .string (y 3).2.1, .string (y 3).2.2, .bool (y 4).1, .string (y 4).2.1, .string (y 4).2.2, .bool (y 5).1, .string (y 5).2.1, .string (y 5).2.2], .agg #[.slice b1 n1 k1, .slice b2 n2 k2, .slice b3 n3 k3, .bool (x 0).1, .string (x 0).2.1, .string (x 0).2.2, .bool (x 1).1, .string (x 1).2.1, .string (x 1).2.2, .bool (x 2).1, .string (x 2).2.1, .string (x 2).2.2, .bool (x 3).1, .string (x 3).2.1, .string (x 3).2.2, .bool (x 4).1, .string (x 4).2.1, .string (x 4).2.2, .bool (x 5).1, .string (x 5).2.1, .string (x 5).2.2, .bool (y 0).1, .string (y 0).2.1, .string (y 0).2.2, .bool (y 1).1, .string (y 1).2.1, .string (y 1).2.2, .bool (y 2).1, .string (y 2).2.1, .string (y 2).2.2, .bool (y 3).1, .string (y 3).2.1, .string (y 3).2.2, .bool (y 4).1, .string (y 4).2.1, .string (y 4).2.2, .bool (y 5).1, .string (y 5).2.1, .string (y 5).2.2]] w (Re w (.bool true)) := by
 have P1 := shut (fun wi (b : Below w.heap.size w wi) => same_pts _ _ A1 h1 wi (r1.below b) (s1.below b))
 have P2 := shut (fun wi (b : Below w.heap.size w wi) => same_seg _ _ A2 h2 wi (r2.below b) (s2.below b))
 have P3 := shut (fun wi (b : Below w.heap.size w wi) => same_pts _ _ A3 h3 wi (r3.below b) (s3.below b))
 clear r1 r2 r3 s1 s2 s3 h1 h2 h3
 go_enter Tryz.func20, Tryz.ntmps20
 go_upto_region 1 with fail
 obtain ⟨w0, hq, kz, ky, b0⟩ := mk2 w [.slice a1 n1 m1, .slice a2 n2 m2, .slice a3 n3 m3, .bool (x 0).1, .string (x 0).2.1, .string (x 0).2.2, .bool (x 1).1, .string (x 1).2.1, .string (x 1).2.2, .bool (x 2).1, .string (x 2).2.1, .string (x 2).2.2, .bool (x 3).1, .string (x 3).2.1, .string (x 3).2.2, .bool (x 4).1, .string (x 4).2.1, .string (x 4).2.2, .bool (x 5).1, .string (x 5).2.1, .string (x 5).2.2, .bool (y 0).1, .string (y 0).2.1, .string (y 0).2.2, .bool (y 1).1, .string (y 1).2.1, .string (y 1).2.2, .bool (y 2).1, .string (y 2).2.1, .string (y 2).2.2, .bool (y 3).1, .string (y 3).2.1, .string (y 3).2.2, .bool (y 4).1, .string (y 4).2.1, .string (y 4).2.2, .bool (y 5).1, .string (y 5).2.1, .string (y 5).2.2] [.slice b1 n1 k1, .slice b2 n2 k2, .slice b3 n3 k3, .bool (x 0).1, .string (x 0).2.1, .string (x 0).2.2, .bool (x 1).1, .string (x 1).2.1, .string (x 1).2.2, .bool (x 2).1, .string (x 2).2.1, .string (x 2).2.2, .bool (x 3).1, .string (x 3).2.1, .string (x 3).2.2, .bool (x 4).1, .string (x 4).2.1, .string (x 4).2.2, .bool (x 5).1, .string (x 5).2.1, .string (x 5).2.2, .bool (y 0).1, .string (y 0).2.1, .string (y 0).2.2, .bool (y 1).1, .string (y 1).2.1, .string (y 1).2.2, .bool (y 2).1, .string (y 2).2.1, .string (y 2).2.2, .bool (y 3).1, .string (y 3).2.1, .string (y 3).2.2, .bool (y 4).1, .string (y 4).2.1, .string (y 4).2.2, .bool (y 5).1, .string (y 5).2.1, .string (y 5).2.2] 46 46
 rw [← hq]
 clear hq
 have kz' : Cel w0 w.heap.size (pl39 (.slice a1 n1 m1) (.slice a2 n2 m2) (.slice a3 n3 m3) (L18 x) (L18 y)) 46 := kz
 have ky' : Cel w0 (w.heap.size + 1) (pl39 (.slice b1 n1 k1) (.slice b2 n2 k2) (.slice b3 n3 k3) (L18 x) (L18 y)) 46 := ky
 clear kz ky
 obtain ⟨cs, hcs⟩ : ∃ cs : List Value, cs = pl39 (.slice a1 n1 m1) (.slice a2 n2 m2) (.slice a3 n3 m3) (L18 x) (L18 y) := ⟨_, rfl⟩
 obtain ⟨ds, hds⟩ : ∃ ds : List Value, ds = pl39 (.slice b1 n1 k1) (.slice b2 n2 k2) (.slice b3 n3 k3) (L18 x) (L18 y) := ⟨_, rfl⟩
 rw [← hcs] at kz'
 rw [← hds] at ky'
 obtain ⟨g, hg⟩ : ∃ g, g = w.heap.size := ⟨_, rfl⟩
 rw [← hg] at kz' ky' ⊢
 obtain ⟨f, hf⟩ : ∃ f, f = g + 1 := ⟨_, rfl⟩
 rw [← hf] at ky' ⊢
 have C0 : Hid (∀ wi, Cel wi g cs 46 → wi.cell? ⟨g, 0, none⟩ = some (.slice a1 n1 m1)) := fun wi k => by rw [k.cell 0, hcs]; rfl
 have C1 : Hid (∀ wi, Cel wi g cs 46 → wi.cell? ⟨g, 1, none⟩ = some (.slice a2 n2 m2)) := fun wi k => by rw [k.cell 1, hcs]; rfl
 have C2 : Hid (∀ wi, Cel wi g cs 46 → wi.cell? ⟨g, 2, none⟩ = some (.slice a3 n3 m3)) := fun wi k => by rw [k.cell 2, hcs]; rfl
 have D0 : Hid (∀ wi, Cel wi f ds 46 → wi.cell? ⟨f, 0, none⟩ = some (.slice b1 n1 k1)) := fun wi k => by rw [k.cell 0, hds]; rfl
 have D1 : Hid (∀ wi, Cel wi f ds 46 → wi.cell? ⟨f, 1, none⟩ = some (.slice b2 n2 k2)) := fun wi k => by rw [k.cell 1, hds]; rfl
 have D2 : Hid (∀ wi, Cel wi f ds 46 → wi.cell? ⟨f, 2, none⟩ = some (.slice b3 n3 k3)) := fun wi k => by rw [k.cell 2, hds]; rfl
 have CF : Hid (∀ wi, Cel wi g cs 46 → wi.rangeAt g 3 [.bool (x 0).1, .string (x 0).2.1, .string (x 0).2.2, .bool (x 1).1, .string (x 1).2.1, .string (x 1).2.2, .bool (x 2).1, .string (x 2).2.1, .string (x 2).2.2, .bool (x 3).1, .string (x 3).2.1, .string (x 3).2.2, .bool (x 4).1, .string (x 4).2.1, .string (x 4).2.2, .bool (x 5).1, .string (x 5).2.1, .string (x 5).2.2]) := fun wi k => by have := rg_cel k 3 18; rw [hcs] at this; exact this
 have CG : Hid (∀ wi, Cel wi g cs 46 → wi.rangeAt g 21 [.bool (y 0).1, .string (y 0).2.1, .string (y 0).2.2, .bool (y 1).1, .string (y 1).2.1, .string (y 1).2.2, .bool (y 2).1, .string (y 2).2.1, .string (y 2).2.2, .bool (y 3).1, .string (y 3).2.1, .string (y 3).2.2, .bool (y 4).1, .string (y 4).2.1, .string (y 4).2.2, .bool (y 5).1, .string (y 5).2.1, .string (y 5).2.2]) := fun wi k => by have := rg_cel k 21 18; rw [hcs] at this; exact this
 have DF : Hid (∀ wi, Cel wi f ds 46 → wi.rangeAt f 3 [.bool (x 0).1, .string (x 0).2.1, .string (x 0).2.2, .bool (x 1).1, .string (x 1).2.1, .string (x 1).2.2, .bool (x 2).1, .string (x 2).2.1, .string (x 2).2.2, .bool (x 3).1, .string (x 3).2.1, .string (x 3).2.2, .bool (x 4).1, .string (x 4).2.1, .string (x 4).2.2, .bool (x 5).1, .string (x 5).2.1, .string (x 5).2.2]) := fun wi k => by have := rg_cel k 3 18; rw [hds] at this; exact this
 have DG : Hid (∀ wi, Cel wi f ds 46 → wi.rangeAt f 21 [.bool (y 0).1, .string (y 0).2.1, .string (y 0).2.2, .bool (y 1).1, .string (y 1).2.1, .string (y 1).2.2, .bool (y 2).1, .string (y 2).2.1, .string (y 2).2.2, .bool (y 3).1, .string (y 3).2.1, .string (y 3).2.2, .bool (y 4).1, .string (y 4).2.1, .string (y 4).2.2, .bool (y 5).1, .string (y 5).2.1, .string (y 5).2.2]) := fun wi k => by have := rg_cel k 21 18; rw [hds] at this; exact this
 have EF := fun w1 => eqPoly x w1
 have EG := fun w1 => eqPoly y w1
 have Hg := shut hg
 clear hcs hds hg hf
 generalize Value.agg #[.slice a1 n1 m1, .slice a2 n2 m2, .slice a3 n3 m3, .bool (x 0).1, .string (x 0).2.1, .string (x 0).2.2, .bool (x 1).1, .string (x 1).2.1, .string (x 1).2.2, .bool (x 2).1, .string (x 2).2.1, .string (x 2).2.2, .bool (x 3).1, .string (x 3).2.1, .string (x 3).2.2, .bool (x 4).1, .string (x 4).2.1, .string (x 4).2.2, .bool (x 5).1, .string (x 5).2.1, .string (x 5).2.2, .bool (y 0).1, .string (y 0).2.1, .string (y 0).2.2, .bool (y 1).1, .string (y 1).2.1, .string (y 1).2.2, .bool (y 2).1, .string (y 2).2.1, .string (y 2).2.2, .bool (y 3).1, .string (y 3).2.1, .string (y 3).2.2, .bool (y 4).1, .string (y 4).2.1, .string (y 4).2.2, .bool (y 5).1, .string (y 5).2.1, .string (y 5).2.2] = V0
 generalize Value.agg #[.slice b1 n1 k1, .slice b2 n2 k2, .slice b3 n3 k3, .bool (x 0).1, .string (x 0).2.1, .string (x 0).2.2, .bool (x 1).1, .string (x 1).2.1, .string (x 1).2.2, .bool (x 2).1, .string (x 2).2.1, .string (x 2).2.2, .bool (x 3).1, .string (x 3).2.1, .string (x 3).2.2, .bool (x 4).1, .string (x 4).2.1, .string (x 4).2.2, .bool (x 5).1, .string (x 5).2.1, .string (x 5).2.2, .bool (y 0).1, .string (y 0).2.1, .string (y 0).2.2, .bool (y 1).1, .string (y 1).2.1, .string (y 1).2.2, .bool (y 2).1, .string (y 2).2.1, .string (y 2).2.2, .bool (y 3).1, .string (y 3).2.1, .string (y 3).2.2, .bool (y 4).1, .string (y 4).2.1, .string (y 4).2.2, .bool (y 5).1, .string (y 5).2.1, .string (y 5).2.2] = V1
 have c0 := C0.out _ kz'
 have d0 := D0.out _ ky'
 go_wp2_with (first | (go_at_call 50; first | (go_fit (P1.out w0 b0); rintro e w1 ⟨rfl, b1⟩; have B1 := Below.after b0 b1; have kz1 := kz'.below b1; have ky1 := ky'.below b1; have c1 := C1.out _ kz1; have d1 := D1.out _ ky1) | (go_fit (P3.out w2 B2); rintro e w3 ⟨rfl, b3⟩; have B3 := Below.after B2 b3; have kz3 := kz2.below b3; have ky3 := ky2.below b3; have cf := CF.out _ kz3; have cg := CG.out _ kz3; have df := DF.out _ ky3; have dh := DG.out _ ky3)) | (go_at_call 51; refine (P2.out w1 B1).mono ?_; rintro e w2 ⟨rfl, b2⟩; have B2 := Below.after B1 b2; have kz2 := kz1.below b2; have ky2 := ky1.below b2; have c2 := C2.out _ kz2; have d2 := D2.out _ ky2) | (refine wpList_load_midG (by rfl) 28 _ rfl g 3 rfl [.bool (x 0).1, .string (x 0).2.1, .string (x 0).2.2, .bool (x 1).1, .string (x 1).2.1, .string (x 1).2.2, .bool (x 2).1, .string (x 2).2.1, .string (x 2).2.2, .bool (x 3).1, .string (x 3).2.1, .string (x 3).2.2, .bool (x 4).1, .string (x 4).2.1, .string (x 4).2.2, .bool (x 5).1, .string (x 5).2.1, .string (x 5).2.2] _ cf Tryz.underlying28 rfl (by kernel_rfl) ?_) | (refine wpList_load_midG (by rfl) 28 _ rfl f 3 rfl [.bool (x 0).1, .string (x 0).2.1, .string (x 0).2.2, .bool (x 1).1, .string (x 1).2.1, .string (x 1).2.2, .bool (x 2).1, .string (x 2).2.1, .string (x 2).2.2, .bool (x 3).1, .string (x 3).2.1, .string (x 3).2.2, .bool (x 4).1, .string (x 4).2.1, .string (x 4).2.2, .bool (x 5).1, .string (x 5).2.1, .string (x 5).2.2] _ df Tryz.underlying28 rfl (by kernel_rfl) ?_) | (refine wpList_load_midG (by rfl) 28 _ rfl g 21 rfl [.bool (y 0).1, .string (y 0).2.1, .string (y 0).2.2, .bool (y 1).1, .string (y 1).2.1, .string (y 1).2.2, .bool (y 2).1, .string (y 2).2.1, .string (y 2).2.2, .bool (y 3).1, .string (y 3).2.1, .string (y 3).2.2, .bool (y 4).1, .string (y 4).2.1, .string (y 4).2.2, .bool (y 5).1, .string (y 5).2.1, .string (y 5).2.2] _ cg Tryz.underlying28 rfl (by kernel_rfl) ?_) | (refine wpList_load_midG (by rfl) 28 _ rfl f 21 rfl [.bool (y 0).1, .string (y 0).2.1, .string (y 0).2.2, .bool (y 1).1, .string (y 1).2.1, .string (y 1).2.2, .bool (y 2).1, .string (y 2).2.1, .string (y 2).2.2, .bool (y 3).1, .string (y 3).2.1, .string (y 3).2.2, .bool (y 4).1, .string (y 4).2.1, .string (y 4).2.2, .bool (y 5).1, .string (y 5).2.1, .string (y 5).2.2] _ dh Tryz.underlying28 rfl (by kernel_rfl) ?_))
 go_ret
 exact ⟨rfl, B3⟩
theorem L18_eq {x y : Nat → Q3} (h : [x 0, x 1, x 2, x 3, x 4, x 5] = [y 0, y 1, y 2, y 3, y 4, y 5]) : L18 x = L18 y := by
 injection h with h0 h
 injection h with h1 h
 injection h with h2 h
 injection h with h3 h
 injection h with h4 h
 injection h with h5 _
 unfold L18
 rw [h0, h1, h2, h3, h4, h5]
theorem psame_pl (p : Pl) (cs ds : List Value) (B C : Nat) (w : World) (h : PlanAt w B cs p) (k : PlanAt w C ds p) (h1 : p.pts.length ≤ 100000) (h2 : p.segs.length ≤ 100000) (h3 : p.holes.length ≤ 100000) :
  Calls Tryz.prog 53 #[.agg cs.toArray, .agg ds.toArray] w (Re w (.bool true)) := by
 obtain ⟨v1, v2, v3, x, y, rfl, o1, o2, o3, hF, hG⟩ := h
 obtain ⟨u1, u2, u3, x', y', rfl, q1, q2, q3, kF, kG⟩ := k
 have r1 := RowR.of cP cP_len o1
 have r2 := RowR.of cS cS_len o2
 have r3 := RowR.of cP cP_len o3
 have s1 := RowR.of cP cP_len q1
 have s2 := RowR.of cS cS_len q2
 have s3 := RowR.of cP cP_len q3
 obtain ⟨a1, c1, rfl⟩ := own_val o1
 obtain ⟨a2, c2, rfl⟩ := own_val o2
 obtain ⟨a3, c3, rfl⟩ := own_val o3
 obtain ⟨b1, d1, rfl⟩ := own_val q1
 obtain ⟨b2, d2, rfl⟩ := own_val q2
 obtain ⟨b3, d3, rfl⟩ := own_val q3
 rw [L18_eq (kF.symm.trans hF), L18_eq (kG.symm.trans hG)]
 exact psame_any p.pts p.holes p.segs a1 a2 a3 b1 b2 b3 _ _ _ c1 c2 c3 d1 d2 d3 x y w h1 h2 h3 r1 r2 r3 s1 s2 s3
theorem rsame_pl (p : Pl) (cs ds : List Value) (B C : Nat) (w : World) (h : PlanAt w B cs p) (k : PlanAt w C ds p) (h1 : p.pts.length ≤ 100000) (h2 : p.segs.length ≤ 100000) (h3 : p.holes.length ≤ 100000) :
  Calls Tryz.prog 20 #[.agg cs.toArray, .agg ds.toArray] w (Re w (.bool true)) := by
 obtain ⟨v1, v2, v3, x, y, rfl, o1, o2, o3, hF, hG⟩ := h
 obtain ⟨u1, u2, u3, x', y', rfl, q1, q2, q3, kF, kG⟩ := k
 have r1 := RowR.of cP cP_len o1
 have r2 := RowR.of cS cS_len o2
 have r3 := RowR.of cP cP_len o3
 have s1 := RowR.of cP cP_len q1
 have s2 := RowR.of cS cS_len q2
 have s3 := RowR.of cP cP_len q3
 obtain ⟨a1, c1, rfl⟩ := own_val o1
 obtain ⟨a2, c2, rfl⟩ := own_val o2
 obtain ⟨a3, c3, rfl⟩ := own_val o3
 obtain ⟨b1, d1, rfl⟩ := own_val q1
 obtain ⟨b2, d2, rfl⟩ := own_val q2
 obtain ⟨b3, d3, rfl⟩ := own_val q3
 rw [L18_eq (kF.symm.trans hF), L18_eq (kG.symm.trans hG)]
 exact rsame_any p.pts p.holes p.segs a1 a2 a3 b1 b2 b3 _ _ _ c1 c2 c3 d1 d2 d3 x y w h1 h2 h3 r1 r2 r3 s1 s2 s3
theorem read_two (P : ByteArray → Q3) (E : ByteArray → Int) (hP : PR P E) (s : ByteArray) (w : World) (aL : Addr) (h : Env8 w aL) :
  Calls Tryz.prog 42 #[.string s] w fun e w' => ∃ (cs : List Value) (er : Value) (p : Pl), e = .returned (.tuple #[.agg cs.toArray, er]) ∧ PlanAt w' w.heap.size cs p ∧ Below w.heap.size w w' ∧
   ((psp P E s).2 = 0 → p = (psp P E s).1 ∧ er = .nilIface) ∧ ((psp P E s).2 ≠ 0 → ∃ q, er = .iface 132 (.pointer (some ⟨q, 0, none⟩))) := by
 unfold psp
 by_cases hs : 20000 < s.size
 ·rw [if_pos hs]
  refine (read_long s w hs aL h.sens.1.2.2.1).mono ?_
  rintro e w' ⟨p, z, rfl, kp, b⟩
  exact ⟨Z39, _, zPl, rfl, planAt_zero _ _, b, (fun h => by cases h), fun _ => ⟨p, rfl⟩⟩
 ·rw [if_neg hs]
  refine (read_ok P E hP s w (by omega) aL h.sens h.tab h.tabB).mono ?_
  rintro e w' ⟨v1, v2, v3, er, x, y, rfl, o1, o2, o3, hF, hG, hok, hbad, b⟩
  have hp := planAt_of o1 o2 o3 hF hG
  unfold plan rpl
  generalize (r1 P E (toks s)).1 = A1 at *
  generalize (r2 P E (toks s)).1 = A2 at *
  generalize (r3 P E (toks s)).1 = A3 at *
  generalize (r4 P E (toks s)).1 = A4 at *
  generalize (r5 P E (toks s)).1 = A5 at *
  generalize r6 P E (toks s) = A6 at *
  by_cases h6 : A6 = some []
  ·rw [if_pos h6]
   obtain rfl := hok h6
   exact ⟨_, _, _, rfl, hp, b, fun _ => ⟨rfl, rfl⟩, fun h => absurd rfl h⟩
  ·rw [if_neg h6]
   obtain ⟨p, z, a, rfl, -⟩ := hbad h6
   exact ⟨_, _, _, rfl, hp, b, (fun h => by cases h), fun _ => ⟨p, rfl⟩⟩
theorem pprint_ex (P : ByteArray → Q3) (E : ByteArray → Int) (hP : PR P E) (T : Q3 → ByteArray) (A1 A3 : List (Q3 × Q3)) (A2 : List (Nat × Nat × Bool)) (a1 a2 a3 : Option Addr) (n1 n2 n3 m1 m2 m3 : Nat) (x y : Nat → Q3) (B : Nat) (w : World) (aL : Addr) (h : Env8 w aL) (e1 : A1.length = n1) (e2 : A2.length = n2) (e3 : A3.length = n3)
  (h1 : n1 ≤ 40) (h2 : n2 ≤ 60) (h3 : n3 ≤ 10) (r1 : RowR w 6 (.slice a1 n1 m1) (A1.map cP)) (r2 : RowR w 3 (.slice a2 n2 m2) (A2.map cS)) (r3 : RowR w 6 (.slice a3 n3 m3) (A3.map cP))
  (t1 : ∀ q, q ∈ A1 → TX T q.1 w ∧ TX T q.2 w) (t3 : ∀ q, q ∈ A3 → TX T q.1 w ∧ TX T q.2 w) (tx : ∀ i, TX T (x i) w) (ty : ∀ i, TX T (y i) w) (s2 : ∀ s, s ∈ A2 → s.1 < 100 ∧ s.2.1 < 100) (zT : ∀ q, (T q).size ≤ 1000)
  (hp : PlanAt w B (pl39 (.slice a1 n1 m1) (.slice a2 n2 m2) (.slice a3 n3 m3) (L18 x) (L18 y)) ⟨A1, A2, A3, [x 0, x 1, x 2, x 3, x 4, x 5], [y 0, y 1, y 2, y 3, y 4, y 5]⟩)
  (s : ByteArray) (hs : s = wtx T ⟨A1, A2, A3, [x 0, x 1, x 2, x 3, x 4, x 5], [y 0, y 1, y 2, y 3, y 4, y 5]⟩) (hr : (psp P E s).2 = 0 → (psp P E s).1 = ⟨A1, A2, A3, [x 0, x 1, x 2, x 3, x 4, x 5], [y 0, y 1, y 2, y 3, y 4, y 5]⟩) :
  Calls Tryz.prog 23 #[.agg #[.slice a1 n1 m1, .slice a2 n2 m2, .slice a3 n3 m3, .bool (x 0).1, .string (x 0).2.1, .string (x 0).2.2, .bool (x 1).1, .string (x 1).2.1, .string (x 1).2.2, .bool (x 2).1, .string (x 2).2.1, .string (x 2).2.2, .bool (x 3).1, .string (x 3).2.1, .string (x 3).2.2, .bool (x 4).1, .string (x 4).2.1, .string (x 4).2.2, .bool (x 5).1, .string (x 5).2.1, .string (x 5).2.2, .bool (y 0).1, .string (y 0).2.1, .string (y 0).2.2, .bool (y 1).1, .string (y 1).2.1, .string (y 1).2.2, .bool (y 2).1, .string (y 2).2.1, .string (y 2).2.2, .bool (y 3).1, .string (y 3).2.1, .string (y 3).2.2, .bool (y 4).1, .string (y 4).2.1, .string (y 4).2.2, .bool (y 5).1, .string (y 5).2.1, .string (y 5).2.2]] w (Re w (.tuple #[.string (if (psp P E s).2 = 0 then s else eS), .int .i64 (if (psp P E s).2 = 0 then 0 else 1)])) := by
 have HW0 := fun wi (b : Below w.heap.size w wi) => written_any T A1 A3 A2 a1 a2 a3 n1 n2 n3 m1 m2 m3 x y wi e1 e2 e3 (by omega) (by omega) (by omega) (r1.below b) (r2.below b) (r3.below b) (fun q hq => ⟨(t1 q hq).1.below b, (t1 q hq).2.below b⟩) (fun q hq => ⟨(t3 q hq).1.below b, (t3 q hq).2.below b⟩) (fun i => (tx i).below b) (fun i => (ty i).below b) s2 zT
 rw [← hs] at HW0
 have HRd := shut (fun wi (b : Below w.heap.size w wi) => read_two P E hP s wi aL (h.below b))
 obtain ⟨p, hpp⟩ : ∃ p : Pl, p = ⟨A1, A2, A3, [x 0, x 1, x 2, x 3, x 4, x 5], [y 0, y 1, y 2, y 3, y 4, y 5]⟩ := ⟨_, rfl⟩
 rw [← hpp] at hp hr
 have l1 : p.pts.length ≤ 100000 := by rw [hpp]; show A1.length ≤ _; omega
 have l2 : p.segs.length ≤ 100000 := by rw [hpp]; show A2.length ≤ _; omega
 have l3 : p.holes.length ≤ 100000 := by rw [hpp]; show A3.length ≤ _; omega
 obtain ⟨cs, hcs⟩ : ∃ cs : List Value, cs = pl39 (.slice a1 n1 m1) (.slice a2 n2 m2) (.slice a3 n3 m3) (L18 x) (L18 y) := ⟨_, rfl⟩
 have HW : Hid (∀ wi, Below w.heap.size w wi → Calls Tryz.prog 52 #[.agg cs.toArray] wi (Re wi (.string s))) := by rw [hcs]; exact HW0
 rw [← hcs] at hp
 have HS := shut (fun wi (b : Below w.heap.size w wi) ds C (k : PlanAt wi C ds p) => psame_pl p cs ds B C wi (hp.below b) k l1 l2 l3)
 have hlc := hp.len
 clear HW0 hpp hs r1 r2 r3 t1 t3 tx ty s2 zT h l1 l2 l3 hp e1 e2 e3
 generalize psp P E s = r at *
 obtain ⟨pr, er0⟩ := r
 have g1 : ¬ 40 < n1 := by omega
 have g2 : ¬ 60 < n2 := by omega
 have g3 : ¬ 10 < n3 := by omega
 have g1' : ¬ (40 : Int) < (n1 : Int) := by omega
 have g2' : ¬ (60 : Int) < (n2 : Int) := by omega
 have g3' : ¬ (10 : Int) < (n3 : Int) := by omega
 clear h1 h2 h3
 go_enter Tryz.func23, Tryz.ntmps23
 go_upto_region 1 with fail
 obtain ⟨w0, hq, kz, b0⟩ := mk1 w [.slice a1 n1 m1, .slice a2 n2 m2, .slice a3 n3 m3, .bool (x 0).1, .string (x 0).2.1, .string (x 0).2.2, .bool (x 1).1, .string (x 1).2.1, .string (x 1).2.2, .bool (x 2).1, .string (x 2).2.1, .string (x 2).2.2, .bool (x 3).1, .string (x 3).2.1, .string (x 3).2.2, .bool (x 4).1, .string (x 4).2.1, .string (x 4).2.2, .bool (x 5).1, .string (x 5).2.1, .string (x 5).2.2, .bool (y 0).1, .string (y 0).2.1, .string (y 0).2.2, .bool (y 1).1, .string (y 1).2.1, .string (y 1).2.2, .bool (y 2).1, .string (y 2).2.1, .string (y 2).2.2, .bool (y 3).1, .string (y 3).2.1, .string (y 3).2.2, .bool (y 4).1, .string (y 4).2.1, .string (y 4).2.2, .bool (y 5).1, .string (y 5).2.1, .string (y 5).2.2] 46
 rw [← hq]
 clear hq
 have kz' : Cel w0 w.heap.size (pl39 (.slice a1 n1 m1) (.slice a2 n2 m2) (.slice a3 n3 m3) (L18 x) (L18 y)) 46 := kz
 clear kz
 rw [← hcs] at kz'
 generalize Value.agg #[.slice a1 n1 m1, .slice a2 n2 m2, .slice a3 n3 m3, .bool (x 0).1, .string (x 0).2.1, .string (x 0).2.2, .bool (x 1).1, .string (x 1).2.1, .string (x 1).2.2, .bool (x 2).1, .string (x 2).2.1, .string (x 2).2.2, .bool (x 3).1, .string (x 3).2.1, .string (x 3).2.2, .bool (x 4).1, .string (x 4).2.1, .string (x 4).2.2, .bool (x 5).1, .string (x 5).2.1, .string (x 5).2.2, .bool (y 0).1, .string (y 0).2.1, .string (y 0).2.2, .bool (y 1).1, .string (y 1).2.1, .string (y 1).2.2, .bool (y 2).1, .string (y 2).2.1, .string (y 2).2.2, .bool (y 3).1, .string (y 3).2.1, .string (y 3).2.2, .bool (y 4).1, .string (y 4).2.1, .string (y 4).2.2, .bool (y 5).1, .string (y 5).2.1, .string (y 5).2.2] = V0
 have c0 : w0.cell? ⟨w.heap.size, 0, none⟩ = some (.slice a1 n1 m1) := by rw [kz'.cell 0, hcs]; rfl
 have c1 : w0.cell? ⟨w.heap.size, 1, none⟩ = some (.slice a2 n2 m2) := by rw [kz'.cell 1, hcs]; rfl
 have c2 : w0.cell? ⟨w.heap.size, 2, none⟩ = some (.slice a3 n3 m3) := by rw [kz'.cell 2, hcs]; rfl
 clear hcs
 go_upto_region 3 with fail
 clear c0 c1 c2 g1 g2 g3 g1' g2' g3'
 go_upto_region 4 with (first | (refine wpList_load_row rfl 46 _ rfl _ rfl 46 cs.toArray (0, 0) _ kz' Tryz.underlying46 rfl (by rw [List.size_toArray, hlc]; kernel_rfl) ?_) | (go_at_call 52; refine (HW.out _ b0).mono ?_; rintro e w1 ⟨rfl, b1⟩; have B1 := Below.after b0 b1))
 have kz1 := kz'.below b1
 go_upto_region 5 with (go_at_call 42; refine (HRd.out _ B1).mono ?_; rintro e w2 ⟨ds, er, p', rfl, hq, b2, q0, q1⟩; have hlen := hq.len; obtain ⟨w3, hst, k3, b3⟩ := fresh39 w2 ds hq.len hq.one)
 have kz3 := (kz1.below b2).below b3
 have hq3 := hq.below b3
 have B3 := Below.after (Below.after B1 b2) b3
 clear hst hq b3 b2 b1 kz1 kz' b0 B1 HW HRd
 have rz := celA kz3
 have rd := celA k3
 by_cases he : er0 = 0
 ·obtain ⟨rfl, rfl⟩ := q0 he
  have hpe := hr he
  subst he
  rw [hpe] at hq3
  clear q0 q1 hr kz3 k3
  go_wp2_with (first | (refine wpList_load_midG (by rfl) 46 _ rfl w.heap.size 0 rfl cs _ rz Tryz.underlying46 rfl (by rw [hlc]; kernel_rfl) ?_) | (refine wpList_load_midG (by rfl) 46 _ rfl w2.heap.size 0 rfl ds _ rd Tryz.underlying46 rfl (by rw [hlen]; kernel_rfl) ?_) | (go_at_call 53; refine (HS.out _ B3 ds _ hq3).mono ?_; rintro e w4 ⟨rfl, b4⟩))
  go_ret2
  exact ⟨rfl, Below.after B3 b4⟩
 ·obtain ⟨q, rfl⟩ := q1 he
  clear q0 q1 hr kz3 k3 rz rd hq3
  go_wp2
  go_ret2
  exact ⟨rfl, B3⟩
end Go.Proofs.YtnplifkgeeicjaaGreatDoor
