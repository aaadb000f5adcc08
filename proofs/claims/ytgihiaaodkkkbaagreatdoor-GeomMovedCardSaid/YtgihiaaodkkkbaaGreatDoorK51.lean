/-
  Package span: one number less another.
-/
import Derived.Test.YtgihiaaodkkkbaaGreatDoorK50
namespace Go.Proofs.YtgihiaaodkkkbaaGreatDoor
open Go.RowKit

theorem NV.drew {w : World} {n : Bool} {v : Value} {z : Int} {L : Nat} (h : NV w n v z L) : NV w.drew n v z L := h
theorem post_nn {fn : Func} {p q : Tmp} {R : Ending → World → Prop} {a : Act} {w : World} {g g' : Nat} {x y x' y' : Value} (h : fn.results = #[.cell p 93, .cell q 93]) (hp : a.tmps.getD p undef = .pointer (some ⟨g, 0, none⟩)) (hq : a.tmps.getD q undef = .pointer (some ⟨g', 0, none⟩)) (hd : a.defers = [])
  (hc : Cel w g [x, y] 93) (hc' : Cel w g' [x', y'] 93) (hR : R (.returned (.tuple #[.agg #[x, y], .agg #[x', y']])) w) : bodyPost Tryz.prog fn R .ret a w := by
 refine ⟨hd, .tuple #[.agg #[x, y], .agg #[x', y']], ?_, hR⟩
 have hp' : a.tmps[p]?.getD undef = .pointer (some ⟨g, 0, none⟩) := by simpa using hp
 have hq' : a.tmps[q]?.getD undef = .pointer (some ⟨g', 0, none⟩) := by simpa using hq
 simp only [results, h]
 simp [Sem.run_bind, Result.andThen, hp', hq', asAddr, load_n hc, load_n hc']
set_option maxRecDepth 100000 in
set_option maxHeartbeats 8000000 in
theorem less_eq (n0 n1 : Bool) (s0 d0 s1 d1 : ByteArray) (z0 z1 D0 : Int) (L : Nat) (w : World) (hL : L ≤ 200)
  (H1 : Hid (∀ w1, Calls Tryz.prog 146 #[.agg #[.bool n0, .string s0]] w1 fun e w' => ∃ v, e = .returned (.agg #[.bool n0, v]) ∧ NV w' n0 v z0 L ∧ Below w1.heap.size w1 w'))
  (H2 : Hid (∀ w1, Calls Tryz.prog 146 #[.agg #[.bool n1, .string s1]] w1 fun e w' => ∃ v, e = .returned (.agg #[.bool n1, v]) ∧ NV w' n1 v z1 L ∧ Below w1.heap.size w1 w'))
  (H3 : Hid (∀ w1, Calls Tryz.prog 146 #[.agg #[.bool false, .string d0]] w1 fun e w' => ∃ v, e = .returned (.agg #[.bool false, v]) ∧ NV w' false v D0 L ∧ Below w1.heap.size w1 w')) (hd : (d0.toList == d1.toList) = true) :
  Calls Tryz.prog 113 #[.agg #[.bool n0, .string s0, .string d0], .agg #[.bool n1, .string s1, .string d1]] w fun e w' => ∃ m a l c a' l' c', e = .returned (.tuple #[.agg #[.bool m, .slice a l c], .agg #[.bool false, .slice a' l' c']]) ∧ NV w' m (.slice a l c) (z0 - z1) (L + 1) ∧ NV w' false (.slice a' l' c') (D0) (L) ∧ Below w.heap.size w w' := by
 go_enter Tryz.func113, Tryz.ntmps113
 go_wp2_with fail
 obtain ⟨w1, hw, ka, kb, kr, ks, b1⟩ := mk4 w [.bool n0, .string s0, .string d0] [.bool n1, .string s1, .string d1] [.bool false, .slice none 0 0] [.bool false, .slice none 0 0] 32 32 93 93
 rw [← hw]
 clear hw
 have sz := b1.size
 have ta := ka.lt
 have tb := kb.lt
 have tr := kr.lt
 have ts := ks.lt
 have bb := b1
 clear b1
 have mkS : ∀ w', Below w1.heap.size w1 w' → (Below w1.heap.size w1 w' ∧ w'.cell? ⟨w.heap.size, 0, none⟩ = some (.bool n0) ∧ w'.cell? ⟨w.heap.size, 1, none⟩ = some (.string s0) ∧ w'.cell? ⟨w.heap.size, 2, none⟩ = some (.string d0) ∧ w'.cell? ⟨w.heap.size + 1, 0, none⟩ = some (.bool n1) ∧ w'.cell? ⟨w.heap.size + 1, 1, none⟩ = some (.string s1) ∧ w'.cell? ⟨w.heap.size + 1, 2, none⟩ = some (.string d1)) := fun w' h => ⟨h, cel3_0 (ka.below h), cel3_1 (ka.below h), cel3_2 (ka.below h), cel3_0 (kb.below h), cel3_1 (kb.below h), cel3_2 (kb.below h)⟩
 have bcS : ∀ w', (Below w1.heap.size w1 w' ∧ w'.cell? ⟨w.heap.size, 0, none⟩ = some (.bool n0) ∧ w'.cell? ⟨w.heap.size, 1, none⟩ = some (.string s0) ∧ w'.cell? ⟨w.heap.size, 2, none⟩ = some (.string d0) ∧ w'.cell? ⟨w.heap.size + 1, 0, none⟩ = some (.bool n1) ∧ w'.cell? ⟨w.heap.size + 1, 1, none⟩ = some (.string s1) ∧ w'.cell? ⟨w.heap.size + 1, 2, none⟩ = some (.string d1)) → Below w1.heap.size w1 w' := fun w' h => h.1
 replace mkS := shut mkS
 replace bcS := shut bcS
 go_cut [6, 7] from 10 to 15 (fun v u wx => ∃ gc gd a1 l1 c1 a2 l2 c2, v = .pointer (some ⟨gc, 0, none⟩) ∧ u = .pointer (some ⟨gd, 0, none⟩) ∧ w1.heap.size ≤ gc ∧ w1.heap.size ≤ gd ∧ Cel wx gc [.bool n0, .slice a1 l1 c1] 93 ∧ Cel wx gd [.bool n1, .slice a2 l2 c2] 93 ∧ NV wx n0 (.slice a1 l1 c1) z0 L ∧ NV wx n1 (.slice a2 l2 c2) z1 L ∧ Below w1.heap.size w1 wx)
 case first =>
  clear H3
  refine wp_region_held_drew (S := (fun w' => Below w1.heap.size w1 w' ∧ w'.cell? ⟨w.heap.size, 0, none⟩ = some (.bool n0) ∧ w'.cell? ⟨w.heap.size, 1, none⟩ = some (.string s0) ∧ w'.cell? ⟨w.heap.size, 2, none⟩ = some (.string d0) ∧ w'.cell? ⟨w.heap.size + 1, 0, none⟩ = some (.bool n1) ∧ w'.cell? ⟨w.heap.size + 1, 1, none⟩ = some (.string s1) ∧ w'.cell? ⟨w.heap.size + 1, 2, none⟩ = some (.string d1))) (by kernel_rfl) (mkS.out _ (bdrew _)) (fun _ => ?_)
  refine absO 10 (by kernel_rfl) (fun ops q SP hops hq hSP => ?_)
  obtain ⟨fr, hfr⟩ : ∃ fr : Value → Value → Value → Value → Act, fr = (fun x6 x7 x12 x15 => { tmps := #[.agg #[.bool n0, .string s0, .string d0], .agg #[.bool n1, .string s1, .string d1], .pointer (some ⟨w.heap.size, 0, none⟩), .pointer (some ⟨w.heap.size + 1, 0, none⟩), .pointer (some ⟨w.heap.size + 1 + 1, 0, none⟩), .pointer (some ⟨w.heap.size + 1 + 1 + 1, 0, none⟩), x6, x7, undef, undef, .pointer (some ⟨w.heap.size, 0, none⟩), .agg #[.bool n0, .string s0], x12, .pointer (some ⟨w.heap.size + 1, 0, none⟩), .agg #[.bool n1, .string s1], x15, undef, undef, undef, undef, undef, undef, undef, undef, undef, undef, undef, undef, undef, undef, undef, undef, undef, undef, undef, undef, undef, undef, undef, undef, undef, undef, undef], defers := [] }) := ⟨_, rfl⟩
  have L2_01 : Hid (∀ (g0 : Nat) (g1 : Nat) (a1 : Option Addr) (l1 : Nat) (c1 : Nat) (a2 : Option Addr) (l2 : Nat) (c2 : Nat) (w' : World) (hS : SP w') (k0 : Cel w' g0 [.bool false, .slice none 0 0] 93) (h0 : w1.heap.size ≤ g0) (k1 : Cel w' g1 [.bool false, .slice none 0 0] 93) (h1 : w1.heap.size ≤ g1) (n01 : ¬ g0 = g1) (nv1 : NV w' n0 (.slice a1 l1 c1) z0 L) (nv2 : NV w' n1 (.slice a2 l2 c2) z1 L), wpAnyH Tryz.prog .any ops q SP 2 (ls 10 [0, 1, 2, 3, 4, 5, 6, 7]) (fr (.pointer (some ⟨g0, 0, none⟩)) (.pointer (some ⟨g1, 0, none⟩)) (.agg #[.bool n0, .slice a1 l1 c1]) (.agg #[.bool n1, .slice a2 l2 c2])) w') := by
   subst hops hq hSP hfr
   intro g0 g1 a1 l1 c1 a2 l2 c2 w' hS k0 h0 k1 h1 n01 nv1 nv2
   have bc := bcS.out _ hS
   dsimp only
   have e0_0 := cel2_0' k0
   have f0_0 := Cel.frozen k0 0
   have e0_1 := cel2_1' k0
   have f0_1 := Cel.frozen k0 1
   refine rdy [8] (by kernel_rfl) ?_
   refine AllReadyH.cons (o := _) rfl (fun K hK => ?_) AllReadyH.nil
   simp only [List.getElem_toArray, List.getElem_cons_succ, List.getElem_cons_zero]
   go_simp
   try go_wp2_with fail
   clear e0_0 f0_0 e0_1 f0_1
   refine hK.out _ _ (mkS.out _ (bset (bset bc h0 0 (.bool n0)) h0 1 (.slice a1 l1 c1))) (fun hS => ?_)
   clear hK K
   replace nv1 := nv1.set2 k0 (.bool n0) (.slice a1 l1 c1)
   replace nv2 := nv2.set2 k0 (.bool n0) (.slice a1 l1 c1)
   replace k0 := (Cel.set (Cel.set k0 0 (.bool n0)) 1 (.slice a1 l1 c1))
   replace k1 := (Cel.other (Cel.other k1 (fun e => n01 e.symm) 0 (.bool n0)) (fun e => n01 e.symm) 1 (.slice a1 l1 c1))
   replace bc := (bset (bset bc h0 0 (.bool n0)) h0 1 (.slice a1 l1 c1))
   have e1_0 := cel2_0' k1
   have f1_0 := Cel.frozen k1 0
   have e1_1 := cel2_1' k1
   have f1_1 := Cel.frozen k1 1
   refine rdy [9] (by kernel_rfl) ?_
   refine AllReadyH.cons (o := _) rfl (fun K hK => ?_) AllReadyH.nil
   simp only [List.getElem_toArray, List.getElem_cons_succ, List.getElem_cons_zero]
   go_simp
   try go_wp2_with fail
   clear e1_0 f1_0 e1_1 f1_1
   refine hK.out _ _ (mkS.out _ (bset (bset bc h1 0 (.bool n1)) h1 1 (.slice a2 l2 c2))) (fun hS => ?_)
   clear hK K
   replace nv1 := nv1.set2 k1 (.bool n1) (.slice a2 l2 c2)
   replace nv2 := nv2.set2 k1 (.bool n1) (.slice a2 l2 c2)
   replace k0 := (Cel.other (Cel.other k0 n01 0 (.bool n1)) n01 1 (.slice a2 l2 c2))
   replace k1 := (Cel.set (Cel.set k1 0 (.bool n1)) 1 (.slice a2 l2 c2))
   replace bc := (bset (bset bc h1 0 (.bool n1)) h1 1 (.slice a2 l2 c2))
   refine wpAnyH_done (by kernel_rfl) ?_ _
   go_wp2_with fail
   go_meet
   exact ⟨_, _, a1, l1, c1, a2, l2, c2, rfl, rfl, h0, h1, k0, k1, nv1, nv2, bc⟩
  have L2_0 : Hid (∀ (g0 : Nat) (a1 : Option Addr) (l1 : Nat) (c1 : Nat) (a2 : Option Addr) (l2 : Nat) (c2 : Nat) (w' : World) (hS : SP w') (k0 : Cel w' g0 [.bool false, .slice none 0 0] 93) (h0 : w1.heap.size ≤ g0) (nv1 : NV w' n0 (.slice a1 l1 c1) z0 L) (nv2 : NV w' n1 (.slice a2 l2 c2) z1 L), wpAnyH Tryz.prog .any ops q SP 3 (ls 10 [0, 1, 2, 3, 4, 5, 6]) (fr (.pointer (some ⟨g0, 0, none⟩)) undef (.agg #[.bool n0, .slice a1 l1 c1]) (.agg #[.bool n1, .slice a2 l2 c2])) w') := by
   subst hops hq hSP hfr
   intro g0 a1 l1 c1 a2 l2 c2 w' hS k0 h0 nv1 nv2
   have bc := bcS.out _ hS
   dsimp only
   refine rdy [7] (by kernel_rfl) ?_
   refine AllReadyH.cons (o := _) rfl (fun K hK => ?_) AllReadyH.nil
   ·simp only [List.getElem_toArray, List.getElem_cons_succ, List.getElem_cons_zero]
    go_simp
    try go_wp2_with fail
    refine hK.out _ _ (mkS.out _ (ba bc _)) (fun hS => ?_)
    clear hK K
    exact lst (L2_01.out g0 _ a1 l1 c1 a2 l2 c2 _ hS (k0.alloc _) h0 (Cel.new w' _ _) bc.size (by have := k0.lt; omega) (nv1.below (bel_al _ _)) (nv2.below (bel_al _ _))) (by kernel_rfl)
  have L2_1 : Hid (∀ (g1 : Nat) (a1 : Option Addr) (l1 : Nat) (c1 : Nat) (a2 : Option Addr) (l2 : Nat) (c2 : Nat) (w' : World) (hS : SP w') (k1 : Cel w' g1 [.bool false, .slice none 0 0] 93) (h1 : w1.heap.size ≤ g1) (nv1 : NV w' n0 (.slice a1 l1 c1) z0 L) (nv2 : NV w' n1 (.slice a2 l2 c2) z1 L), wpAnyH Tryz.prog .any ops q SP 3 (ls 10 [0, 1, 2, 3, 4, 5, 7]) (fr undef (.pointer (some ⟨g1, 0, none⟩)) (.agg #[.bool n0, .slice a1 l1 c1]) (.agg #[.bool n1, .slice a2 l2 c2])) w') := by
   clear L2_0
   subst hops hq hSP hfr
   intro g1 a1 l1 c1 a2 l2 c2 w' hS k1 h1 nv1 nv2
   have bc := bcS.out _ hS
   dsimp only
   refine rdy [6] (by kernel_rfl) ?_
   refine AllReadyH.cons (o := _) rfl (fun K hK => ?_) AllReadyH.nil
   ·simp only [List.getElem_toArray, List.getElem_cons_succ, List.getElem_cons_zero]
    go_simp
    try go_wp2_with fail
    refine hK.out _ _ (mkS.out _ (ba bc _)) (fun hS => ?_)
    clear hK K
    exact lst (L2_01.out _ g1 a1 l1 c1 a2 l2 c2 _ hS (Cel.new w' _ _) bc.size (k1.alloc _) h1 (by have := k1.lt; omega) (nv1.below (bel_al _ _)) (nv2.below (bel_al _ _))) (by kernel_rfl)
  have L2_ : Hid (∀ (a1 : Option Addr) (l1 : Nat) (c1 : Nat) (a2 : Option Addr) (l2 : Nat) (c2 : Nat) (w' : World) (hS : SP w') (nv1 : NV w' n0 (.slice a1 l1 c1) z0 L) (nv2 : NV w' n1 (.slice a2 l2 c2) z1 L), wpAnyH Tryz.prog .any ops q SP 4 (ls 10 [0, 1, 2, 3, 4, 5]) (fr undef undef (.agg #[.bool n0, .slice a1 l1 c1]) (.agg #[.bool n1, .slice a2 l2 c2])) w') := by
   clear L2_01
   subst hops hq hSP hfr
   intro a1 l1 c1 a2 l2 c2 w' hS nv1 nv2
   have bc := bcS.out _ hS
   dsimp only
   refine rdy [6, 7] (by kernel_rfl) ?_
   refine AllReadyH.cons (o := _) rfl (fun K hK => ?_) (AllReadyH.cons (o := _) rfl (fun K hK => ?_) AllReadyH.nil)
   ·simp only [List.getElem_toArray, List.getElem_cons_succ, List.getElem_cons_zero]
    go_simp
    try go_wp2_with fail
    refine hK.out _ _ (mkS.out _ (ba bc _)) (fun hS => ?_)
    clear hK K
    exact lst (L2_0.out _ a1 l1 c1 a2 l2 c2 _ hS (Cel.new w' _ _) bc.size (nv1.below (bel_al _ _)) (nv2.below (bel_al _ _))) (by kernel_rfl)
   ·simp only [List.getElem_toArray, List.getElem_cons_succ, List.getElem_cons_zero]
    go_simp
    try go_wp2_with fail
    refine hK.out _ _ (mkS.out _ (ba bc _)) (fun hS => ?_)
    clear hK K
    exact lst (L2_1.out _ a1 l1 c1 a2 l2 c2 _ hS (Cel.new w' _ _) bc.size (nv1.below (bel_al _ _)) (nv2.below (bel_al _ _))) (by kernel_rfl)
  have L1_01 : Hid (∀ (g0 : Nat) (g1 : Nat) (a1 : Option Addr) (l1 : Nat) (c1 : Nat) (w' : World) (hS : SP w') (k0 : Cel w' g0 [.bool false, .slice none 0 0] 93) (h0 : w1.heap.size ≤ g0) (k1 : Cel w' g1 [.bool false, .slice none 0 0] 93) (h1 : w1.heap.size ≤ g1) (n01 : ¬ g0 = g1) (nv1 : NV w' n0 (.slice a1 l1 c1) z0 L), wpAnyH Tryz.prog .any ops q SP 3 (ls 10 [0, 1, 2, 3, 4, 6, 7]) (fr (.pointer (some ⟨g0, 0, none⟩)) (.pointer (some ⟨g1, 0, none⟩)) (.agg #[.bool n0, .slice a1 l1 c1]) undef) w') := by
   clear L2_0 L2_1 L2_
   subst hops hq hSP hfr
   intro g0 g1 a1 l1 c1 w' hS k0 h0 k1 h1 n01 nv1
   have bc := bcS.out _ hS
   dsimp only
   refine rdy [5] (by kernel_rfl) ?_
   refine AllReadyH.cons (o := _) rfl (fun K hK => ?_) AllReadyH.nil
   ·simp only [List.getElem_toArray, List.getElem_cons_succ, List.getElem_cons_zero]
    go_simp
    go_fit (H2.out _)
    rintro e wn ⟨v2, rfl, nv2, bn⟩
    obtain ⟨a2, l2, c2, rfl⟩ := nv2.slice
    have bcn := Below.after bc bn
    try go_wp2_with fail
    refine hK.out _ _ (mkS.out _ bcn) (fun hS => ?_)
    clear hK K
    exact lst (L2_01.out g0 g1 a1 l1 c1 a2 l2 c2 wn hS (k0.below bn) h0 (k1.below bn) h1 n01 (nv1.below bn) nv2) (by kernel_rfl)
  have L1_0 : Hid (∀ (g0 : Nat) (a1 : Option Addr) (l1 : Nat) (c1 : Nat) (w' : World) (hS : SP w') (k0 : Cel w' g0 [.bool false, .slice none 0 0] 93) (h0 : w1.heap.size ≤ g0) (nv1 : NV w' n0 (.slice a1 l1 c1) z0 L), wpAnyH Tryz.prog .any ops q SP 4 (ls 10 [0, 1, 2, 3, 4, 6]) (fr (.pointer (some ⟨g0, 0, none⟩)) undef (.agg #[.bool n0, .slice a1 l1 c1]) undef) w') := by
   clear L2_01 L2_1 L2_
   subst hops hq hSP hfr
   intro g0 a1 l1 c1 w' hS k0 h0 nv1
   have bc := bcS.out _ hS
   dsimp only
   refine rdy [5, 7] (by kernel_rfl) ?_
   refine AllReadyH.cons (o := _) rfl (fun K hK => ?_) (AllReadyH.cons (o := _) rfl (fun K hK => ?_) AllReadyH.nil)
   ·simp only [List.getElem_toArray, List.getElem_cons_succ, List.getElem_cons_zero]
    go_simp
    go_fit (H2.out _)
    rintro e wn ⟨v2, rfl, nv2, bn⟩
    obtain ⟨a2, l2, c2, rfl⟩ := nv2.slice
    have bcn := Below.after bc bn
    try go_wp2_with fail
    refine hK.out _ _ (mkS.out _ bcn) (fun hS => ?_)
    clear hK K
    exact lst (L2_0.out g0 a1 l1 c1 a2 l2 c2 wn hS (k0.below bn) h0 (nv1.below bn) nv2) (by kernel_rfl)
   ·simp only [List.getElem_toArray, List.getElem_cons_succ, List.getElem_cons_zero]
    go_simp
    try go_wp2_with fail
    refine hK.out _ _ (mkS.out _ (ba bc _)) (fun hS => ?_)
    clear hK K
    exact lst (L1_01.out g0 _ a1 l1 c1 _ hS (k0.alloc _) h0 (Cel.new w' _ _) bc.size (by have := k0.lt; omega) (nv1.below (bel_al _ _))) (by kernel_rfl)
  have L1_1 : Hid (∀ (g1 : Nat) (a1 : Option Addr) (l1 : Nat) (c1 : Nat) (w' : World) (hS : SP w') (k1 : Cel w' g1 [.bool false, .slice none 0 0] 93) (h1 : w1.heap.size ≤ g1) (nv1 : NV w' n0 (.slice a1 l1 c1) z0 L), wpAnyH Tryz.prog .any ops q SP 4 (ls 10 [0, 1, 2, 3, 4, 7]) (fr undef (.pointer (some ⟨g1, 0, none⟩)) (.agg #[.bool n0, .slice a1 l1 c1]) undef) w') := by
   clear L2_01 L2_0 L2_ L1_0
   subst hops hq hSP hfr
   intro g1 a1 l1 c1 w' hS k1 h1 nv1
   have bc := bcS.out _ hS
   dsimp only
   refine rdy [5, 6] (by kernel_rfl) ?_
   refine AllReadyH.cons (o := _) rfl (fun K hK => ?_) (AllReadyH.cons (o := _) rfl (fun K hK => ?_) AllReadyH.nil)
   ·simp only [List.getElem_toArray, List.getElem_cons_succ, List.getElem_cons_zero]
    go_simp
    go_fit (H2.out _)
    rintro e wn ⟨v2, rfl, nv2, bn⟩
    obtain ⟨a2, l2, c2, rfl⟩ := nv2.slice
    have bcn := Below.after bc bn
    try go_wp2_with fail
    refine hK.out _ _ (mkS.out _ bcn) (fun hS => ?_)
    clear hK K
    exact lst (L2_1.out g1 a1 l1 c1 a2 l2 c2 wn hS (k1.below bn) h1 (nv1.below bn) nv2) (by kernel_rfl)
   ·simp only [List.getElem_toArray, List.getElem_cons_succ, List.getElem_cons_zero]
    go_simp
    try go_wp2_with fail
    refine hK.out _ _ (mkS.out _ (ba bc _)) (fun hS => ?_)
    clear hK K
    exact lst (L1_01.out _ g1 a1 l1 c1 _ hS (Cel.new w' _ _) bc.size (k1.alloc _) h1 (by have := k1.lt; omega) (nv1.below (bel_al _ _))) (by kernel_rfl)
  have L1_ : Hid (∀ (a1 : Option Addr) (l1 : Nat) (c1 : Nat) (w' : World) (hS : SP w') (nv1 : NV w' n0 (.slice a1 l1 c1) z0 L), wpAnyH Tryz.prog .any ops q SP 5 (ls 10 [0, 1, 2, 3, 4]) (fr undef undef (.agg #[.bool n0, .slice a1 l1 c1]) undef) w') := by
   clear L2_01 L2_0 L2_1 L1_01
   subst hops hq hSP hfr
   intro a1 l1 c1 w' hS nv1
   have bc := bcS.out _ hS
   dsimp only
   refine rdy [5, 6, 7] (by kernel_rfl) ?_
   refine AllReadyH.cons (o := _) rfl (fun K hK => ?_) (AllReadyH.cons (o := _) rfl (fun K hK => ?_) (AllReadyH.cons (o := _) rfl (fun K hK => ?_) AllReadyH.nil))
   ·simp only [List.getElem_toArray, List.getElem_cons_succ, List.getElem_cons_zero]
    go_simp
    go_fit (H2.out _)
    rintro e wn ⟨v2, rfl, nv2, bn⟩
    obtain ⟨a2, l2, c2, rfl⟩ := nv2.slice
    have bcn := Below.after bc bn
    try go_wp2_with fail
    refine hK.out _ _ (mkS.out _ bcn) (fun hS => ?_)
    clear hK K
    exact lst (L2_.out a1 l1 c1 a2 l2 c2 wn hS (nv1.below bn) nv2) (by kernel_rfl)
   ·simp only [List.getElem_toArray, List.getElem_cons_succ, List.getElem_cons_zero]
    go_simp
    try go_wp2_with fail
    refine hK.out _ _ (mkS.out _ (ba bc _)) (fun hS => ?_)
    clear hK K
    exact lst (L1_0.out _ a1 l1 c1 _ hS (Cel.new w' _ _) bc.size (nv1.below (bel_al _ _))) (by kernel_rfl)
   ·simp only [List.getElem_toArray, List.getElem_cons_succ, List.getElem_cons_zero]
    go_simp
    try go_wp2_with fail
    refine hK.out _ _ (mkS.out _ (ba bc _)) (fun hS => ?_)
    clear hK K
    exact lst (L1_1.out _ a1 l1 c1 _ hS (Cel.new w' _ _) bc.size (nv1.below (bel_al _ _))) (by kernel_rfl)
  have L0_01 : Hid (∀ (g0 : Nat) (g1 : Nat) (w' : World) (hS : SP w') (k0 : Cel w' g0 [.bool false, .slice none 0 0] 93) (h0 : w1.heap.size ≤ g0) (k1 : Cel w' g1 [.bool false, .slice none 0 0] 93) (h1 : w1.heap.size ≤ g1) (n01 : ¬ g0 = g1), wpAnyH Tryz.prog .any ops q SP 4 (ls 10 [0, 1, 3, 4, 6, 7]) (fr (.pointer (some ⟨g0, 0, none⟩)) (.pointer (some ⟨g1, 0, none⟩)) undef undef) w') := by
   clear L2_01 L2_0 L2_1 L2_ L1_0 L1_1 L1_
   subst hops hq hSP hfr
   intro g0 g1 w' hS k0 h0 k1 h1 n01
   have bc := bcS.out _ hS
   dsimp only
   refine rdy [2] (by kernel_rfl) ?_
   refine AllReadyH.cons (o := _) rfl (fun K hK => ?_) AllReadyH.nil
   ·simp only [List.getElem_toArray, List.getElem_cons_succ, List.getElem_cons_zero]
    go_simp
    go_fit (H1.out _)
    rintro e wn ⟨v1, rfl, nv1, bn⟩
    obtain ⟨a1, l1, c1, rfl⟩ := nv1.slice
    have bcn := Below.after bc bn
    try go_wp2_with fail
    refine hK.out _ _ (mkS.out _ bcn) (fun hS => ?_)
    clear hK K
    exact lst (L1_01.out g0 g1 a1 l1 c1 wn hS (k0.below bn) h0 (k1.below bn) h1 n01 nv1) (by kernel_rfl)
  have L0_0 : Hid (∀ (g0 : Nat) (w' : World) (hS : SP w') (k0 : Cel w' g0 [.bool false, .slice none 0 0] 93) (h0 : w1.heap.size ≤ g0), wpAnyH Tryz.prog .any ops q SP 5 (ls 10 [0, 1, 3, 4, 6]) (fr (.pointer (some ⟨g0, 0, none⟩)) undef undef undef) w') := by
   clear L2_01 L2_0 L2_1 L2_ L1_01 L1_1 L1_
   subst hops hq hSP hfr
   intro g0 w' hS k0 h0
   have bc := bcS.out _ hS
   dsimp only
   refine rdy [2, 7] (by kernel_rfl) ?_
   refine AllReadyH.cons (o := _) rfl (fun K hK => ?_) (AllReadyH.cons (o := _) rfl (fun K hK => ?_) AllReadyH.nil)
   ·simp only [List.getElem_toArray, List.getElem_cons_succ, List.getElem_cons_zero]
    go_simp
    go_fit (H1.out _)
    rintro e wn ⟨v1, rfl, nv1, bn⟩
    obtain ⟨a1, l1, c1, rfl⟩ := nv1.slice
    have bcn := Below.after bc bn
    try go_wp2_with fail
    refine hK.out _ _ (mkS.out _ bcn) (fun hS => ?_)
    clear hK K
    exact lst (L1_0.out g0 a1 l1 c1 wn hS (k0.below bn) h0 nv1) (by kernel_rfl)
   ·simp only [List.getElem_toArray, List.getElem_cons_succ, List.getElem_cons_zero]
    go_simp
    try go_wp2_with fail
    refine hK.out _ _ (mkS.out _ (ba bc _)) (fun hS => ?_)
    clear hK K
    exact lst (L0_01.out g0 _ _ hS (k0.alloc _) h0 (Cel.new w' _ _) bc.size (by have := k0.lt; omega)) (by kernel_rfl)
  have L0_1 : Hid (∀ (g1 : Nat) (w' : World) (hS : SP w') (k1 : Cel w' g1 [.bool false, .slice none 0 0] 93) (h1 : w1.heap.size ≤ g1), wpAnyH Tryz.prog .any ops q SP 5 (ls 10 [0, 1, 3, 4, 7]) (fr undef (.pointer (some ⟨g1, 0, none⟩)) undef undef) w') := by
   clear L2_01 L2_0 L2_1 L2_ L1_01 L1_0 L1_ L0_0
   subst hops hq hSP hfr
   intro g1 w' hS k1 h1
   have bc := bcS.out _ hS
   dsimp only
   refine rdy [2, 6] (by kernel_rfl) ?_
   refine AllReadyH.cons (o := _) rfl (fun K hK => ?_) (AllReadyH.cons (o := _) rfl (fun K hK => ?_) AllReadyH.nil)
   ·simp only [List.getElem_toArray, List.getElem_cons_succ, List.getElem_cons_zero]
    go_simp
    go_fit (H1.out _)
    rintro e wn ⟨v1, rfl, nv1, bn⟩
    obtain ⟨a1, l1, c1, rfl⟩ := nv1.slice
    have bcn := Below.after bc bn
    try go_wp2_with fail
    refine hK.out _ _ (mkS.out _ bcn) (fun hS => ?_)
    clear hK K
    exact lst (L1_1.out g1 a1 l1 c1 wn hS (k1.below bn) h1 nv1) (by kernel_rfl)
   ·simp only [List.getElem_toArray, List.getElem_cons_succ, List.getElem_cons_zero]
    go_simp
    try go_wp2_with fail
    refine hK.out _ _ (mkS.out _ (ba bc _)) (fun hS => ?_)
    clear hK K
    exact lst (L0_01.out _ g1 _ hS (Cel.new w' _ _) bc.size (k1.alloc _) h1 (by have := k1.lt; omega)) (by kernel_rfl)
  have L0_ : Hid (∀ (w' : World) (hS : SP w'), wpAnyH Tryz.prog .any ops q SP 6 (ls 10 [0, 1, 3, 4]) (fr undef undef undef undef) w') := by
   clear L2_01 L2_0 L2_1 L2_ L1_01 L1_0 L1_1 L0_01
   subst hops hq hSP hfr
   intro w' hS
   have bc := bcS.out _ hS
   dsimp only
   refine rdy [2, 6, 7] (by kernel_rfl) ?_
   refine AllReadyH.cons (o := _) rfl (fun K hK => ?_) (AllReadyH.cons (o := _) rfl (fun K hK => ?_) (AllReadyH.cons (o := _) rfl (fun K hK => ?_) AllReadyH.nil))
   ·simp only [List.getElem_toArray, List.getElem_cons_succ, List.getElem_cons_zero]
    go_simp
    go_fit (H1.out _)
    rintro e wn ⟨v1, rfl, nv1, bn⟩
    obtain ⟨a1, l1, c1, rfl⟩ := nv1.slice
    have bcn := Below.after bc bn
    try go_wp2_with fail
    refine hK.out _ _ (mkS.out _ bcn) (fun hS => ?_)
    clear hK K
    exact lst (L1_.out a1 l1 c1 wn hS nv1) (by kernel_rfl)
   ·simp only [List.getElem_toArray, List.getElem_cons_succ, List.getElem_cons_zero]
    go_simp
    try go_wp2_with fail
    refine hK.out _ _ (mkS.out _ (ba bc _)) (fun hS => ?_)
    clear hK K
    exact lst (L0_0.out _ _ hS (Cel.new w' _ _) bc.size) (by kernel_rfl)
   ·simp only [List.getElem_toArray, List.getElem_cons_succ, List.getElem_cons_zero]
    go_simp
    try go_wp2_with fail
    refine hK.out _ _ (mkS.out _ (ba bc _)) (fun hS => ?_)
    clear hK K
    exact lst (L0_1.out _ _ hS (Cel.new w' _ _) bc.size) (by kernel_rfl)
  clear L2_01 L2_0 L2_1 L2_ L1_01 L1_0 L1_1 L1_ L0_01 L0_0 L0_1
  subst hops hq hSP hfr
  refine wpAnyH_take (i := 0) (oi := _) (v := ?_) rfl (by kernel_rfl) (by kernel_rfl) (by kernel_rfl) (fun _ _ _ h => h) (Or.inl ⟨by rfl, ?_⟩) (by assumption) ?_
  rotate_left
  ·(intro w hSw; (try dsimp only at hSw); go_simp; try with_reducible rfl)
  try simp only [Act.put, List.getElem_toArray, List.getElem_cons_zero, List.setIfInBounds_toArray, List.set_cons_zero, List.set_cons_succ]
  refine wpAnyH_take (i := 1) (oi := _) (v := ?_) rfl (by kernel_rfl) (by kernel_rfl) (by kernel_rfl) (fun _ _ _ h => h) (Or.inl ⟨by rfl, ?_⟩) (by assumption) ?_
  rotate_left
  ·(intro w hSw; (try dsimp only at hSw); go_simp; try with_reducible rfl)
  try simp only [Act.put, List.getElem_toArray, List.getElem_cons_succ, List.getElem_cons_zero, List.setIfInBounds_toArray, List.set_cons_zero, List.set_cons_succ]
  refine wpAnyH_take (i := 3) (oi := _) (v := ?_) rfl (by kernel_rfl) (by kernel_rfl) (by kernel_rfl) (fun _ _ _ h => h) (Or.inl ⟨by rfl, ?_⟩) (by assumption) ?_
  rotate_left
  ·(intro w hSw; (try dsimp only at hSw); go_simp; try with_reducible rfl)
  try simp only [Act.put, List.getElem_toArray, List.getElem_cons_succ, List.getElem_cons_zero, List.setIfInBounds_toArray, List.set_cons_zero, List.set_cons_succ]
  refine wpAnyH_take (i := 4) (oi := _) (v := ?_) rfl (by kernel_rfl) (by kernel_rfl) (by kernel_rfl) (fun _ _ _ h => h) (Or.inl ⟨by rfl, ?_⟩) (by assumption) ?_
  rotate_left
  ·(intro w hSw; (try dsimp only at hSw); go_simp; try with_reducible rfl)
  try simp only [Act.put, List.getElem_toArray, List.getElem_cons_succ, List.getElem_cons_zero, List.setIfInBounds_toArray, List.set_cons_zero, List.set_cons_succ]
  exact lst (L0_.out _ (mkS.out _ (bdrew _))) (by kernel_rfl)
 case rest =>
 obtain ⟨gx, gy, a1, l1, c1, a2, l2, c2, rfl, rfl, lx, ly, kx, ky, nv1, nv2, b1⟩ := hcut
 clear mkS bcS
 have sz := b1.size
 replace ka := ka.below b1
 replace kb := kb.below b1
 replace kr := kr.below b1
 replace ks := ks.below b1
 replace bb := Below.after bb b1
 clear b1
 have tx := kx.lt
 have ty := ky.lt
 have ca := cel3_2 ka
 go_wp2_with fail
 go_fit (H3.out _)
 rintro e w3 ⟨v3, rfl, nv3, b1⟩
 obtain ⟨a3, l3, c3, rfl⟩ := nv3.slice
 replace ka := ka.below b1
 replace kb := kb.below b1
 replace kr := kr.below b1
 replace ks := ks.below b1
 replace kx := kx.below b1
 replace ky := ky.below b1
 replace nv1 := nv1.below b1
 replace nv2 := nv2.below b1
 replace bb := Below.after bb b1
 have sq0 := b1.size
 clear b1
 clear ca
 have ca := cel3_2 (ka.alloc (.cells #[.bool false, .slice a3 l3 c3] 93))
 have cb := cel3_2 (kb.alloc (.cells #[.bool false, .slice a3 l3 c3] 93))
 go_wp2_with fail
 obtain ⟨w4, hw, kz, b1⟩ := mk1 w3 [.bool false, .slice a3 l3 c3] 93
 rw [← hw]
 clear hw
 replace ka := ka.below b1
 replace kb := kb.below b1
 replace kr := kr.below b1
 replace ks := ks.below b1
 replace kx := kx.below b1
 replace ky := ky.below b1
 replace nv1 := nv1.below b1
 replace nv2 := nv2.below b1
 replace nv3 := nv3.below b1
 replace bb := Below.after bb b1
 have sq1 := b1.size
 have tz := kz.lt
 have sz := b1.size
 clear b1
 clear ca cb
 have tr' := kr.lt
 have mkS : Hid (∀ w', Cel w' (gx) [.bool n0, .slice a1 l1 c1] 93 → Cel w' (gy) [.bool n1, .slice a2 l2 c2] 93 → Cel w' (w3.heap.size) [.bool false, .slice a3 l3 c3] 93 → (w'.cell? ⟨gx, 0, none⟩ = some (.bool n0) ∧ w'.cell? ⟨gx, 1, none⟩ = some (.slice a1 l1 c1) ∧ w'.cell? ⟨gy, 0, none⟩ = some (.bool n1) ∧ w'.cell? ⟨gy, 1, none⟩ = some (.slice a2 l2 c2) ∧ w'.cell? ⟨w3.heap.size, 0, none⟩ = some (.bool false) ∧ w'.cell? ⟨w3.heap.size, 1, none⟩ = some (.slice a3 l3 c3))) := fun w' hx hy hz => ⟨cel2_0 hx, cel2_1 hx, cel2_0 hy, cel2_1 hy, cel2_0 hz, cel2_1 hz⟩
 have qxr : gx ≠ w.heap.size + 1 + 1 := by omega
 have qyr : gy ≠ w.heap.size + 1 + 1 := by omega
 have qzr : w3.heap.size ≠ w.heap.size + 1 + 1 := by omega
 have qxs : gx ≠ w.heap.size + 1 + 1 + 1 := by omega
 have qys : gy ≠ w.heap.size + 1 + 1 + 1 := by omega
 have qzs : w3.heap.size ≠ w.heap.size + 1 + 1 + 1 := by omega
 go_region_held3 (fun w' => w'.cell? ⟨gx, 0, none⟩ = some (.bool n0) ∧ w'.cell? ⟨gx, 1, none⟩ = some (.slice a1 l1 c1) ∧ w'.cell? ⟨gy, 0, none⟩ = some (.bool n1) ∧ w'.cell? ⟨gy, 1, none⟩ = some (.slice a2 l2 c2) ∧ w'.cell? ⟨w3.heap.size, 0, none⟩ = some (.bool false) ∧ w'.cell? ⟨w3.heap.size, 1, none⟩ = some (.slice a3 l3 c3)) (first | with_reducible exact mkS.out _ kx ky kz | with_reducible exact mkS.out _ (Cel.other (Cel.other kx qxr 0 _) qxr 1 _) (Cel.other (Cel.other ky qyr 0 _) qyr 1 _) (Cel.other (Cel.other kz qzr 0 _) qzr 1 _) | with_reducible exact mkS.out _ (Cel.other (Cel.other (Cel.other (Cel.other kx qxr 0 _) qxr 1 _) qxs 0 _) qxs 1 _) (Cel.other (Cel.other (Cel.other (Cel.other ky qyr 0 _) qyr 1 _) qys 0 _) qys 1 _) (Cel.other (Cel.other (Cel.other (Cel.other kz qzr 0 _) qzr 1 _) qzs 0 _) qzs 1 _) | exact mkS.out _ kx ky kz) (first | (go_at_call 115; go_fit (nminus_any _ _ _ _ z0 z1 L _ (by omega) ?_ ?_); (first | exact nv1 | exact nv1.drew); (first | exact nv2 | exact nv2.drew); rintro e wn ⟨m5, v5, rfl, nv5, bn⟩; obtain ⟨a5, l5, c5, rfl⟩ := nv5.slice; replace kr := kr.below ⟨bn.os, bn.tape, bn.output, bn.size, bn.block⟩; replace ks := ks.below ⟨bn.os, bn.tape, bn.output, bn.size, bn.block⟩; replace kx := kx.below ⟨bn.os, bn.tape, bn.output, bn.size, bn.block⟩; replace ky := ky.below ⟨bn.os, bn.tape, bn.output, bn.size, bn.block⟩; replace kz := kz.below ⟨bn.os, bn.tape, bn.output, bn.size, bn.block⟩; (try replace nv1 := nv1.below ⟨bn.os, bn.tape, bn.output, bn.size, bn.block⟩); (try replace nv2 := nv2.below ⟨bn.os, bn.tape, bn.output, bn.size, bn.block⟩); (try replace nv3 := nv3.below ⟨bn.os, bn.tape, bn.output, bn.size, bn.block⟩); replace bb := Below.after bb ⟨bn.os, bn.tape, bn.output, bn.size, bn.block⟩; have er0 := cel2_0 kr; have fr0 := Cel.frozen kr 0; have er1 := cel2_1 kr; have fr1 := Cel.frozen kr 1; have es0 := cel2_0 ks; have fs0 := Cel.frozen ks 0; have es1 := cel2_1 ks; have fs1 := Cel.frozen ks 1) | fail)
 replace nv5 := shut nv5
 replace nv3 := shut nv3
 go_wp2
 exact post_nn (p := 4) (q := 5) (by kernel_rfl) rfl rfl rfl ((((kr.set 0 _).set 1 _).other (by omega) _ _).other (by omega) _ _) ((((ks.other (by omega) _ _).other (by omega) _ _).set 0 _).set 1 _) ⟨_, _, _, _, _, _, _, rfl, (nv5.out.set2 kr _ _).set2 ((ks.other (by omega) _ _).other (by omega) _ _) _ _, (nv3.out.set2 kr _ _).set2 ((ks.other (by omega) _ _).other (by omega) _ _) _ _, bset (bset (bset (bset bb (by omega) 0 _) (by omega) 1 _) (by omega) 0 _) (by omega) 1 _⟩
set_option maxRecDepth 100000 in
set_option maxHeartbeats 8000000 in
theorem less_ne (n0 n1 : Bool) (s0 d0 s1 d1 : ByteArray) (z0 z1 D0 D1 : Int) (L : Nat) (w : World) (hL : L ≤ 200)
  (H1 : Hid (∀ w1, Calls Tryz.prog 146 #[.agg #[.bool n0, .string s0]] w1 fun e w' => ∃ v, e = .returned (.agg #[.bool n0, v]) ∧ NV w' n0 v z0 L ∧ Below w1.heap.size w1 w'))
  (H2 : Hid (∀ w1, Calls Tryz.prog 146 #[.agg #[.bool n1, .string s1]] w1 fun e w' => ∃ v, e = .returned (.agg #[.bool n1, v]) ∧ NV w' n1 v z1 L ∧ Below w1.heap.size w1 w'))
  (H3 : Hid (∀ w1, Calls Tryz.prog 146 #[.agg #[.bool false, .string d0]] w1 fun e w' => ∃ v, e = .returned (.agg #[.bool false, v]) ∧ NV w' false v D0 L ∧ Below w1.heap.size w1 w'))
  (H4 : Hid (∀ w1, Calls Tryz.prog 146 #[.agg #[.bool false, .string d1]] w1 fun e w' => ∃ v, e = .returned (.agg #[.bool false, v]) ∧ NV w' false v D1 L ∧ Below w1.heap.size w1 w')) (hd : (d0.toList == d1.toList) = false) :
  Calls Tryz.prog 113 #[.agg #[.bool n0, .string s0, .string d0], .agg #[.bool n1, .string s1, .string d1]] w fun e w' => ∃ m a l c a' l' c', e = .returned (.tuple #[.agg #[.bool m, .slice a l c], .agg #[.bool false, .slice a' l' c']]) ∧ NV w' m (.slice a l c) (z0 * D1 - z1 * D0) (L + L + 1) ∧ NV w' false (.slice a' l' c') (D0 * D1) (L + L) ∧ Below w.heap.size w w' := by
 go_enter Tryz.func113, Tryz.ntmps113
 go_wp2_with fail
 obtain ⟨w1, hw, ka, kb, kr, ks, b1⟩ := mk4 w [.bool n0, .string s0, .string d0] [.bool n1, .string s1, .string d1] [.bool false, .slice none 0 0] [.bool false, .slice none 0 0] 32 32 93 93
 rw [← hw]
 clear hw
 have sz := b1.size
 have ta := ka.lt
 have tb := kb.lt
 have tr := kr.lt
 have ts := ks.lt
 have bb := b1
 clear b1
 have mkS : ∀ w', Below w1.heap.size w1 w' → (Below w1.heap.size w1 w' ∧ w'.cell? ⟨w.heap.size, 0, none⟩ = some (.bool n0) ∧ w'.cell? ⟨w.heap.size, 1, none⟩ = some (.string s0) ∧ w'.cell? ⟨w.heap.size, 2, none⟩ = some (.string d0) ∧ w'.cell? ⟨w.heap.size + 1, 0, none⟩ = some (.bool n1) ∧ w'.cell? ⟨w.heap.size + 1, 1, none⟩ = some (.string s1) ∧ w'.cell? ⟨w.heap.size + 1, 2, none⟩ = some (.string d1)) := fun w' h => ⟨h, cel3_0 (ka.below h), cel3_1 (ka.below h), cel3_2 (ka.below h), cel3_0 (kb.below h), cel3_1 (kb.below h), cel3_2 (kb.below h)⟩
 have bcS : ∀ w', (Below w1.heap.size w1 w' ∧ w'.cell? ⟨w.heap.size, 0, none⟩ = some (.bool n0) ∧ w'.cell? ⟨w.heap.size, 1, none⟩ = some (.string s0) ∧ w'.cell? ⟨w.heap.size, 2, none⟩ = some (.string d0) ∧ w'.cell? ⟨w.heap.size + 1, 0, none⟩ = some (.bool n1) ∧ w'.cell? ⟨w.heap.size + 1, 1, none⟩ = some (.string s1) ∧ w'.cell? ⟨w.heap.size + 1, 2, none⟩ = some (.string d1)) → Below w1.heap.size w1 w' := fun w' h => h.1
 replace mkS := shut mkS
 replace bcS := shut bcS
 go_cut [6, 7] from 10 to 15 (fun v u wx => ∃ gc gd a1 l1 c1 a2 l2 c2, v = .pointer (some ⟨gc, 0, none⟩) ∧ u = .pointer (some ⟨gd, 0, none⟩) ∧ w1.heap.size ≤ gc ∧ w1.heap.size ≤ gd ∧ Cel wx gc [.bool n0, .slice a1 l1 c1] 93 ∧ Cel wx gd [.bool n1, .slice a2 l2 c2] 93 ∧ NV wx n0 (.slice a1 l1 c1) z0 L ∧ NV wx n1 (.slice a2 l2 c2) z1 L ∧ Below w1.heap.size w1 wx)
 case first =>
  clear H3 H4
  refine wp_region_held_drew (S := (fun w' => Below w1.heap.size w1 w' ∧ w'.cell? ⟨w.heap.size, 0, none⟩ = some (.bool n0) ∧ w'.cell? ⟨w.heap.size, 1, none⟩ = some (.string s0) ∧ w'.cell? ⟨w.heap.size, 2, none⟩ = some (.string d0) ∧ w'.cell? ⟨w.heap.size + 1, 0, none⟩ = some (.bool n1) ∧ w'.cell? ⟨w.heap.size + 1, 1, none⟩ = some (.string s1) ∧ w'.cell? ⟨w.heap.size + 1, 2, none⟩ = some (.string d1))) (by kernel_rfl) (mkS.out _ (bdrew _)) (fun _ => ?_)
  refine absO 10 (by kernel_rfl) (fun ops q SP hops hq hSP => ?_)
  obtain ⟨fr, hfr⟩ : ∃ fr : Value → Value → Value → Value → Act, fr = (fun x6 x7 x12 x15 => { tmps := #[.agg #[.bool n0, .string s0, .string d0], .agg #[.bool n1, .string s1, .string d1], .pointer (some ⟨w.heap.size, 0, none⟩), .pointer (some ⟨w.heap.size + 1, 0, none⟩), .pointer (some ⟨w.heap.size + 1 + 1, 0, none⟩), .pointer (some ⟨w.heap.size + 1 + 1 + 1, 0, none⟩), x6, x7, undef, undef, .pointer (some ⟨w.heap.size, 0, none⟩), .agg #[.bool n0, .string s0], x12, .pointer (some ⟨w.heap.size + 1, 0, none⟩), .agg #[.bool n1, .string s1], x15, undef, undef, undef, undef, undef, undef, undef, undef, undef, undef, undef, undef, undef, undef, undef, undef, undef, undef, undef, undef, undef, undef, undef, undef, undef, undef, undef], defers := [] }) := ⟨_, rfl⟩
  have L2_01 : Hid (∀ (g0 : Nat) (g1 : Nat) (a1 : Option Addr) (l1 : Nat) (c1 : Nat) (a2 : Option Addr) (l2 : Nat) (c2 : Nat) (w' : World) (hS : SP w') (k0 : Cel w' g0 [.bool false, .slice none 0 0] 93) (h0 : w1.heap.size ≤ g0) (k1 : Cel w' g1 [.bool false, .slice none 0 0] 93) (h1 : w1.heap.size ≤ g1) (n01 : ¬ g0 = g1) (nv1 : NV w' n0 (.slice a1 l1 c1) z0 L) (nv2 : NV w' n1 (.slice a2 l2 c2) z1 L), wpAnyH Tryz.prog .any ops q SP 2 (ls 10 [0, 1, 2, 3, 4, 5, 6, 7]) (fr (.pointer (some ⟨g0, 0, none⟩)) (.pointer (some ⟨g1, 0, none⟩)) (.agg #[.bool n0, .slice a1 l1 c1]) (.agg #[.bool n1, .slice a2 l2 c2])) w') := by
   subst hops hq hSP hfr
   intro g0 g1 a1 l1 c1 a2 l2 c2 w' hS k0 h0 k1 h1 n01 nv1 nv2
   have bc := bcS.out _ hS
   dsimp only
   have e0_0 := cel2_0' k0
   have f0_0 := Cel.frozen k0 0
   have e0_1 := cel2_1' k0
   have f0_1 := Cel.frozen k0 1
   refine rdy [8] (by kernel_rfl) ?_
   refine AllReadyH.cons (o := _) rfl (fun K hK => ?_) AllReadyH.nil
   simp only [List.getElem_toArray, List.getElem_cons_succ, List.getElem_cons_zero]
   go_simp
   try go_wp2_with fail
   clear e0_0 f0_0 e0_1 f0_1
   refine hK.out _ _ (mkS.out _ (bset (bset bc h0 0 (.bool n0)) h0 1 (.slice a1 l1 c1))) (fun hS => ?_)
   clear hK K
   replace nv1 := nv1.set2 k0 (.bool n0) (.slice a1 l1 c1)
   replace nv2 := nv2.set2 k0 (.bool n0) (.slice a1 l1 c1)
   replace k0 := (Cel.set (Cel.set k0 0 (.bool n0)) 1 (.slice a1 l1 c1))
   replace k1 := (Cel.other (Cel.other k1 (fun e => n01 e.symm) 0 (.bool n0)) (fun e => n01 e.symm) 1 (.slice a1 l1 c1))
   replace bc := (bset (bset bc h0 0 (.bool n0)) h0 1 (.slice a1 l1 c1))
   have e1_0 := cel2_0' k1
   have f1_0 := Cel.frozen k1 0
   have e1_1 := cel2_1' k1
   have f1_1 := Cel.frozen k1 1
   refine rdy [9] (by kernel_rfl) ?_
   refine AllReadyH.cons (o := _) rfl (fun K hK => ?_) AllReadyH.nil
   simp only [List.getElem_toArray, List.getElem_cons_succ, List.getElem_cons_zero]
   go_simp
   try go_wp2_with fail
   clear e1_0 f1_0 e1_1 f1_1
   refine hK.out _ _ (mkS.out _ (bset (bset bc h1 0 (.bool n1)) h1 1 (.slice a2 l2 c2))) (fun hS => ?_)
   clear hK K
   replace nv1 := nv1.set2 k1 (.bool n1) (.slice a2 l2 c2)
   replace nv2 := nv2.set2 k1 (.bool n1) (.slice a2 l2 c2)
   replace k0 := (Cel.other (Cel.other k0 n01 0 (.bool n1)) n01 1 (.slice a2 l2 c2))
   replace k1 := (Cel.set (Cel.set k1 0 (.bool n1)) 1 (.slice a2 l2 c2))
   replace bc := (bset (bset bc h1 0 (.bool n1)) h1 1 (.slice a2 l2 c2))
   refine wpAnyH_done (by kernel_rfl) ?_ _
   go_wp2_with fail
   go_meet
   exact ⟨_, _, a1, l1, c1, a2, l2, c2, rfl, rfl, h0, h1, k0, k1, nv1, nv2, bc⟩
  have L2_0 : Hid (∀ (g0 : Nat) (a1 : Option Addr) (l1 : Nat) (c1 : Nat) (a2 : Option Addr) (l2 : Nat) (c2 : Nat) (w' : World) (hS : SP w') (k0 : Cel w' g0 [.bool false, .slice none 0 0] 93) (h0 : w1.heap.size ≤ g0) (nv1 : NV w' n0 (.slice a1 l1 c1) z0 L) (nv2 : NV w' n1 (.slice a2 l2 c2) z1 L), wpAnyH Tryz.prog .any ops q SP 3 (ls 10 [0, 1, 2, 3, 4, 5, 6]) (fr (.pointer (some ⟨g0, 0, none⟩)) undef (.agg #[.bool n0, .slice a1 l1 c1]) (.agg #[.bool n1, .slice a2 l2 c2])) w') := by
   subst hops hq hSP hfr
   intro g0 a1 l1 c1 a2 l2 c2 w' hS k0 h0 nv1 nv2
   have bc := bcS.out _ hS
   dsimp only
   refine rdy [7] (by kernel_rfl) ?_
   refine AllReadyH.cons (o := _) rfl (fun K hK => ?_) AllReadyH.nil
   ·simp only [List.getElem_toArray, List.getElem_cons_succ, List.getElem_cons_zero]
    go_simp
    try go_wp2_with fail
    refine hK.out _ _ (mkS.out _ (ba bc _)) (fun hS => ?_)
    clear hK K
    exact lst (L2_01.out g0 _ a1 l1 c1 a2 l2 c2 _ hS (k0.alloc _) h0 (Cel.new w' _ _) bc.size (by have := k0.lt; omega) (nv1.below (bel_al _ _)) (nv2.below (bel_al _ _))) (by kernel_rfl)
  have L2_1 : Hid (∀ (g1 : Nat) (a1 : Option Addr) (l1 : Nat) (c1 : Nat) (a2 : Option Addr) (l2 : Nat) (c2 : Nat) (w' : World) (hS : SP w') (k1 : Cel w' g1 [.bool false, .slice none 0 0] 93) (h1 : w1.heap.size ≤ g1) (nv1 : NV w' n0 (.slice a1 l1 c1) z0 L) (nv2 : NV w' n1 (.slice a2 l2 c2) z1 L), wpAnyH Tryz.prog .any ops q SP 3 (ls 10 [0, 1, 2, 3, 4, 5, 7]) (fr undef (.pointer (some ⟨g1, 0, none⟩)) (.agg #[.bool n0, .slice a1 l1 c1]) (.agg #[.bool n1, .slice a2 l2 c2])) w') := by
   clear L2_0
   subst hops hq hSP hfr
   intro g1 a1 l1 c1 a2 l2 c2 w' hS k1 h1 nv1 nv2
   have bc := bcS.out _ hS
   dsimp only
   refine rdy [6] (by kernel_rfl) ?_
   refine AllReadyH.cons (o := _) rfl (fun K hK => ?_) AllReadyH.nil
   ·simp only [List.getElem_toArray, List.getElem_cons_succ, List.getElem_cons_zero]
    go_simp
    try go_wp2_with fail
    refine hK.out _ _ (mkS.out _ (ba bc _)) (fun hS => ?_)
    clear hK K
    exact lst (L2_01.out _ g1 a1 l1 c1 a2 l2 c2 _ hS (Cel.new w' _ _) bc.size (k1.alloc _) h1 (by have := k1.lt; omega) (nv1.below (bel_al _ _)) (nv2.below (bel_al _ _))) (by kernel_rfl)
  have L2_ : Hid (∀ (a1 : Option Addr) (l1 : Nat) (c1 : Nat) (a2 : Option Addr) (l2 : Nat) (c2 : Nat) (w' : World) (hS : SP w') (nv1 : NV w' n0 (.slice a1 l1 c1) z0 L) (nv2 : NV w' n1 (.slice a2 l2 c2) z1 L), wpAnyH Tryz.prog .any ops q SP 4 (ls 10 [0, 1, 2, 3, 4, 5]) (fr undef undef (.agg #[.bool n0, .slice a1 l1 c1]) (.agg #[.bool n1, .slice a2 l2 c2])) w') := by
   clear L2_01
   subst hops hq hSP hfr
   intro a1 l1 c1 a2 l2 c2 w' hS nv1 nv2
   have bc := bcS.out _ hS
   dsimp only
   refine rdy [6, 7] (by kernel_rfl) ?_
   refine AllReadyH.cons (o := _) rfl (fun K hK => ?_) (AllReadyH.cons (o := _) rfl (fun K hK => ?_) AllReadyH.nil)
   ·simp only [List.getElem_toArray, List.getElem_cons_succ, List.getElem_cons_zero]
    go_simp
    try go_wp2_with fail
    refine hK.out _ _ (mkS.out _ (ba bc _)) (fun hS => ?_)
    clear hK K
    exact lst (L2_0.out _ a1 l1 c1 a2 l2 c2 _ hS (Cel.new w' _ _) bc.size (nv1.below (bel_al _ _)) (nv2.below (bel_al _ _))) (by kernel_rfl)
   ·simp only [List.getElem_toArray, List.getElem_cons_succ, List.getElem_cons_zero]
    go_simp
    try go_wp2_with fail
    refine hK.out _ _ (mkS.out _ (ba bc _)) (fun hS => ?_)
    clear hK K
    exact lst (L2_1.out _ a1 l1 c1 a2 l2 c2 _ hS (Cel.new w' _ _) bc.size (nv1.below (bel_al _ _)) (nv2.below (bel_al _ _))) (by kernel_rfl)
  have L1_01 : Hid (∀ (g0 : Nat) (g1 : Nat) (a1 : Option Addr) (l1 : Nat) (c1 : Nat) (w' : World) (hS : SP w') (k0 : Cel w' g0 [.bool false, .slice none 0 0] 93) (h0 : w1.heap.size ≤ g0) (k1 : Cel w' g1 [.bool false, .slice none 0 0] 93) (h1 : w1.heap.size ≤ g1) (n01 : ¬ g0 = g1) (nv1 : NV w' n0 (.slice a1 l1 c1) z0 L), wpAnyH Tryz.prog .any ops q SP 3 (ls 10 [0, 1, 2, 3, 4, 6, 7]) (fr (.pointer (some ⟨g0, 0, none⟩)) (.pointer (some ⟨g1, 0, none⟩)) (.agg #[.bool n0, .slice a1 l1 c1]) undef) w') := by
   clear L2_0 L2_1 L2_
   subst hops hq hSP hfr
   intro g0 g1 a1 l1 c1 w' hS k0 h0 k1 h1 n01 nv1
   have bc := bcS.out _ hS
   dsimp only
   refine rdy [5] (by kernel_rfl) ?_
   refine AllReadyH.cons (o := _) rfl (fun K hK => ?_) AllReadyH.nil
   ·simp only [List.getElem_toArray, List.getElem_cons_succ, List.getElem_cons_zero]
    go_simp
    go_fit (H2.out _)
    rintro e wn ⟨v2, rfl, nv2, bn⟩
    obtain ⟨a2, l2, c2, rfl⟩ := nv2.slice
    have bcn := Below.after bc bn
    try go_wp2_with fail
    refine hK.out _ _ (mkS.out _ bcn) (fun hS => ?_)
    clear hK K
    exact lst (L2_01.out g0 g1 a1 l1 c1 a2 l2 c2 wn hS (k0.below bn) h0 (k1.below bn) h1 n01 (nv1.below bn) nv2) (by kernel_rfl)
  have L1_0 : Hid (∀ (g0 : Nat) (a1 : Option Addr) (l1 : Nat) (c1 : Nat) (w' : World) (hS : SP w') (k0 : Cel w' g0 [.bool false, .slice none 0 0] 93) (h0 : w1.heap.size ≤ g0) (nv1 : NV w' n0 (.slice a1 l1 c1) z0 L), wpAnyH Tryz.prog .any ops q SP 4 (ls 10 [0, 1, 2, 3, 4, 6]) (fr (.pointer (some ⟨g0, 0, none⟩)) undef (.agg #[.bool n0, .slice a1 l1 c1]) undef) w') := by
   clear L2_01 L2_1 L2_
   subst hops hq hSP hfr
   intro g0 a1 l1 c1 w' hS k0 h0 nv1
   have bc := bcS.out _ hS
   dsimp only
   refine rdy [5, 7] (by kernel_rfl) ?_
   refine AllReadyH.cons (o := _) rfl (fun K hK => ?_) (AllReadyH.cons (o := _) rfl (fun K hK => ?_) AllReadyH.nil)
   ·simp only [List.getElem_toArray, List.getElem_cons_succ, List.getElem_cons_zero]
    go_simp
    go_fit (H2.out _)
    rintro e wn ⟨v2, rfl, nv2, bn⟩
    obtain ⟨a2, l2, c2, rfl⟩ := nv2.slice
    have bcn := Below.after bc bn
    try go_wp2_with fail
    refine hK.out _ _ (mkS.out _ bcn) (fun hS => ?_)
    clear hK K
    exact lst (L2_0.out g0 a1 l1 c1 a2 l2 c2 wn hS (k0.below bn) h0 (nv1.below bn) nv2) (by kernel_rfl)
   ·simp only [List.getElem_toArray, List.getElem_cons_succ, List.getElem_cons_zero]
    go_simp
    try go_wp2_with fail
    refine hK.out _ _ (mkS.out _ (ba bc _)) (fun hS => ?_)
    clear hK K
    exact lst (L1_01.out g0 _ a1 l1 c1 _ hS (k0.alloc _) h0 (Cel.new w' _ _) bc.size (by have := k0.lt; omega) (nv1.below (bel_al _ _))) (by kernel_rfl)
  have L1_1 : Hid (∀ (g1 : Nat) (a1 : Option Addr) (l1 : Nat) (c1 : Nat) (w' : World) (hS : SP w') (k1 : Cel w' g1 [.bool false, .slice none 0 0] 93) (h1 : w1.heap.size ≤ g1) (nv1 : NV w' n0 (.slice a1 l1 c1) z0 L), wpAnyH Tryz.prog .any ops q SP 4 (ls 10 [0, 1, 2, 3, 4, 7]) (fr undef (.pointer (some ⟨g1, 0, none⟩)) (.agg #[.bool n0, .slice a1 l1 c1]) undef) w') := by
   clear L2_01 L2_0 L2_ L1_0
   subst hops hq hSP hfr
   intro g1 a1 l1 c1 w' hS k1 h1 nv1
   have bc := bcS.out _ hS
   dsimp only
   refine rdy [5, 6] (by kernel_rfl) ?_
   refine AllReadyH.cons (o := _) rfl (fun K hK => ?_) (AllReadyH.cons (o := _) rfl (fun K hK => ?_) AllReadyH.nil)
   ·simp only [List.getElem_toArray, List.getElem_cons_succ, List.getElem_cons_zero]
    go_simp
    go_fit (H2.out _)
    rintro e wn ⟨v2, rfl, nv2, bn⟩
    obtain ⟨a2, l2, c2, rfl⟩ := nv2.slice
    have bcn := Below.after bc bn
    try go_wp2_with fail
    refine hK.out _ _ (mkS.out _ bcn) (fun hS => ?_)
    clear hK K
    exact lst (L2_1.out g1 a1 l1 c1 a2 l2 c2 wn hS (k1.below bn) h1 (nv1.below bn) nv2) (by kernel_rfl)
   ·simp only [List.getElem_toArray, List.getElem_cons_succ, List.getElem_cons_zero]
    go_simp
    try go_wp2_with fail
    refine hK.out _ _ (mkS.out _ (ba bc _)) (fun hS => ?_)
    clear hK K
    exact lst (L1_01.out _ g1 a1 l1 c1 _ hS (Cel.new w' _ _) bc.size (k1.alloc _) h1 (by have := k1.lt; omega) (nv1.below (bel_al _ _))) (by kernel_rfl)
  have L1_ : Hid (∀ (a1 : Option Addr) (l1 : Nat) (c1 : Nat) (w' : World) (hS : SP w') (nv1 : NV w' n0 (.slice a1 l1 c1) z0 L), wpAnyH Tryz.prog .any ops q SP 5 (ls 10 [0, 1, 2, 3, 4]) (fr undef undef (.agg #[.bool n0, .slice a1 l1 c1]) undef) w') := by
   clear L2_01 L2_0 L2_1 L1_01
   subst hops hq hSP hfr
   intro a1 l1 c1 w' hS nv1
   have bc := bcS.out _ hS
   dsimp only
   refine rdy [5, 6, 7] (by kernel_rfl) ?_
   refine AllReadyH.cons (o := _) rfl (fun K hK => ?_) (AllReadyH.cons (o := _) rfl (fun K hK => ?_) (AllReadyH.cons (o := _) rfl (fun K hK => ?_) AllReadyH.nil))
   ·simp only [List.getElem_toArray, List.getElem_cons_succ, List.getElem_cons_zero]
    go_simp
    go_fit (H2.out _)
    rintro e wn ⟨v2, rfl, nv2, bn⟩
    obtain ⟨a2, l2, c2, rfl⟩ := nv2.slice
    have bcn := Below.after bc bn
    try go_wp2_with fail
    refine hK.out _ _ (mkS.out _ bcn) (fun hS => ?_)
    clear hK K
    exact lst (L2_.out a1 l1 c1 a2 l2 c2 wn hS (nv1.below bn) nv2) (by kernel_rfl)
   ·simp only [List.getElem_toArray, List.getElem_cons_succ, List.getElem_cons_zero]
    go_simp
    try go_wp2_with fail
    refine hK.out _ _ (mkS.out _ (ba bc _)) (fun hS => ?_)
    clear hK K
    exact lst (L1_0.out _ a1 l1 c1 _ hS (Cel.new w' _ _) bc.size (nv1.below (bel_al _ _))) (by kernel_rfl)
   ·simp only [List.getElem_toArray, List.getElem_cons_succ, List.getElem_cons_zero]
    go_simp
    try go_wp2_with fail
    refine hK.out _ _ (mkS.out _ (ba bc _)) (fun hS => ?_)
    clear hK K
    exact lst (L1_1.out _ a1 l1 c1 _ hS (Cel.new w' _ _) bc.size (nv1.below (bel_al _ _))) (by kernel_rfl)
  have L0_01 : Hid (∀ (g0 : Nat) (g1 : Nat) (w' : World) (hS : SP w') (k0 : Cel w' g0 [.bool false, .slice none 0 0] 93) (h0 : w1.heap.size ≤ g0) (k1 : Cel w' g1 [.bool false, .slice none 0 0] 93) (h1 : w1.heap.size ≤ g1) (n01 : ¬ g0 = g1), wpAnyH Tryz.prog .any ops q SP 4 (ls 10 [0, 1, 3, 4, 6, 7]) (fr (.pointer (some ⟨g0, 0, none⟩)) (.pointer (some ⟨g1, 0, none⟩)) undef undef) w') := by
   clear L2_01 L2_0 L2_1 L2_ L1_0 L1_1 L1_
   subst hops hq hSP hfr
   intro g0 g1 w' hS k0 h0 k1 h1 n01
   have bc := bcS.out _ hS
   dsimp only
   refine rdy [2] (by kernel_rfl) ?_
   refine AllReadyH.cons (o := _) rfl (fun K hK => ?_) AllReadyH.nil
   ·simp only [List.getElem_toArray, List.getElem_cons_succ, List.getElem_cons_zero]
    go_simp
    go_fit (H1.out _)
    rintro e wn ⟨v1, rfl, nv1, bn⟩
    obtain ⟨a1, l1, c1, rfl⟩ := nv1.slice
    have bcn := Below.after bc bn
    try go_wp2_with fail
    refine hK.out _ _ (mkS.out _ bcn) (fun hS => ?_)
    clear hK K
    exact lst (L1_01.out g0 g1 a1 l1 c1 wn hS (k0.below bn) h0 (k1.below bn) h1 n01 nv1) (by kernel_rfl)
  have L0_0 : Hid (∀ (g0 : Nat) (w' : World) (hS : SP w') (k0 : Cel w' g0 [.bool false, .slice none 0 0] 93) (h0 : w1.heap.size ≤ g0), wpAnyH Tryz.prog .any ops q SP 5 (ls 10 [0, 1, 3, 4, 6]) (fr (.pointer (some ⟨g0, 0, none⟩)) undef undef undef) w') := by
   clear L2_01 L2_0 L2_1 L2_ L1_01 L1_1 L1_
   subst hops hq hSP hfr
   intro g0 w' hS k0 h0
   have bc := bcS.out _ hS
   dsimp only
   refine rdy [2, 7] (by kernel_rfl) ?_
   refine AllReadyH.cons (o := _) rfl (fun K hK => ?_) (AllReadyH.cons (o := _) rfl (fun K hK => ?_) AllReadyH.nil)
   ·simp only [List.getElem_toArray, List.getElem_cons_succ, List.getElem_cons_zero]
    go_simp
    go_fit (H1.out _)
    rintro e wn ⟨v1, rfl, nv1, bn⟩
    obtain ⟨a1, l1, c1, rfl⟩ := nv1.slice
    have bcn := Below.after bc bn
    try go_wp2_with fail
    refine hK.out _ _ (mkS.out _ bcn) (fun hS => ?_)
    clear hK K
    exact lst (L1_0.out g0 a1 l1 c1 wn hS (k0.below bn) h0 nv1) (by kernel_rfl)
   ·simp only [List.getElem_toArray, List.getElem_cons_succ, List.getElem_cons_zero]
    go_simp
    try go_wp2_with fail
    refine hK.out _ _ (mkS.out _ (ba bc _)) (fun hS => ?_)
    clear hK K
    exact lst (L0_01.out g0 _ _ hS (k0.alloc _) h0 (Cel.new w' _ _) bc.size (by have := k0.lt; omega)) (by kernel_rfl)
  have L0_1 : Hid (∀ (g1 : Nat) (w' : World) (hS : SP w') (k1 : Cel w' g1 [.bool false, .slice none 0 0] 93) (h1 : w1.heap.size ≤ g1), wpAnyH Tryz.prog .any ops q SP 5 (ls 10 [0, 1, 3, 4, 7]) (fr undef (.pointer (some ⟨g1, 0, none⟩)) undef undef) w') := by
   clear L2_01 L2_0 L2_1 L2_ L1_01 L1_0 L1_ L0_0
   subst hops hq hSP hfr
   intro g1 w' hS k1 h1
   have bc := bcS.out _ hS
   dsimp only
   refine rdy [2, 6] (by kernel_rfl) ?_
   refine AllReadyH.cons (o := _) rfl (fun K hK => ?_) (AllReadyH.cons (o := _) rfl (fun K hK => ?_) AllReadyH.nil)
   ·simp only [List.getElem_toArray, List.getElem_cons_succ, List.getElem_cons_zero]
    go_simp
    go_fit (H1.out _)
    rintro e wn ⟨v1, rfl, nv1, bn⟩
    obtain ⟨a1, l1, c1, rfl⟩ := nv1.slice
    have bcn := Below.after bc bn
    try go_wp2_with fail
    refine hK.out _ _ (mkS.out _ bcn) (fun hS => ?_)
    clear hK K
    exact lst (L1_1.out g1 a1 l1 c1 wn hS (k1.below bn) h1 nv1) (by kernel_rfl)
   ·simp only [List.getElem_toArray, List.getElem_cons_succ, List.getElem_cons_zero]
    go_simp
    try go_wp2_with fail
    refine hK.out _ _ (mkS.out _ (ba bc _)) (fun hS => ?_)
    clear hK K
    exact lst (L0_01.out _ g1 _ hS (Cel.new w' _ _) bc.size (k1.alloc _) h1 (by have := k1.lt; omega)) (by kernel_rfl)
  have L0_ : Hid (∀ (w' : World) (hS : SP w'), wpAnyH Tryz.prog .any ops q SP 6 (ls 10 [0, 1, 3, 4]) (fr undef undef undef undef) w') := by
   clear L2_01 L2_0 L2_1 L2_ L1_01 L1_0 L1_1 L0_01
   subst hops hq hSP hfr
   intro w' hS
   have bc := bcS.out _ hS
   dsimp only
   refine rdy [2, 6, 7] (by kernel_rfl) ?_
   refine AllReadyH.cons (o := _) rfl (fun K hK => ?_) (AllReadyH.cons (o := _) rfl (fun K hK => ?_) (AllReadyH.cons (o := _) rfl (fun K hK => ?_) AllReadyH.nil))
   ·simp only [List.getElem_toArray, List.getElem_cons_succ, List.getElem_cons_zero]
    go_simp
    go_fit (H1.out _)
    rintro e wn ⟨v1, rfl, nv1, bn⟩
    obtain ⟨a1, l1, c1, rfl⟩ := nv1.slice
    have bcn := Below.after bc bn
    try go_wp2_with fail
    refine hK.out _ _ (mkS.out _ bcn) (fun hS => ?_)
    clear hK K
    exact lst (L1_.out a1 l1 c1 wn hS nv1) (by kernel_rfl)
   ·simp only [List.getElem_toArray, List.getElem_cons_succ, List.getElem_cons_zero]
    go_simp
    try go_wp2_with fail
    refine hK.out _ _ (mkS.out _ (ba bc _)) (fun hS => ?_)
    clear hK K
    exact lst (L0_0.out _ _ hS (Cel.new w' _ _) bc.size) (by kernel_rfl)
   ·simp only [List.getElem_toArray, List.getElem_cons_succ, List.getElem_cons_zero]
    go_simp
    try go_wp2_with fail
    refine hK.out _ _ (mkS.out _ (ba bc _)) (fun hS => ?_)
    clear hK K
    exact lst (L0_1.out _ _ hS (Cel.new w' _ _) bc.size) (by kernel_rfl)
  clear L2_01 L2_0 L2_1 L2_ L1_01 L1_0 L1_1 L1_ L0_01 L0_0 L0_1
  subst hops hq hSP hfr
  refine wpAnyH_take (i := 0) (oi := _) (v := ?_) rfl (by kernel_rfl) (by kernel_rfl) (by kernel_rfl) (fun _ _ _ h => h) (Or.inl ⟨by rfl, ?_⟩) (by assumption) ?_
  rotate_left
  ·(intro w hSw; (try dsimp only at hSw); go_simp; try with_reducible rfl)
  try simp only [Act.put, List.getElem_toArray, List.getElem_cons_zero, List.setIfInBounds_toArray, List.set_cons_zero, List.set_cons_succ]
  refine wpAnyH_take (i := 1) (oi := _) (v := ?_) rfl (by kernel_rfl) (by kernel_rfl) (by kernel_rfl) (fun _ _ _ h => h) (Or.inl ⟨by rfl, ?_⟩) (by assumption) ?_
  rotate_left
  ·(intro w hSw; (try dsimp only at hSw); go_simp; try with_reducible rfl)
  try simp only [Act.put, List.getElem_toArray, List.getElem_cons_succ, List.getElem_cons_zero, List.setIfInBounds_toArray, List.set_cons_zero, List.set_cons_succ]
  refine wpAnyH_take (i := 3) (oi := _) (v := ?_) rfl (by kernel_rfl) (by kernel_rfl) (by kernel_rfl) (fun _ _ _ h => h) (Or.inl ⟨by rfl, ?_⟩) (by assumption) ?_
  rotate_left
  ·(intro w hSw; (try dsimp only at hSw); go_simp; try with_reducible rfl)
  try simp only [Act.put, List.getElem_toArray, List.getElem_cons_succ, List.getElem_cons_zero, List.setIfInBounds_toArray, List.set_cons_zero, List.set_cons_succ]
  refine wpAnyH_take (i := 4) (oi := _) (v := ?_) rfl (by kernel_rfl) (by kernel_rfl) (by kernel_rfl) (fun _ _ _ h => h) (Or.inl ⟨by rfl, ?_⟩) (by assumption) ?_
  rotate_left
  ·(intro w hSw; (try dsimp only at hSw); go_simp; try with_reducible rfl)
  try simp only [Act.put, List.getElem_toArray, List.getElem_cons_succ, List.getElem_cons_zero, List.setIfInBounds_toArray, List.set_cons_zero, List.set_cons_succ]
  exact lst (L0_.out _ (mkS.out _ (bdrew _))) (by kernel_rfl)
 case rest =>
 obtain ⟨gx, gy, a1, l1, c1, a2, l2, c2, rfl, rfl, lx, ly, kx, ky, nv1, nv2, b1⟩ := hcut
 clear mkS bcS
 have sz := b1.size
 replace ka := ka.below b1
 replace kb := kb.below b1
 replace kr := kr.below b1
 replace ks := ks.below b1
 replace bb := Below.after bb b1
 clear b1
 have tx := kx.lt
 have ty := ky.lt
 have ca := cel3_2 ka
 go_wp2_with fail
 go_fit (H3.out _)
 rintro e w3 ⟨v3, rfl, nv3, b1⟩
 obtain ⟨a3, l3, c3, rfl⟩ := nv3.slice
 replace ka := ka.below b1
 replace kb := kb.below b1
 replace kr := kr.below b1
 replace ks := ks.below b1
 replace kx := kx.below b1
 replace ky := ky.below b1
 replace nv1 := nv1.below b1
 replace nv2 := nv2.below b1
 replace bb := Below.after bb b1
 have sq2 := b1.size
 clear b1
 clear ca
 have ca := cel3_2 (ka.alloc (.cells #[.bool false, .slice a3 l3 c3] 93))
 have cb := cel3_2 (kb.alloc (.cells #[.bool false, .slice a3 l3 c3] 93))
 go_wp2_with fail
 obtain ⟨w4, hw, kz, b1⟩ := mk1 w3 [.bool false, .slice a3 l3 c3] 93
 rw [← hw]
 clear hw
 replace ka := ka.below b1
 replace kb := kb.below b1
 replace kr := kr.below b1
 replace ks := ks.below b1
 replace kx := kx.below b1
 replace ky := ky.below b1
 replace nv1 := nv1.below b1
 replace nv2 := nv2.below b1
 replace nv3 := nv3.below b1
 replace bb := Below.after bb b1
 have sq3 := b1.size
 have tz := kz.lt
 have sz := b1.size
 clear b1
 clear ca cb
 have tr' := kr.lt
 have cb := cel3_2 kb
 go_wp2_with fail
 go_fit (H4.out _)
 rintro e w4' ⟨v4, rfl, nv4, b1⟩
 obtain ⟨a4, l4, c4, rfl⟩ := nv4.slice
 replace ka := ka.below b1
 replace kb := kb.below b1
 replace kr := kr.below b1
 replace ks := ks.below b1
 replace kx := kx.below b1
 replace ky := ky.below b1
 replace kz := kz.below b1
 replace nv1 := nv1.below b1
 replace nv2 := nv2.below b1
 replace nv3 := nv3.below b1
 replace bb := Below.after bb b1
 have sq4 := b1.size
 clear b1
 clear cb
 go_wp2_with fail
 obtain ⟨w6, hw, ku, b1⟩ := mk1 w4' [.bool false, .slice a4 l4 c4] 93
 rw [← hw]
 clear hw
 replace ka := ka.below b1
 replace kb := kb.below b1
 replace kr := kr.below b1
 replace ks := ks.below b1
 replace kx := kx.below b1
 replace ky := ky.below b1
 replace kz := kz.below b1
 replace nv1 := nv1.below b1
 replace nv2 := nv2.below b1
 replace nv3 := nv3.below b1
 replace nv4 := nv4.below b1
 replace bb := Below.after bb b1
 have sq5 := b1.size
 have tu := ku.lt
 have sz := b1.size
 clear b1
 have mkS : Hid (∀ w', Cel w' (gx) [.bool n0, .slice a1 l1 c1] 93 → Cel w' (gy) [.bool n1, .slice a2 l2 c2] 93 → Cel w' (w3.heap.size) [.bool false, .slice a3 l3 c3] 93 → Cel w' (w4'.heap.size) [.bool false, .slice a4 l4 c4] 93 → (w'.cell? ⟨gx, 0, none⟩ = some (.bool n0) ∧ w'.cell? ⟨gx, 1, none⟩ = some (.slice a1 l1 c1) ∧ w'.cell? ⟨gy, 0, none⟩ = some (.bool n1) ∧ w'.cell? ⟨gy, 1, none⟩ = some (.slice a2 l2 c2) ∧ w'.cell? ⟨w3.heap.size, 0, none⟩ = some (.bool false) ∧ w'.cell? ⟨w3.heap.size, 1, none⟩ = some (.slice a3 l3 c3) ∧ w'.cell? ⟨w4'.heap.size, 0, none⟩ = some (.bool false) ∧ w'.cell? ⟨w4'.heap.size, 1, none⟩ = some (.slice a4 l4 c4))) := fun w' hx hy hz hu => ⟨cel2_0 hx, cel2_1 hx, cel2_0 hy, cel2_1 hy, cel2_0 hz, cel2_1 hz, cel2_0 hu, cel2_1 hu⟩
 have qxr : gx ≠ w.heap.size + 1 + 1 := by omega
 have qyr : gy ≠ w.heap.size + 1 + 1 := by omega
 have qzr : w3.heap.size ≠ w.heap.size + 1 + 1 := by omega
 have qur : w4'.heap.size ≠ w.heap.size + 1 + 1 := by omega
 have qxs : gx ≠ w.heap.size + 1 + 1 + 1 := by omega
 have qys : gy ≠ w.heap.size + 1 + 1 + 1 := by omega
 have qzs : w3.heap.size ≠ w.heap.size + 1 + 1 + 1 := by omega
 have qus : w4'.heap.size ≠ w.heap.size + 1 + 1 + 1 := by omega
 go_region_held3 (fun w' => w'.cell? ⟨gx, 0, none⟩ = some (.bool n0) ∧ w'.cell? ⟨gx, 1, none⟩ = some (.slice a1 l1 c1) ∧ w'.cell? ⟨gy, 0, none⟩ = some (.bool n1) ∧ w'.cell? ⟨gy, 1, none⟩ = some (.slice a2 l2 c2) ∧ w'.cell? ⟨w3.heap.size, 0, none⟩ = some (.bool false) ∧ w'.cell? ⟨w3.heap.size, 1, none⟩ = some (.slice a3 l3 c3) ∧ w'.cell? ⟨w4'.heap.size, 0, none⟩ = some (.bool false) ∧ w'.cell? ⟨w4'.heap.size, 1, none⟩ = some (.slice a4 l4 c4)) (first | with_reducible exact mkS.out _ kx ky kz ku | with_reducible exact mkS.out _ (Cel.other (Cel.other kx qxr 0 _) qxr 1 _) (Cel.other (Cel.other ky qyr 0 _) qyr 1 _) (Cel.other (Cel.other kz qzr 0 _) qzr 1 _) (Cel.other (Cel.other ku qur 0 _) qur 1 _) | with_reducible exact mkS.out _ (Cel.other (Cel.other (Cel.other (Cel.other kx qxr 0 _) qxr 1 _) qxs 0 _) qxs 1 _) (Cel.other (Cel.other (Cel.other (Cel.other ky qyr 0 _) qyr 1 _) qys 0 _) qys 1 _) (Cel.other (Cel.other (Cel.other (Cel.other kz qzr 0 _) qzr 1 _) qzs 0 _) qzs 1 _) (Cel.other (Cel.other (Cel.other (Cel.other ku qur 0 _) qur 1 _) qus 0 _) qus 1 _) | exact mkS.out _ kx ky kz ku) (first | (go_at_call 84; go_fit (ntimes_any _ _ _ _ z0 D1 L L _ (by omega) (by omega) ?_ ?_); (first | exact nv1 | exact nv1.drew); (first | exact nv4 | exact nv4.drew); rintro e wn ⟨m5, v5, rfl, nv5, -, bn⟩; obtain ⟨a5, l5, c5, rfl⟩ := nv5.slice; replace kr := kr.below ⟨bn.os, bn.tape, bn.output, bn.size, bn.block⟩; replace ks := ks.below ⟨bn.os, bn.tape, bn.output, bn.size, bn.block⟩; replace kx := kx.below ⟨bn.os, bn.tape, bn.output, bn.size, bn.block⟩; replace ky := ky.below ⟨bn.os, bn.tape, bn.output, bn.size, bn.block⟩; replace kz := kz.below ⟨bn.os, bn.tape, bn.output, bn.size, bn.block⟩; replace ku := ku.below ⟨bn.os, bn.tape, bn.output, bn.size, bn.block⟩; (try replace nv1 := nv1.below ⟨bn.os, bn.tape, bn.output, bn.size, bn.block⟩); (try replace nv2 := nv2.below ⟨bn.os, bn.tape, bn.output, bn.size, bn.block⟩); (try replace nv3 := nv3.below ⟨bn.os, bn.tape, bn.output, bn.size, bn.block⟩); (try replace nv4 := nv4.below ⟨bn.os, bn.tape, bn.output, bn.size, bn.block⟩); (try replace nv6 := nv6.below ⟨bn.os, bn.tape, bn.output, bn.size, bn.block⟩); (try replace nv7 := nv7.below ⟨bn.os, bn.tape, bn.output, bn.size, bn.block⟩); replace bb := Below.after bb ⟨bn.os, bn.tape, bn.output, bn.size, bn.block⟩) | (go_at_call 84; go_fit (ntimes_any _ _ _ _ z1 D0 L L _ (by omega) (by omega) ?_ ?_); (first | exact nv2 | exact nv2.drew); (first | exact nv3 | exact nv3.drew); rintro e wn ⟨m6, v6, rfl, nv6, -, bn⟩; obtain ⟨a6, l6, c6, rfl⟩ := nv6.slice; replace kr := kr.below ⟨bn.os, bn.tape, bn.output, bn.size, bn.block⟩; replace ks := ks.below ⟨bn.os, bn.tape, bn.output, bn.size, bn.block⟩; replace kx := kx.below ⟨bn.os, bn.tape, bn.output, bn.size, bn.block⟩; replace ky := ky.below ⟨bn.os, bn.tape, bn.output, bn.size, bn.block⟩; replace kz := kz.below ⟨bn.os, bn.tape, bn.output, bn.size, bn.block⟩; replace ku := ku.below ⟨bn.os, bn.tape, bn.output, bn.size, bn.block⟩; (try replace nv1 := nv1.below ⟨bn.os, bn.tape, bn.output, bn.size, bn.block⟩); (try replace nv2 := nv2.below ⟨bn.os, bn.tape, bn.output, bn.size, bn.block⟩); (try replace nv3 := nv3.below ⟨bn.os, bn.tape, bn.output, bn.size, bn.block⟩); (try replace nv4 := nv4.below ⟨bn.os, bn.tape, bn.output, bn.size, bn.block⟩); (try replace nv5 := nv5.below ⟨bn.os, bn.tape, bn.output, bn.size, bn.block⟩); (try replace nv7 := nv7.below ⟨bn.os, bn.tape, bn.output, bn.size, bn.block⟩); replace bb := Below.after bb ⟨bn.os, bn.tape, bn.output, bn.size, bn.block⟩) | (go_at_call 115; go_fit (nminus_any _ _ _ _ (z0 * D1) (z1 * D0) (L + L) _ (by omega) ?_ ?_); (first | exact nv5 | exact nv5.drew); (first | exact nv6 | exact nv6.drew); rintro e wn ⟨m7, v7, rfl, nv7, bn⟩; obtain ⟨a7, l7, c7, rfl⟩ := nv7.slice; replace kr := kr.below ⟨bn.os, bn.tape, bn.output, bn.size, bn.block⟩; replace ks := ks.below ⟨bn.os, bn.tape, bn.output, bn.size, bn.block⟩; replace kx := kx.below ⟨bn.os, bn.tape, bn.output, bn.size, bn.block⟩; replace ky := ky.below ⟨bn.os, bn.tape, bn.output, bn.size, bn.block⟩; replace kz := kz.below ⟨bn.os, bn.tape, bn.output, bn.size, bn.block⟩; replace ku := ku.below ⟨bn.os, bn.tape, bn.output, bn.size, bn.block⟩; (try replace nv1 := nv1.below ⟨bn.os, bn.tape, bn.output, bn.size, bn.block⟩); (try replace nv2 := nv2.below ⟨bn.os, bn.tape, bn.output, bn.size, bn.block⟩); (try replace nv3 := nv3.below ⟨bn.os, bn.tape, bn.output, bn.size, bn.block⟩); (try replace nv4 := nv4.below ⟨bn.os, bn.tape, bn.output, bn.size, bn.block⟩); (try replace nv5 := nv5.below ⟨bn.os, bn.tape, bn.output, bn.size, bn.block⟩); (try replace nv6 := nv6.below ⟨bn.os, bn.tape, bn.output, bn.size, bn.block⟩); replace bb := Below.after bb ⟨bn.os, bn.tape, bn.output, bn.size, bn.block⟩) | (go_at_call 84; go_fit (ntimes_any _ _ _ _ D0 D1 L L _ (by omega) (by omega) ?_ ?_); (first | exact nv3 | exact nv3.drew); (first | exact nv4 | exact nv4.drew); rintro e wn ⟨m8, v8, rfl, nv8, hm8, bn⟩; obtain ⟨a8, l8, c8, rfl⟩ := nv8.slice; replace kr := kr.below ⟨bn.os, bn.tape, bn.output, bn.size, bn.block⟩; replace ks := ks.below ⟨bn.os, bn.tape, bn.output, bn.size, bn.block⟩; replace kx := kx.below ⟨bn.os, bn.tape, bn.output, bn.size, bn.block⟩; replace ky := ky.below ⟨bn.os, bn.tape, bn.output, bn.size, bn.block⟩; replace kz := kz.below ⟨bn.os, bn.tape, bn.output, bn.size, bn.block⟩; replace ku := ku.below ⟨bn.os, bn.tape, bn.output, bn.size, bn.block⟩; (try replace nv1 := nv1.below ⟨bn.os, bn.tape, bn.output, bn.size, bn.block⟩); (try replace nv2 := nv2.below ⟨bn.os, bn.tape, bn.output, bn.size, bn.block⟩); (try replace nv3 := nv3.below ⟨bn.os, bn.tape, bn.output, bn.size, bn.block⟩); (try replace nv4 := nv4.below ⟨bn.os, bn.tape, bn.output, bn.size, bn.block⟩); (try replace nv5 := nv5.below ⟨bn.os, bn.tape, bn.output, bn.size, bn.block⟩); (try replace nv6 := nv6.below ⟨bn.os, bn.tape, bn.output, bn.size, bn.block⟩); (try replace nv7 := nv7.below ⟨bn.os, bn.tape, bn.output, bn.size, bn.block⟩); replace bb := Below.after bb ⟨bn.os, bn.tape, bn.output, bn.size, bn.block⟩; have er0 := cel2_0 kr; have fr0 := Cel.frozen kr 0; have er1 := cel2_1 kr; have fr1 := Cel.frozen kr 1; have es0 := cel2_0 ks; have fs0 := Cel.frozen ks 0; have es1 := cel2_1 ks; have fs1 := Cel.frozen ks 1))
 obtain rfl := hm8 trivial trivial
 clear hm8
 replace nv7 := shut nv7
 replace nv8 := shut nv8
 go_wp2
 exact post_nn (p := 4) (q := 5) (by kernel_rfl) rfl rfl rfl ((((kr.set 0 _).set 1 _).other (by omega) _ _).other (by omega) _ _) ((((ks.other (by omega) _ _).other (by omega) _ _).set 0 _).set 1 _) ⟨_, _, _, _, _, _, _, rfl, (nv7.out.set2 kr _ _).set2 ((ks.other (by omega) _ _).other (by omega) _ _) _ _, (nv8.out.set2 kr _ _).set2 ((ks.other (by omega) _ _).other (by omega) _ _) _ _, bset (bset (bset (bset bb (by omega) 0 _) (by omega) 1 _) (by omega) 0 _) (by omega) 1 _⟩
end Go.Proofs.YtgihiaaodkkkbaaGreatDoor
