/-
  Package rat: product, walked.
-/
import Derived.Test.YtdbnkcimcpnpdaaGreatDoorG27
import Derived.Test.YtdbnkcimcpnpdaaGreatDoorG33
namespace Go.Proofs.YtdbnkcimcpnpdaaGreatDoor
open Go.RowKit

set_option maxRecDepth 100000 in
set_option maxHeartbeats 8000000 in
theorem product_walk (n0 n1 gN eN aN bN pN cN dN qN : Bool) (s0 d0 s1 d1 gS eS aS bS pS cS dS qS : ByteArray) (w : World)
  (H1 : Hid (∀ w1, Below w.heap.size w w1 → Calls Tryz.prog 74 #[.agg #[.bool n0, .string s0], .agg #[.bool false, .string d1]] w1 fun e w' => e = .returned (.agg #[.bool gN, .string gS]) ∧ Below w1.heap.size w1 w'))
  (H2 : Hid (∀ w1, Below w.heap.size w w1 → Calls Tryz.prog 74 #[.agg #[.bool n1, .string s1], .agg #[.bool false, .string d0]] w1 fun e w' => e = .returned (.agg #[.bool eN, .string eS]) ∧ Below w1.heap.size w1 w'))
  (H3 : Hid (∀ w1, Calls Tryz.prog 75 #[.agg #[.bool n0, .string s0], .agg #[.bool gN, .string gS]] w1 fun e w' => e = .returned (.agg #[.bool aN, .string aS]) ∧ Below w1.heap.size w1 w'))
  (H4 : Hid (∀ w1, Calls Tryz.prog 75 #[.agg #[.bool n1, .string s1], .agg #[.bool eN, .string eS]] w1 fun e w' => e = .returned (.agg #[.bool bN, .string bS]) ∧ Below w1.heap.size w1 w'))
  (H5 : Hid (∀ w1, Calls Tryz.prog 41 #[.agg #[.bool aN, .string aS], .agg #[.bool bN, .string bS]] w1 fun e w' => e = .returned (.agg #[.bool pN, .string pS]) ∧ Below w1.heap.size w1 w'))
  (H6 : Hid (∀ w1, Calls Tryz.prog 75 #[.agg #[.bool false, .string d0], .agg #[.bool eN, .string eS]] w1 fun e w' => e = .returned (.agg #[.bool cN, .string cS]) ∧ Below w1.heap.size w1 w'))
  (H7 : Hid (∀ w1, Calls Tryz.prog 75 #[.agg #[.bool false, .string d1], .agg #[.bool gN, .string gS]] w1 fun e w' => e = .returned (.agg #[.bool dN, .string dS]) ∧ Below w1.heap.size w1 w'))
  (H8 : Hid (∀ w1, Calls Tryz.prog 41 #[.agg #[.bool cN, .string cS], .agg #[.bool dN, .string dS]] w1 fun e w' => e = .returned (.agg #[.bool qN, .string qS]) ∧ Below w1.heap.size w1 w')) :
  Calls Tryz.prog 51 #[.agg #[.bool n0, .string s0, .string d0], .agg #[.bool n1, .string s1, .string d1]] w fun e w' => e = .returned (.tuple #[.agg #[.bool pN, .string pS, .string qS], .int .i64 0]) ∧ Below w.heap.size w w' := by
 go_enter Tryz.func51, Tryz.ntmps51
 go_wp2_with fail
 obtain ⟨w1, hw, ka, kb, kr, b1⟩ := mk3 w [.bool n0, .string s0, .string d0] [.bool n1, .string s1, .string d1] [.bool false, .string { data := #[] }, .string { data := #[] }] 26 26 26
 rw [← hw]
 clear hw
 have sz := b1.size
 have ta := ka.lt
 have tb := kb.lt
 have tr := kr.lt
 have bb := b1
 clear b1
 have mkS : ∀ w', Below w1.heap.size w1 w' → (Below w1.heap.size w1 w' ∧ w'.cell? ⟨w.heap.size, 0, none⟩ = some (.bool n0) ∧ w'.cell? ⟨w.heap.size, 1, none⟩ = some (.string s0) ∧ w'.cell? ⟨w.heap.size, 2, none⟩ = some (.string d0) ∧ w'.cell? ⟨w.heap.size + 1, 0, none⟩ = some (.bool n1) ∧ w'.cell? ⟨w.heap.size + 1, 1, none⟩ = some (.string s1) ∧ w'.cell? ⟨w.heap.size + 1, 2, none⟩ = some (.string d1)) := fun w' h => ⟨h, cel3_0 (ka.below h), cel3_1 (ka.below h), cel3_2 (ka.below h), cel3_0 (kb.below h), cel3_1 (kb.below h), cel3_2 (kb.below h)⟩
 have bcS : ∀ w', (Below w1.heap.size w1 w' ∧ w'.cell? ⟨w.heap.size, 0, none⟩ = some (.bool n0) ∧ w'.cell? ⟨w.heap.size, 1, none⟩ = some (.string s0) ∧ w'.cell? ⟨w.heap.size, 2, none⟩ = some (.string d0) ∧ w'.cell? ⟨w.heap.size + 1, 0, none⟩ = some (.bool n1) ∧ w'.cell? ⟨w.heap.size + 1, 1, none⟩ = some (.string s1) ∧ w'.cell? ⟨w.heap.size + 1, 2, none⟩ = some (.string d1)) → Below w1.heap.size w1 w' := fun w' h => h.1
 replace mkS := shut mkS
 replace bcS := shut bcS
 go_cut [6, 7] from 10 to 19 (fun v u wx => ∃ gc gd, v = .pointer (some ⟨gc, 0, none⟩) ∧ u = .pointer (some ⟨gd, 0, none⟩) ∧ w1.heap.size ≤ gc ∧ w1.heap.size ≤ gd ∧ Cel wx gc [.bool gN, .string gS] 24 ∧ Cel wx gd [.bool eN, .string eS] 24 ∧ Below w1.heap.size w1 wx)
 case first =>
  clear H3 H4 H5 H6 H7 H8 kr
  refine wp_region_held_drew (S := (fun w' => Below w1.heap.size w1 w' ∧ w'.cell? ⟨w.heap.size, 0, none⟩ = some (.bool n0) ∧ w'.cell? ⟨w.heap.size, 1, none⟩ = some (.string s0) ∧ w'.cell? ⟨w.heap.size, 2, none⟩ = some (.string d0) ∧ w'.cell? ⟨w.heap.size + 1, 0, none⟩ = some (.bool n1) ∧ w'.cell? ⟨w.heap.size + 1, 1, none⟩ = some (.string s1) ∧ w'.cell? ⟨w.heap.size + 1, 2, none⟩ = some (.string d1))) (by kernel_rfl) (mkS.out _ (bdrew _)) (fun _ => ?_)
  refine absO 14 (by kernel_rfl) (fun ops q SP hops hq hSP => ?_)
  obtain ⟨fr, hfr⟩ : ∃ fr : Value → Value → Value → Value → Value → Value → Act, fr = (fun x6 x7 x13 x14 x18 x19 => { tmps := #[.agg #[.bool n0, .string s0, .string d0], .agg #[.bool n1, .string s1, .string d1], .pointer (some ⟨w.heap.size, 0, none⟩), .pointer (some ⟨w.heap.size + 1, 0, none⟩), .pointer (some ⟨w.heap.size + 1 + 1, 0, none⟩), .int .i64 0, x6, x7, undef, undef, .pointer (some ⟨w.heap.size, 0, none⟩), .agg #[.bool n0, .string s0], .agg #[.bool n1, .string s1, .string d1], x13, x14, .pointer (some ⟨w.heap.size + 1, 0, none⟩), .agg #[.bool n1, .string s1], .agg #[.bool n0, .string s0, .string d0], x18, x19, undef, undef, undef, undef, undef, undef, undef, undef, undef, undef, undef, undef, undef, undef, undef, undef, undef, undef, undef, undef, undef, undef], defers := [] }) := ⟨_, rfl⟩
  have L4_01 : Hid (∀ (g0 : Nat) (g1 : Nat) (w' : World) (hS : SP w') (k0 : Cel w' g0 [.bool false, .string { data := #[] }] 24) (h0 : w1.heap.size ≤ g0) (k1 : Cel w' g1 [.bool false, .string { data := #[] }] 24) (h1 : w1.heap.size ≤ g1) (n01 : ¬ g0 = g1), wpAnyH Tryz.prog .any ops q SP 2 (ls 14 [0, 1, 2, 3, 4, 5, 6, 7, 8, 9, 10, 11]) (fr (.pointer (some ⟨g0, 0, none⟩)) (.pointer (some ⟨g1, 0, none⟩)) (.agg #[.bool false, .string d1]) (.agg #[.bool gN, .string gS]) (.agg #[.bool false, .string d0]) (.agg #[.bool eN, .string eS])) w') := by
   subst hops hq hSP hfr
   intro g0 g1 w' hS k0 h0 k1 h1 n01
   have bc := bcS.out _ hS
   dsimp only
   have e0_0 := cel2_0' k0
   have f0_0 := Cel.frozen k0 0
   have e0_1 := cel2_1' k0
   have f0_1 := Cel.frozen k0 1
   refine rdy [12] (by kernel_rfl) ?_
   refine AllReadyH.cons (o := _) rfl (fun K hK => ?_) AllReadyH.nil
   simp only [List.getElem_toArray, List.getElem_cons_succ, List.getElem_cons_zero]
   go_simp
   try go_wp2_with fail
   clear e0_0 f0_0 e0_1 f0_1
   refine hK.out _ _ (mkS.out _ (bset (bset bc h0 0 (.bool gN)) h0 1 (.string gS))) (fun hS => ?_)
   clear hK K
   replace k0 := (Cel.set (Cel.set k0 0 (.bool gN)) 1 (.string gS))
   replace k1 := (Cel.other (Cel.other k1 (fun e => n01 e.symm) 0 (.bool gN)) (fun e => n01 e.symm) 1 (.string gS))
   replace bc := (bset (bset bc h0 0 (.bool gN)) h0 1 (.string gS))
   have e1_0 := cel2_0' k1
   have f1_0 := Cel.frozen k1 0
   have e1_1 := cel2_1' k1
   have f1_1 := Cel.frozen k1 1
   refine rdy [13] (by kernel_rfl) ?_
   refine AllReadyH.cons (o := _) rfl (fun K hK => ?_) AllReadyH.nil
   simp only [List.getElem_toArray, List.getElem_cons_succ, List.getElem_cons_zero]
   go_simp
   try go_wp2_with fail
   clear e1_0 f1_0 e1_1 f1_1
   refine hK.out _ _ (mkS.out _ (bset (bset bc h1 0 (.bool eN)) h1 1 (.string eS))) (fun hS => ?_)
   clear hK K
   replace k0 := (Cel.other (Cel.other k0 n01 0 (.bool eN)) n01 1 (.string eS))
   replace k1 := (Cel.set (Cel.set k1 0 (.bool eN)) 1 (.string eS))
   replace bc := (bset (bset bc h1 0 (.bool eN)) h1 1 (.string eS))
   refine wpAnyH_done (by kernel_rfl) ?_ _
   go_wp2_with fail
   go_meet
   exact ⟨_, _, rfl, rfl, h0, h1, k0, k1, bc⟩
  have L4_0 : Hid (∀ (g0 : Nat) (w' : World) (hS : SP w') (k0 : Cel w' g0 [.bool false, .string { data := #[] }] 24) (h0 : w1.heap.size ≤ g0), wpAnyH Tryz.prog .any ops q SP 3 (ls 14 [0, 1, 2, 3, 4, 5, 6, 7, 8, 9, 10]) (fr (.pointer (some ⟨g0, 0, none⟩)) undef (.agg #[.bool false, .string d1]) (.agg #[.bool gN, .string gS]) (.agg #[.bool false, .string d0]) (.agg #[.bool eN, .string eS])) w') := by
   subst hops hq hSP hfr
   intro g0 w' hS k0 h0
   have bc := bcS.out _ hS
   dsimp only
   refine rdy [11] (by kernel_rfl) ?_
   refine AllReadyH.cons (o := _) rfl (fun K hK => ?_) AllReadyH.nil
   ·simp only [List.getElem_toArray, List.getElem_cons_succ, List.getElem_cons_zero]
    go_simp
    try go_wp2_with fail
    refine hK.out _ _ (mkS.out _ (ba bc _)) (fun hS => ?_)
    clear hK K
    exact lst (L4_01.out g0 _ _ hS (k0.alloc _) h0 (Cel.new w' _ _) bc.size (by have := k0.lt; omega)) (by kernel_rfl)
  have L4_1 : Hid (∀ (g1 : Nat) (w' : World) (hS : SP w') (k1 : Cel w' g1 [.bool false, .string { data := #[] }] 24) (h1 : w1.heap.size ≤ g1), wpAnyH Tryz.prog .any ops q SP 3 (ls 14 [0, 1, 2, 3, 4, 5, 6, 7, 8, 9, 11]) (fr undef (.pointer (some ⟨g1, 0, none⟩)) (.agg #[.bool false, .string d1]) (.agg #[.bool gN, .string gS]) (.agg #[.bool false, .string d0]) (.agg #[.bool eN, .string eS])) w') := by
   clear L4_0
   subst hops hq hSP hfr
   intro g1 w' hS k1 h1
   have bc := bcS.out _ hS
   dsimp only
   refine rdy [10] (by kernel_rfl) ?_
   refine AllReadyH.cons (o := _) rfl (fun K hK => ?_) AllReadyH.nil
   ·simp only [List.getElem_toArray, List.getElem_cons_succ, List.getElem_cons_zero]
    go_simp
    try go_wp2_with fail
    refine hK.out _ _ (mkS.out _ (ba bc _)) (fun hS => ?_)
    clear hK K
    exact lst (L4_01.out _ g1 _ hS (Cel.new w' _ _) bc.size (k1.alloc _) h1 (by have := k1.lt; omega)) (by kernel_rfl)
  have L4_ : Hid (∀ (w' : World) (hS : SP w'), wpAnyH Tryz.prog .any ops q SP 4 (ls 14 [0, 1, 2, 3, 4, 5, 6, 7, 8, 9]) (fr undef undef (.agg #[.bool false, .string d1]) (.agg #[.bool gN, .string gS]) (.agg #[.bool false, .string d0]) (.agg #[.bool eN, .string eS])) w') := by
   clear L4_01
   subst hops hq hSP hfr
   intro w' hS
   have bc := bcS.out _ hS
   dsimp only
   refine rdy [10, 11] (by kernel_rfl) ?_
   refine AllReadyH.cons (o := _) rfl (fun K hK => ?_) (AllReadyH.cons (o := _) rfl (fun K hK => ?_) AllReadyH.nil)
   ·simp only [List.getElem_toArray, List.getElem_cons_succ, List.getElem_cons_zero]
    go_simp
    try go_wp2_with fail
    refine hK.out _ _ (mkS.out _ (ba bc _)) (fun hS => ?_)
    clear hK K
    exact lst (L4_0.out _ _ hS (Cel.new w' _ _) bc.size) (by kernel_rfl)
   ·simp only [List.getElem_toArray, List.getElem_cons_succ, List.getElem_cons_zero]
    go_simp
    try go_wp2_with fail
    refine hK.out _ _ (mkS.out _ (ba bc _)) (fun hS => ?_)
    clear hK K
    exact lst (L4_1.out _ _ hS (Cel.new w' _ _) bc.size) (by kernel_rfl)
  have L3_01 : Hid (∀ (g0 : Nat) (g1 : Nat) (w' : World) (hS : SP w') (k0 : Cel w' g0 [.bool false, .string { data := #[] }] 24) (h0 : w1.heap.size ≤ g0) (k1 : Cel w' g1 [.bool false, .string { data := #[] }] 24) (h1 : w1.heap.size ≤ g1) (n01 : ¬ g0 = g1), wpAnyH Tryz.prog .any ops q SP 3 (ls 14 [0, 1, 2, 3, 4, 5, 6, 7, 8, 10, 11]) (fr (.pointer (some ⟨g0, 0, none⟩)) (.pointer (some ⟨g1, 0, none⟩)) (.agg #[.bool false, .string d1]) (.agg #[.bool gN, .string gS]) (.agg #[.bool false, .string d0]) undef) w') := by
   clear L4_0 L4_1 L4_
   subst hops hq hSP hfr
   intro g0 g1 w' hS k0 h0 k1 h1 n01
   have bc := bcS.out _ hS
   dsimp only
   refine rdy [9] (by kernel_rfl) ?_
   refine AllReadyH.cons (o := _) rfl (fun K hK => ?_) AllReadyH.nil
   ·simp only [List.getElem_toArray, List.getElem_cons_succ, List.getElem_cons_zero]
    go_simp
    go_fit (H2.out _ ?_)
    ·exact Below.after bb bc
    rintro e wn ⟨rfl, bn⟩
    have bcn := Below.after bc bn
    try go_wp2_with fail
    refine hK.out _ _ (mkS.out _ bcn) (fun hS => ?_)
    clear hK K
    exact lst (L4_01.out g0 g1 wn hS (k0.below bn) h0 (k1.below bn) h1 n01) (by kernel_rfl)
  have L3_0 : Hid (∀ (g0 : Nat) (w' : World) (hS : SP w') (k0 : Cel w' g0 [.bool false, .string { data := #[] }] 24) (h0 : w1.heap.size ≤ g0), wpAnyH Tryz.prog .any ops q SP 4 (ls 14 [0, 1, 2, 3, 4, 5, 6, 7, 8, 10]) (fr (.pointer (some ⟨g0, 0, none⟩)) undef (.agg #[.bool false, .string d1]) (.agg #[.bool gN, .string gS]) (.agg #[.bool false, .string d0]) undef) w') := by
   clear L4_01 L4_1 L4_
   subst hops hq hSP hfr
   intro g0 w' hS k0 h0
   have bc := bcS.out _ hS
   dsimp only
   refine rdy [9, 11] (by kernel_rfl) ?_
   refine AllReadyH.cons (o := _) rfl (fun K hK => ?_) (AllReadyH.cons (o := _) rfl (fun K hK => ?_) AllReadyH.nil)
   ·simp only [List.getElem_toArray, List.getElem_cons_succ, List.getElem_cons_zero]
    go_simp
    go_fit (H2.out _ ?_)
    ·exact Below.after bb bc
    rintro e wn ⟨rfl, bn⟩
    have bcn := Below.after bc bn
    try go_wp2_with fail
    refine hK.out _ _ (mkS.out _ bcn) (fun hS => ?_)
    clear hK K
    exact lst (L4_0.out g0 wn hS (k0.below bn) h0) (by kernel_rfl)
   ·simp only [List.getElem_toArray, List.getElem_cons_succ, List.getElem_cons_zero]
    go_simp
    try go_wp2_with fail
    refine hK.out _ _ (mkS.out _ (ba bc _)) (fun hS => ?_)
    clear hK K
    exact lst (L3_01.out g0 _ _ hS (k0.alloc _) h0 (Cel.new w' _ _) bc.size (by have := k0.lt; omega)) (by kernel_rfl)
  have L3_1 : Hid (∀ (g1 : Nat) (w' : World) (hS : SP w') (k1 : Cel w' g1 [.bool false, .string { data := #[] }] 24) (h1 : w1.heap.size ≤ g1), wpAnyH Tryz.prog .any ops q SP 4 (ls 14 [0, 1, 2, 3, 4, 5, 6, 7, 8, 11]) (fr undef (.pointer (some ⟨g1, 0, none⟩)) (.agg #[.bool false, .string d1]) (.agg #[.bool gN, .string gS]) (.agg #[.bool false, .string d0]) undef) w') := by
   clear L4_01 L4_0 L4_ L3_0
   subst hops hq hSP hfr
   intro g1 w' hS k1 h1
   have bc := bcS.out _ hS
   dsimp only
   refine rdy [9, 10] (by kernel_rfl) ?_
   refine AllReadyH.cons (o := _) rfl (fun K hK => ?_) (AllReadyH.cons (o := _) rfl (fun K hK => ?_) AllReadyH.nil)
   ·simp only [List.getElem_toArray, List.getElem_cons_succ, List.getElem_cons_zero]
    go_simp
    go_fit (H2.out _ ?_)
    ·exact Below.after bb bc
    rintro e wn ⟨rfl, bn⟩
    have bcn := Below.after bc bn
    try go_wp2_with fail
    refine hK.out _ _ (mkS.out _ bcn) (fun hS => ?_)
    clear hK K
    exact lst (L4_1.out g1 wn hS (k1.below bn) h1) (by kernel_rfl)
   ·simp only [List.getElem_toArray, List.getElem_cons_succ, List.getElem_cons_zero]
    go_simp
    try go_wp2_with fail
    refine hK.out _ _ (mkS.out _ (ba bc _)) (fun hS => ?_)
    clear hK K
    exact lst (L3_01.out _ g1 _ hS (Cel.new w' _ _) bc.size (k1.alloc _) h1 (by have := k1.lt; omega)) (by kernel_rfl)
  have L3_ : Hid (∀ (w' : World) (hS : SP w'), wpAnyH Tryz.prog .any ops q SP 5 (ls 14 [0, 1, 2, 3, 4, 5, 6, 7, 8]) (fr undef undef (.agg #[.bool false, .string d1]) (.agg #[.bool gN, .string gS]) (.agg #[.bool false, .string d0]) undef) w') := by
   clear L4_01 L4_0 L4_1 L3_01
   subst hops hq hSP hfr
   intro w' hS
   have bc := bcS.out _ hS
   dsimp only
   refine rdy [9, 10, 11] (by kernel_rfl) ?_
   refine AllReadyH.cons (o := _) rfl (fun K hK => ?_) (AllReadyH.cons (o := _) rfl (fun K hK => ?_) (AllReadyH.cons (o := _) rfl (fun K hK => ?_) AllReadyH.nil))
   ·simp only [List.getElem_toArray, List.getElem_cons_succ, List.getElem_cons_zero]
    go_simp
    go_fit (H2.out _ ?_)
    ·exact Below.after bb bc
    rintro e wn ⟨rfl, bn⟩
    have bcn := Below.after bc bn
    try go_wp2_with fail
    refine hK.out _ _ (mkS.out _ bcn) (fun hS => ?_)
    clear hK K
    exact lst (L4_.out wn hS) (by kernel_rfl)
   ·simp only [List.getElem_toArray, List.getElem_cons_succ, List.getElem_cons_zero]
    go_simp
    try go_wp2_with fail
    refine hK.out _ _ (mkS.out _ (ba bc _)) (fun hS => ?_)
    clear hK K
    exact lst (L3_0.out _ _ hS (Cel.new w' _ _) bc.size) (by kernel_rfl)
   ·simp only [List.getElem_toArray, List.getElem_cons_succ, List.getElem_cons_zero]
    go_simp
    try go_wp2_with fail
    refine hK.out _ _ (mkS.out _ (ba bc _)) (fun hS => ?_)
    clear hK K
    exact lst (L3_1.out _ _ hS (Cel.new w' _ _) bc.size) (by kernel_rfl)
  have L2_01 : Hid (∀ (g0 : Nat) (g1 : Nat) (w' : World) (hS : SP w') (k0 : Cel w' g0 [.bool false, .string { data := #[] }] 24) (h0 : w1.heap.size ≤ g0) (k1 : Cel w' g1 [.bool false, .string { data := #[] }] 24) (h1 : w1.heap.size ≤ g1) (n01 : ¬ g0 = g1), wpAnyH Tryz.prog .any ops q SP 4 (ls 14 [0, 1, 2, 3, 4, 5, 6, 7, 10, 11]) (fr (.pointer (some ⟨g0, 0, none⟩)) (.pointer (some ⟨g1, 0, none⟩)) (.agg #[.bool false, .string d1]) (.agg #[.bool gN, .string gS]) undef undef) w') := by
   clear L4_01 L4_0 L4_1 L4_ L3_0 L3_1 L3_
   subst hops hq hSP hfr
   intro g0 g1 w' hS k0 h0 k1 h1 n01
   have bc := bcS.out _ hS
   dsimp only
   refine rdy [8] (by kernel_rfl) ?_
   refine AllReadyH.cons (o := _) rfl (fun K hK => ?_) AllReadyH.nil
   ·simp only [List.getElem_toArray, List.getElem_cons_succ, List.getElem_cons_zero]
    go_simp
    go_fit (den_any n0 s0 d0 _)
    rintro e wn ⟨rfl, bn⟩
    have bcn := Below.after bc bn
    try go_wp2_with fail
    refine hK.out _ _ (mkS.out _ bcn) (fun hS => ?_)
    clear hK K
    exact lst (L3_01.out g0 g1 wn hS (k0.below bn) h0 (k1.below bn) h1 n01) (by kernel_rfl)
  have L2_0 : Hid (∀ (g0 : Nat) (w' : World) (hS : SP w') (k0 : Cel w' g0 [.bool false, .string { data := #[] }] 24) (h0 : w1.heap.size ≤ g0), wpAnyH Tryz.prog .any ops q SP 5 (ls 14 [0, 1, 2, 3, 4, 5, 6, 7, 10]) (fr (.pointer (some ⟨g0, 0, none⟩)) undef (.agg #[.bool false, .string d1]) (.agg #[.bool gN, .string gS]) undef undef) w') := by
   clear L4_01 L4_0 L4_1 L4_ L3_01 L3_1 L3_
   subst hops hq hSP hfr
   intro g0 w' hS k0 h0
   have bc := bcS.out _ hS
   dsimp only
   refine rdy [8, 11] (by kernel_rfl) ?_
   refine AllReadyH.cons (o := _) rfl (fun K hK => ?_) (AllReadyH.cons (o := _) rfl (fun K hK => ?_) AllReadyH.nil)
   ·simp only [List.getElem_toArray, List.getElem_cons_succ, List.getElem_cons_zero]
    go_simp
    go_fit (den_any n0 s0 d0 _)
    rintro e wn ⟨rfl, bn⟩
    have bcn := Below.after bc bn
    try go_wp2_with fail
    refine hK.out _ _ (mkS.out _ bcn) (fun hS => ?_)
    clear hK K
    exact lst (L3_0.out g0 wn hS (k0.below bn) h0) (by kernel_rfl)
   ·simp only [List.getElem_toArray, List.getElem_cons_succ, List.getElem_cons_zero]
    go_simp
    try go_wp2_with fail
    refine hK.out _ _ (mkS.out _ (ba bc _)) (fun hS => ?_)
    clear hK K
    exact lst (L2_01.out g0 _ _ hS (k0.alloc _) h0 (Cel.new w' _ _) bc.size (by have := k0.lt; omega)) (by kernel_rfl)
  have L2_1 : Hid (∀ (g1 : Nat) (w' : World) (hS : SP w') (k1 : Cel w' g1 [.bool false, .string { data := #[] }] 24) (h1 : w1.heap.size ≤ g1), wpAnyH Tryz.prog .any ops q SP 5 (ls 14 [0, 1, 2, 3, 4, 5, 6, 7, 11]) (fr undef (.pointer (some ⟨g1, 0, none⟩)) (.agg #[.bool false, .string d1]) (.agg #[.bool gN, .string gS]) undef undef) w') := by
   clear L4_01 L4_0 L4_1 L4_ L3_01 L3_0 L3_ L2_0
   subst hops hq hSP hfr
   intro g1 w' hS k1 h1
   have bc := bcS.out _ hS
   dsimp only
   refine rdy [8, 10] (by kernel_rfl) ?_
   refine AllReadyH.cons (o := _) rfl (fun K hK => ?_) (AllReadyH.cons (o := _) rfl (fun K hK => ?_) AllReadyH.nil)
   ·simp only [List.getElem_toArray, List.getElem_cons_succ, List.getElem_cons_zero]
    go_simp
    go_fit (den_any n0 s0 d0 _)
    rintro e wn ⟨rfl, bn⟩
    have bcn := Below.after bc bn
    try go_wp2_with fail
    refine hK.out _ _ (mkS.out _ bcn) (fun hS => ?_)
    clear hK K
    exact lst (L3_1.out g1 wn hS (k1.below bn) h1) (by kernel_rfl)
   ·simp only [List.getElem_toArray, List.getElem_cons_succ, List.getElem_cons_zero]
    go_simp
    try go_wp2_with fail
    refine hK.out _ _ (mkS.out _ (ba bc _)) (fun hS => ?_)
    clear hK K
    exact lst (L2_01.out _ g1 _ hS (Cel.new w' _ _) bc.size (k1.alloc _) h1 (by have := k1.lt; omega)) (by kernel_rfl)
  have L2_ : Hid (∀ (w' : World) (hS : SP w'), wpAnyH Tryz.prog .any ops q SP 6 (ls 14 [0, 1, 2, 3, 4, 5, 6, 7]) (fr undef undef (.agg #[.bool false, .string d1]) (.agg #[.bool gN, .string gS]) undef undef) w') := by
   clear L4_01 L4_0 L4_1 L4_ L3_01 L3_0 L3_1 L2_01
   subst hops hq hSP hfr
   intro w' hS
   have bc := bcS.out _ hS
   dsimp only
   refine rdy [8, 10, 11] (by kernel_rfl) ?_
   refine AllReadyH.cons (o := _) rfl (fun K hK => ?_) (AllReadyH.cons (o := _) rfl (fun K hK => ?_) (AllReadyH.cons (o := _) rfl (fun K hK => ?_) AllReadyH.nil))
   ·simp only [List.getElem_toArray, List.getElem_cons_succ, List.getElem_cons_zero]
    go_simp
    go_fit (den_any n0 s0 d0 _)
    rintro e wn ⟨rfl, bn⟩
    have bcn := Below.after bc bn
    try go_wp2_with fail
    refine hK.out _ _ (mkS.out _ bcn) (fun hS => ?_)
    clear hK K
    exact lst (L3_.out wn hS) (by kernel_rfl)
   ·simp only [List.getElem_toArray, List.getElem_cons_succ, List.getElem_cons_zero]
    go_simp
    try go_wp2_with fail
    refine hK.out _ _ (mkS.out _ (ba bc _)) (fun hS => ?_)
    clear hK K
    exact lst (L2_0.out _ _ hS (Cel.new w' _ _) bc.size) (by kernel_rfl)
   ·simp only [List.getElem_toArray, List.getElem_cons_succ, List.getElem_cons_zero]
    go_simp
    try go_wp2_with fail
    refine hK.out _ _ (mkS.out _ (ba bc _)) (fun hS => ?_)
    clear hK K
    exact lst (L2_1.out _ _ hS (Cel.new w' _ _) bc.size) (by kernel_rfl)
  have L1_01 : Hid (∀ (g0 : Nat) (g1 : Nat) (w' : World) (hS : SP w') (k0 : Cel w' g0 [.bool false, .string { data := #[] }] 24) (h0 : w1.heap.size ≤ g0) (k1 : Cel w' g1 [.bool false, .string { data := #[] }] 24) (h1 : w1.heap.size ≤ g1) (n01 : ¬ g0 = g1), wpAnyH Tryz.prog .any ops q SP 5 (ls 14 [0, 1, 2, 3, 5, 6, 7, 10, 11]) (fr (.pointer (some ⟨g0, 0, none⟩)) (.pointer (some ⟨g1, 0, none⟩)) (.agg #[.bool false, .string d1]) undef undef undef) w') := by
   clear L4_01 L4_0 L4_1 L4_ L3_01 L3_0 L3_1 L3_ L2_0 L2_1 L2_
   subst hops hq hSP hfr
   intro g0 g1 w' hS k0 h0 k1 h1 n01
   have bc := bcS.out _ hS
   dsimp only
   refine rdy [4] (by kernel_rfl) ?_
   refine AllReadyH.cons (o := _) rfl (fun K hK => ?_) AllReadyH.nil
   ·simp only [List.getElem_toArray, List.getElem_cons_succ, List.getElem_cons_zero]
    go_simp
    go_fit (H1.out _ ?_)
    ·exact Below.after bb bc
    rintro e wn ⟨rfl, bn⟩
    have bcn := Below.after bc bn
    try go_wp2_with fail
    refine hK.out _ _ (mkS.out _ bcn) (fun hS => ?_)
    clear hK K
    exact lst (L2_01.out g0 g1 wn hS (k0.below bn) h0 (k1.below bn) h1 n01) (by kernel_rfl)
  have L1_0 : Hid (∀ (g0 : Nat) (w' : World) (hS : SP w') (k0 : Cel w' g0 [.bool false, .string { data := #[] }] 24) (h0 : w1.heap.size ≤ g0), wpAnyH Tryz.prog .any ops q SP 6 (ls 14 [0, 1, 2, 3, 5, 6, 7, 10]) (fr (.pointer (some ⟨g0, 0, none⟩)) undef (.agg #[.bool false, .string d1]) undef undef undef) w') := by
   clear L4_01 L4_0 L4_1 L4_ L3_01 L3_0 L3_1 L3_ L2_01 L2_1 L2_
   subst hops hq hSP hfr
   intro g0 w' hS k0 h0
   have bc := bcS.out _ hS
   dsimp only
   refine rdy [4, 11] (by kernel_rfl) ?_
   refine AllReadyH.cons (o := _) rfl (fun K hK => ?_) (AllReadyH.cons (o := _) rfl (fun K hK => ?_) AllReadyH.nil)
   ·simp only [List.getElem_toArray, List.getElem_cons_succ, List.getElem_cons_zero]
    go_simp
    go_fit (H1.out _ ?_)
    ·exact Below.after bb bc
    rintro e wn ⟨rfl, bn⟩
    have bcn := Below.after bc bn
    try go_wp2_with fail
    refine hK.out _ _ (mkS.out _ bcn) (fun hS => ?_)
    clear hK K
    exact lst (L2_0.out g0 wn hS (k0.below bn) h0) (by kernel_rfl)
   ·simp only [List.getElem_toArray, List.getElem_cons_succ, List.getElem_cons_zero]
    go_simp
    try go_wp2_with fail
    refine hK.out _ _ (mkS.out _ (ba bc _)) (fun hS => ?_)
    clear hK K
    exact lst (L1_01.out g0 _ _ hS (k0.alloc _) h0 (Cel.new w' _ _) bc.size (by have := k0.lt; omega)) (by kernel_rfl)
  have L1_1 : Hid (∀ (g1 : Nat) (w' : World) (hS : SP w') (k1 : Cel w' g1 [.bool false, .string { data := #[] }] 24) (h1 : w1.heap.size ≤ g1), wpAnyH Tryz.prog .any ops q SP 6 (ls 14 [0, 1, 2, 3, 5, 6, 7, 11]) (fr undef (.pointer (some ⟨g1, 0, none⟩)) (.agg #[.bool false, .string d1]) undef undef undef) w') := by
   clear L4_01 L4_0 L4_1 L4_ L3_01 L3_0 L3_1 L3_ L2_01 L2_0 L2_ L1_0
   subst hops hq hSP hfr
   intro g1 w' hS k1 h1
   have bc := bcS.out _ hS
   dsimp only
   refine rdy [4, 10] (by kernel_rfl) ?_
   refine AllReadyH.cons (o := _) rfl (fun K hK => ?_) (AllReadyH.cons (o := _) rfl (fun K hK => ?_) AllReadyH.nil)
   ·simp only [List.getElem_toArray, List.getElem_cons_succ, List.getElem_cons_zero]
    go_simp
    go_fit (H1.out _ ?_)
    ·exact Below.after bb bc
    rintro e wn ⟨rfl, bn⟩
    have bcn := Below.after bc bn
    try go_wp2_with fail
    refine hK.out _ _ (mkS.out _ bcn) (fun hS => ?_)
    clear hK K
    exact lst (L2_1.out g1 wn hS (k1.below bn) h1) (by kernel_rfl)
   ·simp only [List.getElem_toArray, List.getElem_cons_succ, List.getElem_cons_zero]
    go_simp
    try go_wp2_with fail
    refine hK.out _ _ (mkS.out _ (ba bc _)) (fun hS => ?_)
    clear hK K
    exact lst (L1_01.out _ g1 _ hS (Cel.new w' _ _) bc.size (k1.alloc _) h1 (by have := k1.lt; omega)) (by kernel_rfl)
  have L1_ : Hid (∀ (w' : World) (hS : SP w'), wpAnyH Tryz.prog .any ops q SP 7 (ls 14 [0, 1, 2, 3, 5, 6, 7]) (fr undef undef (.agg #[.bool false, .string d1]) undef undef undef) w') := by
   clear L4_01 L4_0 L4_1 L4_ L3_01 L3_0 L3_1 L3_ L2_01 L2_0 L2_1 L1_01
   subst hops hq hSP hfr
   intro w' hS
   have bc := bcS.out _ hS
   dsimp only
   refine rdy [4, 10, 11] (by kernel_rfl) ?_
   refine AllReadyH.cons (o := _) rfl (fun K hK => ?_) (AllReadyH.cons (o := _) rfl (fun K hK => ?_) (AllReadyH.cons (o := _) rfl (fun K hK => ?_) AllReadyH.nil))
   ·simp only [List.getElem_toArray, List.getElem_cons_succ, List.getElem_cons_zero]
    go_simp
    go_fit (H1.out _ ?_)
    ·exact Below.after bb bc
    rintro e wn ⟨rfl, bn⟩
    have bcn := Below.after bc bn
    try go_wp2_with fail
    refine hK.out _ _ (mkS.out _ bcn) (fun hS => ?_)
    clear hK K
    exact lst (L2_.out wn hS) (by kernel_rfl)
   ·simp only [List.getElem_toArray, List.getElem_cons_succ, List.getElem_cons_zero]
    go_simp
    try go_wp2_with fail
    refine hK.out _ _ (mkS.out _ (ba bc _)) (fun hS => ?_)
    clear hK K
    exact lst (L1_0.out _ _ hS (Cel.new w' _ _) bc.size) (by kernel_rfl)
   ·simp only [List.getElem_toArray, List.getElem_cons_succ, List.getElem_cons_zero]
    go_simp
    try go_wp2_with fail
    refine hK.out _ _ (mkS.out _ (ba bc _)) (fun hS => ?_)
    clear hK K
    exact lst (L1_1.out _ _ hS (Cel.new w' _ _) bc.size) (by kernel_rfl)
  have L0_01 : Hid (∀ (g0 : Nat) (g1 : Nat) (w' : World) (hS : SP w') (k0 : Cel w' g0 [.bool false, .string { data := #[] }] 24) (h0 : w1.heap.size ≤ g0) (k1 : Cel w' g1 [.bool false, .string { data := #[] }] 24) (h1 : w1.heap.size ≤ g1) (n01 : ¬ g0 = g1), wpAnyH Tryz.prog .any ops q SP 6 (ls 14 [0, 1, 2, 5, 6, 7, 10, 11]) (fr (.pointer (some ⟨g0, 0, none⟩)) (.pointer (some ⟨g1, 0, none⟩)) undef undef undef undef) w') := by
   clear L4_01 L4_0 L4_1 L4_ L3_01 L3_0 L3_1 L3_ L2_01 L2_0 L2_1 L2_ L1_0 L1_1 L1_
   subst hops hq hSP hfr
   intro g0 g1 w' hS k0 h0 k1 h1 n01
   have bc := bcS.out _ hS
   dsimp only
   refine rdy [3] (by kernel_rfl) ?_
   refine AllReadyH.cons (o := _) rfl (fun K hK => ?_) AllReadyH.nil
   ·simp only [List.getElem_toArray, List.getElem_cons_succ, List.getElem_cons_zero]
    go_simp
    go_fit (den_any n1 s1 d1 _)
    rintro e wn ⟨rfl, bn⟩
    have bcn := Below.after bc bn
    try go_wp2_with fail
    refine hK.out _ _ (mkS.out _ bcn) (fun hS => ?_)
    clear hK K
    exact lst (L1_01.out g0 g1 wn hS (k0.below bn) h0 (k1.below bn) h1 n01) (by kernel_rfl)
  have L0_0 : Hid (∀ (g0 : Nat) (w' : World) (hS : SP w') (k0 : Cel w' g0 [.bool false, .string { data := #[] }] 24) (h0 : w1.heap.size ≤ g0), wpAnyH Tryz.prog .any ops q SP 7 (ls 14 [0, 1, 2, 5, 6, 7, 10]) (fr (.pointer (some ⟨g0, 0, none⟩)) undef undef undef undef undef) w') := by
   clear L4_01 L4_0 L4_1 L4_ L3_01 L3_0 L3_1 L3_ L2_01 L2_0 L2_1 L2_ L1_01 L1_1 L1_
   subst hops hq hSP hfr
   intro g0 w' hS k0 h0
   have bc := bcS.out _ hS
   dsimp only
   refine rdy [3, 11] (by kernel_rfl) ?_
   refine AllReadyH.cons (o := _) rfl (fun K hK => ?_) (AllReadyH.cons (o := _) rfl (fun K hK => ?_) AllReadyH.nil)
   ·simp only [List.getElem_toArray, List.getElem_cons_succ, List.getElem_cons_zero]
    go_simp
    go_fit (den_any n1 s1 d1 _)
    rintro e wn ⟨rfl, bn⟩
    have bcn := Below.after bc bn
    try go_wp2_with fail
    refine hK.out _ _ (mkS.out _ bcn) (fun hS => ?_)
    clear hK K
    exact lst (L1_0.out g0 wn hS (k0.below bn) h0) (by kernel_rfl)
   ·simp only [List.getElem_toArray, List.getElem_cons_succ, List.getElem_cons_zero]
    go_simp
    try go_wp2_with fail
    refine hK.out _ _ (mkS.out _ (ba bc _)) (fun hS => ?_)
    clear hK K
    exact lst (L0_01.out g0 _ _ hS (k0.alloc _) h0 (Cel.new w' _ _) bc.size (by have := k0.lt; omega)) (by kernel_rfl)
  have L0_1 : Hid (∀ (g1 : Nat) (w' : World) (hS : SP w') (k1 : Cel w' g1 [.bool false, .string { data := #[] }] 24) (h1 : w1.heap.size ≤ g1), wpAnyH Tryz.prog .any ops q SP 7 (ls 14 [0, 1, 2, 5, 6, 7, 11]) (fr undef (.pointer (some ⟨g1, 0, none⟩)) undef undef undef undef) w') := by
   clear L4_01 L4_0 L4_1 L4_ L3_01 L3_0 L3_1 L3_ L2_01 L2_0 L2_1 L2_ L1_01 L1_0 L1_ L0_0
   subst hops hq hSP hfr
   intro g1 w' hS k1 h1
   have bc := bcS.out _ hS
   dsimp only
   refine rdy [3, 10] (by kernel_rfl) ?_
   refine AllReadyH.cons (o := _) rfl (fun K hK => ?_) (AllReadyH.cons (o := _) rfl (fun K hK => ?_) AllReadyH.nil)
   ·simp only [List.getElem_toArray, List.getElem_cons_succ, List.getElem_cons_zero]
    go_simp
    go_fit (den_any n1 s1 d1 _)
    rintro e wn ⟨rfl, bn⟩
    have bcn := Below.after bc bn
    try go_wp2_with fail
    refine hK.out _ _ (mkS.out _ bcn) (fun hS => ?_)
    clear hK K
    exact lst (L1_1.out g1 wn hS (k1.below bn) h1) (by kernel_rfl)
   ·simp only [List.getElem_toArray, List.getElem_cons_succ, List.getElem_cons_zero]
    go_simp
    try go_wp2_with fail
    refine hK.out _ _ (mkS.out _ (ba bc _)) (fun hS => ?_)
    clear hK K
    exact lst (L0_01.out _ g1 _ hS (Cel.new w' _ _) bc.size (k1.alloc _) h1 (by have := k1.lt; omega)) (by kernel_rfl)
  have L0_ : Hid (∀ (w' : World) (hS : SP w'), wpAnyH Tryz.prog .any ops q SP 8 (ls 14 [0, 1, 2, 5, 6, 7]) (fr undef undef undef undef undef undef) w') := by
   clear L4_01 L4_0 L4_1 L4_ L3_01 L3_0 L3_1 L3_ L2_01 L2_0 L2_1 L2_ L1_01 L1_0 L1_1 L0_01
   subst hops hq hSP hfr
   intro w' hS
   have bc := bcS.out _ hS
   dsimp only
   refine rdy [3, 10, 11] (by kernel_rfl) ?_
   refine AllReadyH.cons (o := _) rfl (fun K hK => ?_) (AllReadyH.cons (o := _) rfl (fun K hK => ?_) (AllReadyH.cons (o := _) rfl (fun K hK => ?_) AllReadyH.nil))
   ·simp only [List.getElem_toArray, List.getElem_cons_succ, List.getElem_cons_zero]
    go_simp
    go_fit (den_any n1 s1 d1 _)
    rintro e wn ⟨rfl, bn⟩
    have bcn := Below.after bc bn
    try go_wp2_with fail
    refine hK.out _ _ (mkS.out _ bcn) (fun hS => ?_)
    clear hK K
    exact lst (L1_.out wn hS) (by kernel_rfl)
   ·simp only [List.getElem_toArray, List.getElem_cons_succ, List.getElem_cons_zero]
    go_simp
    try go_wp2_with fail
    refine hK.out _ _ (mkS.out _ (ba bc _)) (fun hS => ?_)
    clear hK K
    exact lst (L0_0.out _ _ hS (Cel.new w' _ _) bc.size) (by kernel_rfl)
   ·simp only [List.getElem_toArray, List.getElem_cons_succ, List.getElem_cons_zero]
    go_simp
    try go_wp2_with fail
    refine hK.out _ _ (mkS.out _ (ba bc _)) (fun hS => ?_)
    clear hK K
    exact lst (L0_1.out _ _ hS (Cel.new w' _ _) bc.size) (by kernel_rfl)
  clear L4_01 L4_0 L4_1 L4_ L3_01 L3_0 L3_1 L3_ L2_01 L2_0 L2_1 L2_ L1_01 L1_0 L1_1 L1_ L0_01 L0_0 L0_1
  subst hops hq hSP hfr
  refine wpAnyH_take (i := 0) (oi := _) (v := ?_) rfl (by kernel_rfl) (by kernel_rfl) (by kernel_rfl) (fun _ _ _ h => h) (Or.inl ⟨by rfl, ?_⟩) (by assumption) ?_
  rotate_left
  ·(intro w hSw; (try dsimp only at hSw); go_simp; try with_reducible rfl)
  try simp only [Act.put, List.getElem_toArray, List.getElem_cons_zero, List.setIfInBounds_toArray, List.set_cons_zero, List.set_cons_succ]
  refine wpAnyH_take (i := 1) (oi := _) (v := ?_) rfl (by kernel_rfl) (by kernel_rfl) (by kernel_rfl) (fun _ _ _ h => h) (Or.inl ⟨by rfl, ?_⟩) (by assumption) ?_
  rotate_left
  ·(intro w hSw; (try dsimp only at hSw); go_simp; try with_reducible rfl)
  try simp only [Act.put, List.getElem_toArray, List.getElem_cons_succ, List.getElem_cons_zero, List.setIfInBounds_toArray, List.set_cons_zero, List.set_cons_succ]
  refine wpAnyH_take (i := 2) (oi := _) (v := ?_) rfl (by kernel_rfl) (by kernel_rfl) (by kernel_rfl) (fun _ _ _ h => h) (Or.inl ⟨by rfl, ?_⟩) (by assumption) ?_
  rotate_left
  ·(intro w hSw; (try dsimp only at hSw); go_simp; try with_reducible rfl)
  try simp only [Act.put, List.getElem_toArray, List.getElem_cons_succ, List.getElem_cons_zero, List.setIfInBounds_toArray, List.set_cons_zero, List.set_cons_succ]
  refine wpAnyH_take (i := 5) (oi := _) (v := ?_) rfl (by kernel_rfl) (by kernel_rfl) (by kernel_rfl) (fun _ _ _ h => h) (Or.inl ⟨by rfl, ?_⟩) (by assumption) ?_
  rotate_left
  ·(intro w hSw; (try dsimp only at hSw); go_simp; try with_reducible rfl)
  try simp only [Act.put, List.getElem_toArray, List.getElem_cons_succ, List.getElem_cons_zero, List.setIfInBounds_toArray, List.set_cons_zero, List.set_cons_succ]
  refine wpAnyH_take (i := 6) (oi := _) (v := ?_) rfl (by kernel_rfl) (by kernel_rfl) (by kernel_rfl) (fun _ _ _ h => h) (Or.inl ⟨by rfl, ?_⟩) (by assumption) ?_
  rotate_left
  ·(intro w hSw; (try dsimp only at hSw); go_simp; try with_reducible rfl)
  try simp only [Act.put, List.getElem_toArray, List.getElem_cons_succ, List.getElem_cons_zero, List.setIfInBounds_toArray, List.set_cons_zero, List.set_cons_succ]
  refine wpAnyH_take (i := 7) (oi := _) (v := ?_) rfl (by kernel_rfl) (by kernel_rfl) (by kernel_rfl) (fun _ _ _ h => h) (Or.inl ⟨by rfl, ?_⟩) (by assumption) ?_
  rotate_left
  ·(intro w hSw; (try dsimp only at hSw); go_simp; try with_reducible rfl)
  try simp only [Act.put, List.getElem_toArray, List.getElem_cons_succ, List.getElem_cons_zero, List.setIfInBounds_toArray, List.set_cons_zero, List.set_cons_succ]
  exact lst (L0_.out _ (mkS.out _ (bdrew _))) (by kernel_rfl)
 case rest =>
 obtain ⟨gg, ge, rfl, rfl, lg, le, kg, ke, b1⟩ := hcut
 clear mkS bcS
 have sz := b1.size
 replace ka := ka.below b1
 replace kb := kb.below b1
 replace kr := kr.below b1
 replace bb := Below.after bb b1
 clear b1
 have tg := kg.lt
 have te := ke.lt
 go_wp2_with fail
 have mkS : ∀ w', Below wc.heap.size wc w' → (Below wc.heap.size wc w' ∧ w'.cell? ⟨w.heap.size, 0, none⟩ = some (.bool n0) ∧ w'.cell? ⟨w.heap.size, 1, none⟩ = some (.string s0) ∧ w'.cell? ⟨w.heap.size, 2, none⟩ = some (.string d0) ∧ w'.cell? ⟨w.heap.size + 1, 0, none⟩ = some (.bool n1) ∧ w'.cell? ⟨w.heap.size + 1, 1, none⟩ = some (.string s1) ∧ w'.cell? ⟨w.heap.size + 1, 2, none⟩ = some (.string d1) ∧ w'.cell? ⟨gg, 0, none⟩ = some (.bool gN) ∧ w'.cell? ⟨gg, 1, none⟩ = some (.string gS) ∧ w'.cell? ⟨ge, 0, none⟩ = some (.bool eN) ∧ w'.cell? ⟨ge, 1, none⟩ = some (.string eS)) := fun w' h => ⟨h, cel3_0 (ka.below h), cel3_1 (ka.below h), cel3_2 (ka.below h), cel3_0 (kb.below h), cel3_1 (kb.below h), cel3_2 (kb.below h), cel2_0' (kg.below h), cel2_1' (kg.below h), cel2_0' (ke.below h), cel2_1' (ke.below h)⟩
 have bcS : ∀ w', (Below wc.heap.size wc w' ∧ w'.cell? ⟨w.heap.size, 0, none⟩ = some (.bool n0) ∧ w'.cell? ⟨w.heap.size, 1, none⟩ = some (.string s0) ∧ w'.cell? ⟨w.heap.size, 2, none⟩ = some (.string d0) ∧ w'.cell? ⟨w.heap.size + 1, 0, none⟩ = some (.bool n1) ∧ w'.cell? ⟨w.heap.size + 1, 1, none⟩ = some (.string s1) ∧ w'.cell? ⟨w.heap.size + 1, 2, none⟩ = some (.string d1) ∧ w'.cell? ⟨gg, 0, none⟩ = some (.bool gN) ∧ w'.cell? ⟨gg, 1, none⟩ = some (.string gS) ∧ w'.cell? ⟨ge, 0, none⟩ = some (.bool eN) ∧ w'.cell? ⟨ge, 1, none⟩ = some (.string eS)) → Below wc.heap.size wc w' := fun w' h => h.1
 replace mkS := shut mkS
 replace bcS := shut bcS
 go_cut [8] from 20 to 28 (fun v wx => ∃ gc, v = .pointer (some ⟨gc, 0, none⟩) ∧ wc.heap.size ≤ gc ∧ Cel wx gc [.bool pN, .string pS] 24 ∧ Below wc.heap.size wc wx)
 case first =>
  clear H1 H2 H6 H7 H8 kr
  refine wp_region_held_drew (S := (fun w' => Below wc.heap.size wc w' ∧ w'.cell? ⟨w.heap.size, 0, none⟩ = some (.bool n0) ∧ w'.cell? ⟨w.heap.size, 1, none⟩ = some (.string s0) ∧ w'.cell? ⟨w.heap.size, 2, none⟩ = some (.string d0) ∧ w'.cell? ⟨w.heap.size + 1, 0, none⟩ = some (.bool n1) ∧ w'.cell? ⟨w.heap.size + 1, 1, none⟩ = some (.string s1) ∧ w'.cell? ⟨w.heap.size + 1, 2, none⟩ = some (.string d1) ∧ w'.cell? ⟨gg, 0, none⟩ = some (.bool gN) ∧ w'.cell? ⟨gg, 1, none⟩ = some (.string gS) ∧ w'.cell? ⟨ge, 0, none⟩ = some (.bool eN) ∧ w'.cell? ⟨ge, 1, none⟩ = some (.string eS))) (by kernel_rfl) (mkS.out _ (bdrew _)) (fun _ => ?_)
  refine absO 11 (by kernel_rfl) (fun ops q SP hops hq hSP => ?_)
  obtain ⟨fr, hfr⟩ : ∃ fr : Value → Value → Value → Value → Act, fr = (fun x8 x23 x27 x28 => { tmps := #[.agg #[.bool n0, .string s0, .string d0], .agg #[.bool n1, .string s1, .string d1], .pointer (some ⟨w.heap.size, 0, none⟩), .pointer (some ⟨w.heap.size + 1, 0, none⟩), .pointer (some ⟨w.heap.size + 1 + 1, 0, none⟩), .int .i64 0, .pointer (some ⟨gg, 0, none⟩), .pointer (some ⟨ge, 0, none⟩), x8, undef, u10, u11, u12, u13, u14, u15, u16, u17, u18, u19, .pointer (some ⟨w.heap.size, 0, none⟩), .agg #[.bool n0, .string s0], .agg #[.bool gN, .string gS], x23, .pointer (some ⟨w.heap.size + 1, 0, none⟩), .agg #[.bool n1, .string s1], .agg #[.bool eN, .string eS], x27, x28, undef, undef, undef, undef, undef, undef, undef, undef, undef, undef, undef, undef, undef], defers := [] }) := ⟨_, rfl⟩
  have L3_0 : Hid (∀ (g0 : Nat) (w' : World) (hS : SP w') (k0 : Cel w' g0 [.bool false, .string { data := #[] }] 24) (h0 : wc.heap.size ≤ g0), wpAnyH Tryz.prog .any ops q SP 1 (ls 11 [0, 1, 2, 3, 4, 5, 6, 7, 8, 9]) (fr (.pointer (some ⟨g0, 0, none⟩)) (.agg #[.bool aN, .string aS]) (.agg #[.bool bN, .string bS]) (.agg #[.bool pN, .string pS])) w') := by
   subst hops hq hSP hfr
   intro g0 w' hS k0 h0
   have bc := bcS.out _ hS
   dsimp only
   have e0_0 := cel2_0' k0
   have f0_0 := Cel.frozen k0 0
   have e0_1 := cel2_1' k0
   have f0_1 := Cel.frozen k0 1
   refine rdy [10] (by kernel_rfl) ?_
   refine AllReadyH.cons (o := _) rfl (fun K hK => ?_) AllReadyH.nil
   simp only [List.getElem_toArray, List.getElem_cons_succ, List.getElem_cons_zero]
   go_simp
   try go_wp2_with fail
   clear e0_0 f0_0 e0_1 f0_1
   refine hK.out _ _ (mkS.out _ (bset (bset bc h0 0 (.bool pN)) h0 1 (.string pS))) (fun hS => ?_)
   clear hK K
   replace k0 := (Cel.set (Cel.set k0 0 (.bool pN)) 1 (.string pS))
   replace bc := (bset (bset bc h0 0 (.bool pN)) h0 1 (.string pS))
   refine wpAnyH_done (by kernel_rfl) ?_ _
   go_wp2_with fail
   go_meet
   exact ⟨_, rfl, h0, k0, bc⟩
  have L3_ : Hid (∀ (w' : World) (hS : SP w'), wpAnyH Tryz.prog .any ops q SP 2 (ls 11 [0, 1, 2, 3, 4, 5, 6, 7, 8]) (fr undef (.agg #[.bool aN, .string aS]) (.agg #[.bool bN, .string bS]) (.agg #[.bool pN, .string pS])) w') := by
   subst hops hq hSP hfr
   intro w' hS
   have bc := bcS.out _ hS
   dsimp only
   refine rdy [9] (by kernel_rfl) ?_
   refine AllReadyH.cons (o := _) rfl (fun K hK => ?_) AllReadyH.nil
   ·simp only [List.getElem_toArray, List.getElem_cons_succ, List.getElem_cons_zero]
    go_simp
    try go_wp2_with fail
    refine hK.out _ _ (mkS.out _ (ba bc _)) (fun hS => ?_)
    clear hK K
    exact lst (L3_0.out _ _ hS (Cel.new w' _ _) bc.size) (by kernel_rfl)
  have L2_0 : Hid (∀ (g0 : Nat) (w' : World) (hS : SP w') (k0 : Cel w' g0 [.bool false, .string { data := #[] }] 24) (h0 : wc.heap.size ≤ g0), wpAnyH Tryz.prog .any ops q SP 2 (ls 11 [0, 1, 2, 3, 4, 5, 6, 7, 9]) (fr (.pointer (some ⟨g0, 0, none⟩)) (.agg #[.bool aN, .string aS]) (.agg #[.bool bN, .string bS]) undef) w') := by
   clear L3_
   subst hops hq hSP hfr
   intro g0 w' hS k0 h0
   have bc := bcS.out _ hS
   dsimp only
   refine rdy [8] (by kernel_rfl) ?_
   refine AllReadyH.cons (o := _) rfl (fun K hK => ?_) AllReadyH.nil
   ·simp only [List.getElem_toArray, List.getElem_cons_succ, List.getElem_cons_zero]
    go_simp
    go_fit (H5.out _)
    rintro e wn ⟨rfl, bn⟩
    have bcn := Below.after bc bn
    try go_wp2_with fail
    refine hK.out _ _ (mkS.out _ bcn) (fun hS => ?_)
    clear hK K
    exact lst (L3_0.out g0 wn hS (k0.below bn) h0) (by kernel_rfl)
  have L2_ : Hid (∀ (w' : World) (hS : SP w'), wpAnyH Tryz.prog .any ops q SP 3 (ls 11 [0, 1, 2, 3, 4, 5, 6, 7]) (fr undef (.agg #[.bool aN, .string aS]) (.agg #[.bool bN, .string bS]) undef) w') := by
   clear L3_0
   subst hops hq hSP hfr
   intro w' hS
   have bc := bcS.out _ hS
   dsimp only
   refine rdy [8, 9] (by kernel_rfl) ?_
   refine AllReadyH.cons (o := _) rfl (fun K hK => ?_) (AllReadyH.cons (o := _) rfl (fun K hK => ?_) AllReadyH.nil)
   ·simp only [List.getElem_toArray, List.getElem_cons_succ, List.getElem_cons_zero]
    go_simp
    go_fit (H5.out _)
    rintro e wn ⟨rfl, bn⟩
    have bcn := Below.after bc bn
    try go_wp2_with fail
    refine hK.out _ _ (mkS.out _ bcn) (fun hS => ?_)
    clear hK K
    exact lst (L3_.out wn hS) (by kernel_rfl)
   ·simp only [List.getElem_toArray, List.getElem_cons_succ, List.getElem_cons_zero]
    go_simp
    try go_wp2_with fail
    refine hK.out _ _ (mkS.out _ (ba bc _)) (fun hS => ?_)
    clear hK K
    exact lst (L2_0.out _ _ hS (Cel.new w' _ _) bc.size) (by kernel_rfl)
  have L1_0 : Hid (∀ (g0 : Nat) (w' : World) (hS : SP w') (k0 : Cel w' g0 [.bool false, .string { data := #[] }] 24) (h0 : wc.heap.size ≤ g0), wpAnyH Tryz.prog .any ops q SP 3 (ls 11 [0, 1, 2, 3, 4, 5, 6, 9]) (fr (.pointer (some ⟨g0, 0, none⟩)) (.agg #[.bool aN, .string aS]) undef undef) w') := by
   clear L3_0 L3_ L2_
   subst hops hq hSP hfr
   intro g0 w' hS k0 h0
   have bc := bcS.out _ hS
   dsimp only
   refine rdy [7] (by kernel_rfl) ?_
   refine AllReadyH.cons (o := _) rfl (fun K hK => ?_) AllReadyH.nil
   ·simp only [List.getElem_toArray, List.getElem_cons_succ, List.getElem_cons_zero]
    go_simp
    go_fit (H4.out _)
    rintro e wn ⟨rfl, bn⟩
    have bcn := Below.after bc bn
    try go_wp2_with fail
    refine hK.out _ _ (mkS.out _ bcn) (fun hS => ?_)
    clear hK K
    exact lst (L2_0.out g0 wn hS (k0.below bn) h0) (by kernel_rfl)
  have L1_ : Hid (∀ (w' : World) (hS : SP w'), wpAnyH Tryz.prog .any ops q SP 4 (ls 11 [0, 1, 2, 3, 4, 5, 6]) (fr undef (.agg #[.bool aN, .string aS]) undef undef) w') := by
   clear L3_0 L3_ L2_0
   subst hops hq hSP hfr
   intro w' hS
   have bc := bcS.out _ hS
   dsimp only
   refine rdy [7, 9] (by kernel_rfl) ?_
   refine AllReadyH.cons (o := _) rfl (fun K hK => ?_) (AllReadyH.cons (o := _) rfl (fun K hK => ?_) AllReadyH.nil)
   ·simp only [List.getElem_toArray, List.getElem_cons_succ, List.getElem_cons_zero]
    go_simp
    go_fit (H4.out _)
    rintro e wn ⟨rfl, bn⟩
    have bcn := Below.after bc bn
    try go_wp2_with fail
    refine hK.out _ _ (mkS.out _ bcn) (fun hS => ?_)
    clear hK K
    exact lst (L2_.out wn hS) (by kernel_rfl)
   ·simp only [List.getElem_toArray, List.getElem_cons_succ, List.getElem_cons_zero]
    go_simp
    try go_wp2_with fail
    refine hK.out _ _ (mkS.out _ (ba bc _)) (fun hS => ?_)
    clear hK K
    exact lst (L1_0.out _ _ hS (Cel.new w' _ _) bc.size) (by kernel_rfl)
  have L0_0 : Hid (∀ (g0 : Nat) (w' : World) (hS : SP w') (k0 : Cel w' g0 [.bool false, .string { data := #[] }] 24) (h0 : wc.heap.size ≤ g0), wpAnyH Tryz.prog .any ops q SP 4 (ls 11 [0, 1, 2, 4, 5, 6, 9]) (fr (.pointer (some ⟨g0, 0, none⟩)) undef undef undef) w') := by
   clear L3_0 L3_ L2_0 L2_ L1_
   subst hops hq hSP hfr
   intro g0 w' hS k0 h0
   have bc := bcS.out _ hS
   dsimp only
   refine rdy [3] (by kernel_rfl) ?_
   refine AllReadyH.cons (o := _) rfl (fun K hK => ?_) AllReadyH.nil
   ·simp only [List.getElem_toArray, List.getElem_cons_succ, List.getElem_cons_zero]
    go_simp
    go_fit (H3.out _)
    rintro e wn ⟨rfl, bn⟩
    have bcn := Below.after bc bn
    try go_wp2_with fail
    refine hK.out _ _ (mkS.out _ bcn) (fun hS => ?_)
    clear hK K
    exact lst (L1_0.out g0 wn hS (k0.below bn) h0) (by kernel_rfl)
  have L0_ : Hid (∀ (w' : World) (hS : SP w'), wpAnyH Tryz.prog .any ops q SP 5 (ls 11 [0, 1, 2, 4, 5, 6]) (fr undef undef undef undef) w') := by
   clear L3_0 L3_ L2_0 L2_ L1_0
   subst hops hq hSP hfr
   intro w' hS
   have bc := bcS.out _ hS
   dsimp only
   refine rdy [3, 9] (by kernel_rfl) ?_
   refine AllReadyH.cons (o := _) rfl (fun K hK => ?_) (AllReadyH.cons (o := _) rfl (fun K hK => ?_) AllReadyH.nil)
   ·simp only [List.getElem_toArray, List.getElem_cons_succ, List.getElem_cons_zero]
    go_simp
    go_fit (H3.out _)
    rintro e wn ⟨rfl, bn⟩
    have bcn := Below.after bc bn
    try go_wp2_with fail
    refine hK.out _ _ (mkS.out _ bcn) (fun hS => ?_)
    clear hK K
    exact lst (L1_.out wn hS) (by kernel_rfl)
   ·simp only [List.getElem_toArray, List.getElem_cons_succ, List.getElem_cons_zero]
    go_simp
    try go_wp2_with fail
    refine hK.out _ _ (mkS.out _ (ba bc _)) (fun hS => ?_)
    clear hK K
    exact lst (L0_0.out _ _ hS (Cel.new w' _ _) bc.size) (by kernel_rfl)
  clear L3_0 L3_ L2_0 L2_ L1_0 L1_ L0_0
  subst hops hq hSP hfr
  refine wpAnyH_take (i := 0) (oi := _) (v := ?_) rfl (by kernel_rfl) (by kernel_rfl) (by kernel_rfl) (fun _ _ _ h => h) (Or.inl ⟨by rfl, ?_⟩) (by assumption) ?_
  rotate_left
  ·(intro w hSw; (try dsimp only at hSw); go_simp; try with_reducible rfl)
  try simp only [Act.put, List.getElem_toArray, List.getElem_cons_zero, List.setIfInBounds_toArray, List.set_cons_zero, List.set_cons_succ]
  refine wpAnyH_take (i := 1) (oi := _) (v := ?_) rfl (by kernel_rfl) (by kernel_rfl) (by kernel_rfl) (fun _ _ _ h => h) (Or.inl ⟨by rfl, ?_⟩) (by assumption) ?_
  rotate_left
  ·(intro w hSw; (try dsimp only at hSw); go_simp; try with_reducible rfl)
  try simp only [Act.put, List.getElem_toArray, List.getElem_cons_succ, List.getElem_cons_zero, List.setIfInBounds_toArray, List.set_cons_zero, List.set_cons_succ]
  refine wpAnyH_take (i := 2) (oi := _) (v := ?_) rfl (by kernel_rfl) (by kernel_rfl) (by kernel_rfl) (fun _ _ _ h => h) (Or.inl ⟨by rfl, ?_⟩) (by assumption) ?_
  rotate_left
  ·(intro w hSw; (try dsimp only at hSw); go_simp; try with_reducible rfl)
  try simp only [Act.put, List.getElem_toArray, List.getElem_cons_succ, List.getElem_cons_zero, List.setIfInBounds_toArray, List.set_cons_zero, List.set_cons_succ]
  refine wpAnyH_take (i := 4) (oi := _) (v := ?_) rfl (by kernel_rfl) (by kernel_rfl) (by kernel_rfl) (fun _ _ _ h => h) (Or.inl ⟨by rfl, ?_⟩) (by assumption) ?_
  rotate_left
  ·(intro w hSw; (try dsimp only at hSw); go_simp; try with_reducible rfl)
  try simp only [Act.put, List.getElem_toArray, List.getElem_cons_succ, List.getElem_cons_zero, List.setIfInBounds_toArray, List.set_cons_zero, List.set_cons_succ]
  refine wpAnyH_take (i := 5) (oi := _) (v := ?_) rfl (by kernel_rfl) (by kernel_rfl) (by kernel_rfl) (fun _ _ _ h => h) (Or.inl ⟨by rfl, ?_⟩) (by assumption) ?_
  rotate_left
  ·(intro w hSw; (try dsimp only at hSw); go_simp; try with_reducible rfl)
  try simp only [Act.put, List.getElem_toArray, List.getElem_cons_succ, List.getElem_cons_zero, List.setIfInBounds_toArray, List.set_cons_zero, List.set_cons_succ]
  refine wpAnyH_take (i := 6) (oi := _) (v := ?_) rfl (by kernel_rfl) (by kernel_rfl) (by kernel_rfl) (fun _ _ _ h => h) (Or.inl ⟨by rfl, ?_⟩) (by assumption) ?_
  rotate_left
  ·(intro w hSw; (try dsimp only at hSw); go_simp; try with_reducible rfl)
  try simp only [Act.put, List.getElem_toArray, List.getElem_cons_succ, List.getElem_cons_zero, List.setIfInBounds_toArray, List.set_cons_zero, List.set_cons_succ]
  exact lst (L0_.out _ (mkS.out _ (bdrew _))) (by kernel_rfl)
 case rest =>
 obtain ⟨gp, rfl, lp, kp, b1⟩ := hcut
 clear mkS bcS
 have sz := b1.size
 replace ka := ka.below b1
 replace kb := kb.below b1
 replace kr := kr.below b1
 replace kg := kg.below b1
 replace ke := ke.below b1
 replace bb := Below.after bb b1
 clear b1
 have tp := kp.lt
 go_wp2_with fail
 have mkS : ∀ w', Below wc.heap.size wc w' → (Below wc.heap.size wc w' ∧ w'.cell? ⟨w.heap.size, 0, none⟩ = some (.bool n0) ∧ w'.cell? ⟨w.heap.size, 1, none⟩ = some (.string s0) ∧ w'.cell? ⟨w.heap.size, 2, none⟩ = some (.string d0) ∧ w'.cell? ⟨w.heap.size + 1, 0, none⟩ = some (.bool n1) ∧ w'.cell? ⟨w.heap.size + 1, 1, none⟩ = some (.string s1) ∧ w'.cell? ⟨w.heap.size + 1, 2, none⟩ = some (.string d1) ∧ w'.cell? ⟨gg, 0, none⟩ = some (.bool gN) ∧ w'.cell? ⟨gg, 1, none⟩ = some (.string gS) ∧ w'.cell? ⟨ge, 0, none⟩ = some (.bool eN) ∧ w'.cell? ⟨ge, 1, none⟩ = some (.string eS)) := fun w' h => ⟨h, cel3_0 (ka.below h), cel3_1 (ka.below h), cel3_2 (ka.below h), cel3_0 (kb.below h), cel3_1 (kb.below h), cel3_2 (kb.below h), cel2_0' (kg.below h), cel2_1' (kg.below h), cel2_0' (ke.below h), cel2_1' (ke.below h)⟩
 have bcS : ∀ w', (Below wc.heap.size wc w' ∧ w'.cell? ⟨w.heap.size, 0, none⟩ = some (.bool n0) ∧ w'.cell? ⟨w.heap.size, 1, none⟩ = some (.string s0) ∧ w'.cell? ⟨w.heap.size, 2, none⟩ = some (.string d0) ∧ w'.cell? ⟨w.heap.size + 1, 0, none⟩ = some (.bool n1) ∧ w'.cell? ⟨w.heap.size + 1, 1, none⟩ = some (.string s1) ∧ w'.cell? ⟨w.heap.size + 1, 2, none⟩ = some (.string d1) ∧ w'.cell? ⟨gg, 0, none⟩ = some (.bool gN) ∧ w'.cell? ⟨gg, 1, none⟩ = some (.string gS) ∧ w'.cell? ⟨ge, 0, none⟩ = some (.bool eN) ∧ w'.cell? ⟨ge, 1, none⟩ = some (.string eS)) → Below wc.heap.size wc w' := fun w' h => h.1
 replace mkS := shut mkS
 replace bcS := shut bcS
 go_cut [9] from 29 to 37 (fun v wx => ∃ gc, v = .pointer (some ⟨gc, 0, none⟩) ∧ wc.heap.size ≤ gc ∧ Cel wx gc [.bool qN, .string qS] 24 ∧ Below wc.heap.size wc wx)
 case first =>
  clear H1 H2 H3 H4 H5 kr kp
  refine wp_region_held_drew (S := (fun w' => Below wc.heap.size wc w' ∧ w'.cell? ⟨w.heap.size, 0, none⟩ = some (.bool n0) ∧ w'.cell? ⟨w.heap.size, 1, none⟩ = some (.string s0) ∧ w'.cell? ⟨w.heap.size, 2, none⟩ = some (.string d0) ∧ w'.cell? ⟨w.heap.size + 1, 0, none⟩ = some (.bool n1) ∧ w'.cell? ⟨w.heap.size + 1, 1, none⟩ = some (.string s1) ∧ w'.cell? ⟨w.heap.size + 1, 2, none⟩ = some (.string d1) ∧ w'.cell? ⟨gg, 0, none⟩ = some (.bool gN) ∧ w'.cell? ⟨gg, 1, none⟩ = some (.string gS) ∧ w'.cell? ⟨ge, 0, none⟩ = some (.bool eN) ∧ w'.cell? ⟨ge, 1, none⟩ = some (.string eS))) (by kernel_rfl) (mkS.out _ (bdrew _)) (fun _ => ?_)
  refine absO 11 (by kernel_rfl) (fun ops q SP hops hq hSP => ?_)
  obtain ⟨fr, hfr⟩ : ∃ fr : Value → Value → Value → Value → Value → Value → Act, fr = (fun x9 x30 x32 x34 x36 x37 => { tmps := #[.agg #[.bool n0, .string s0, .string d0], .agg #[.bool n1, .string s1, .string d1], .pointer (some ⟨w.heap.size, 0, none⟩), .pointer (some ⟨w.heap.size + 1, 0, none⟩), .pointer (some ⟨w.heap.size + 1 + 1, 0, none⟩), .int .i64 0, .pointer (some ⟨gg, 0, none⟩), .pointer (some ⟨ge, 0, none⟩), .pointer (some ⟨gp, 0, none⟩), x9, u10, u11, u12, u13, u14, u15, u16, u17, u18, u19, u20, u21, u22, u23, u24, u25, u26, u27, u28, .agg #[.bool n0, .string s0, .string d0], x30, .agg #[.bool eN, .string eS], x32, .agg #[.bool n1, .string s1, .string d1], x34, .agg #[.bool gN, .string gS], x36, x37, undef, undef, undef, undef], defers := [] }) := ⟨_, rfl⟩
  have L5_0 : Hid (∀ (g0 : Nat) (w' : World) (hS : SP w') (k0 : Cel w' g0 [.bool false, .string { data := #[] }] 24) (h0 : wc.heap.size ≤ g0), wpAnyH Tryz.prog .any ops q SP 1 (ls 11 [0, 1, 2, 3, 4, 5, 6, 7, 8, 9]) (fr (.pointer (some ⟨g0, 0, none⟩)) (.agg #[.bool false, .string d0]) (.agg #[.bool cN, .string cS]) (.agg #[.bool false, .string d1]) (.agg #[.bool dN, .string dS]) (.agg #[.bool qN, .string qS])) w') := by
   subst hops hq hSP hfr
   intro g0 w' hS k0 h0
   have bc := bcS.out _ hS
   dsimp only
   have e0_0 := cel2_0' k0
   have f0_0 := Cel.frozen k0 0
   have e0_1 := cel2_1' k0
   have f0_1 := Cel.frozen k0 1
   refine rdy [10] (by kernel_rfl) ?_
   refine AllReadyH.cons (o := _) rfl (fun K hK => ?_) AllReadyH.nil
   simp only [List.getElem_toArray, List.getElem_cons_succ, List.getElem_cons_zero]
   go_simp
   try go_wp2_with fail
   clear e0_0 f0_0 e0_1 f0_1
   refine hK.out _ _ (mkS.out _ (bset (bset bc h0 0 (.bool qN)) h0 1 (.string qS))) (fun hS => ?_)
   clear hK K
   replace k0 := (Cel.set (Cel.set k0 0 (.bool qN)) 1 (.string qS))
   replace bc := (bset (bset bc h0 0 (.bool qN)) h0 1 (.string qS))
   refine wpAnyH_done (by kernel_rfl) ?_ _
   go_wp2_with fail
   go_meet
   exact ⟨_, rfl, h0, k0, bc⟩
  have L5_ : Hid (∀ (w' : World) (hS : SP w'), wpAnyH Tryz.prog .any ops q SP 2 (ls 11 [0, 1, 2, 3, 4, 5, 6, 7, 8]) (fr undef (.agg #[.bool false, .string d0]) (.agg #[.bool cN, .string cS]) (.agg #[.bool false, .string d1]) (.agg #[.bool dN, .string dS]) (.agg #[.bool qN, .string qS])) w') := by
   subst hops hq hSP hfr
   intro w' hS
   have bc := bcS.out _ hS
   dsimp only
   refine rdy [9] (by kernel_rfl) ?_
   refine AllReadyH.cons (o := _) rfl (fun K hK => ?_) AllReadyH.nil
   ·simp only [List.getElem_toArray, List.getElem_cons_succ, List.getElem_cons_zero]
    go_simp
    try go_wp2_with fail
    refine hK.out _ _ (mkS.out _ (ba bc _)) (fun hS => ?_)
    clear hK K
    exact lst (L5_0.out _ _ hS (Cel.new w' _ _) bc.size) (by kernel_rfl)
  have L4_0 : Hid (∀ (g0 : Nat) (w' : World) (hS : SP w') (k0 : Cel w' g0 [.bool false, .string { data := #[] }] 24) (h0 : wc.heap.size ≤ g0), wpAnyH Tryz.prog .any ops q SP 2 (ls 11 [0, 1, 2, 3, 4, 5, 6, 7, 9]) (fr (.pointer (some ⟨g0, 0, none⟩)) (.agg #[.bool false, .string d0]) (.agg #[.bool cN, .string cS]) (.agg #[.bool false, .string d1]) (.agg #[.bool dN, .string dS]) undef) w') := by
   clear L5_
   subst hops hq hSP hfr
   intro g0 w' hS k0 h0
   have bc := bcS.out _ hS
   dsimp only
   refine rdy [8] (by kernel_rfl) ?_
   refine AllReadyH.cons (o := _) rfl (fun K hK => ?_) AllReadyH.nil
   ·simp only [List.getElem_toArray, List.getElem_cons_succ, List.getElem_cons_zero]
    go_simp
    go_fit (H8.out _)
    rintro e wn ⟨rfl, bn⟩
    have bcn := Below.after bc bn
    try go_wp2_with fail
    refine hK.out _ _ (mkS.out _ bcn) (fun hS => ?_)
    clear hK K
    exact lst (L5_0.out g0 wn hS (k0.below bn) h0) (by kernel_rfl)
  have L4_ : Hid (∀ (w' : World) (hS : SP w'), wpAnyH Tryz.prog .any ops q SP 3 (ls 11 [0, 1, 2, 3, 4, 5, 6, 7]) (fr undef (.agg #[.bool false, .string d0]) (.agg #[.bool cN, .string cS]) (.agg #[.bool false, .string d1]) (.agg #[.bool dN, .string dS]) undef) w') := by
   clear L5_0
   subst hops hq hSP hfr
   intro w' hS
   have bc := bcS.out _ hS
   dsimp only
   refine rdy [8, 9] (by kernel_rfl) ?_
   refine AllReadyH.cons (o := _) rfl (fun K hK => ?_) (AllReadyH.cons (o := _) rfl (fun K hK => ?_) AllReadyH.nil)
   ·simp only [List.getElem_toArray, List.getElem_cons_succ, List.getElem_cons_zero]
    go_simp
    go_fit (H8.out _)
    rintro e wn ⟨rfl, bn⟩
    have bcn := Below.after bc bn
    try go_wp2_with fail
    refine hK.out _ _ (mkS.out _ bcn) (fun hS => ?_)
    clear hK K
    exact lst (L5_.out wn hS) (by kernel_rfl)
   ·simp only [List.getElem_toArray, List.getElem_cons_succ, List.getElem_cons_zero]
    go_simp
    try go_wp2_with fail
    refine hK.out _ _ (mkS.out _ (ba bc _)) (fun hS => ?_)
    clear hK K
    exact lst (L4_0.out _ _ hS (Cel.new w' _ _) bc.size) (by kernel_rfl)
  have L3_0 : Hid (∀ (g0 : Nat) (w' : World) (hS : SP w') (k0 : Cel w' g0 [.bool false, .string { data := #[] }] 24) (h0 : wc.heap.size ≤ g0), wpAnyH Tryz.prog .any ops q SP 3 (ls 11 [0, 1, 2, 3, 4, 5, 6, 9]) (fr (.pointer (some ⟨g0, 0, none⟩)) (.agg #[.bool false, .string d0]) (.agg #[.bool cN, .string cS]) (.agg #[.bool false, .string d1]) undef undef) w') := by
   clear L5_0 L5_ L4_
   subst hops hq hSP hfr
   intro g0 w' hS k0 h0
   have bc := bcS.out _ hS
   dsimp only
   refine rdy [7] (by kernel_rfl) ?_
   refine AllReadyH.cons (o := _) rfl (fun K hK => ?_) AllReadyH.nil
   ·simp only [List.getElem_toArray, List.getElem_cons_succ, List.getElem_cons_zero]
    go_simp
    go_fit (H7.out _)
    rintro e wn ⟨rfl, bn⟩
    have bcn := Below.after bc bn
    try go_wp2_with fail
    refine hK.out _ _ (mkS.out _ bcn) (fun hS => ?_)
    clear hK K
    exact lst (L4_0.out g0 wn hS (k0.below bn) h0) (by kernel_rfl)
  have L3_ : Hid (∀ (w' : World) (hS : SP w'), wpAnyH Tryz.prog .any ops q SP 4 (ls 11 [0, 1, 2, 3, 4, 5, 6]) (fr undef (.agg #[.bool false, .string d0]) (.agg #[.bool cN, .string cS]) (.agg #[.bool false, .string d1]) undef undef) w') := by
   clear L5_0 L5_ L4_0
   subst hops hq hSP hfr
   intro w' hS
   have bc := bcS.out _ hS
   dsimp only
   refine rdy [7, 9] (by kernel_rfl) ?_
   refine AllReadyH.cons (o := _) rfl (fun K hK => ?_) (AllReadyH.cons (o := _) rfl (fun K hK => ?_) AllReadyH.nil)
   ·simp only [List.getElem_toArray, List.getElem_cons_succ, List.getElem_cons_zero]
    go_simp
    go_fit (H7.out _)
    rintro e wn ⟨rfl, bn⟩
    have bcn := Below.after bc bn
    try go_wp2_with fail
    refine hK.out _ _ (mkS.out _ bcn) (fun hS => ?_)
    clear hK K
    exact lst (L4_.out wn hS) (by kernel_rfl)
   ·simp only [List.getElem_toArray, List.getElem_cons_succ, List.getElem_cons_zero]
    go_simp
    try go_wp2_with fail
    refine hK.out _ _ (mkS.out _ (ba bc _)) (fun hS => ?_)
    clear hK K
    exact lst (L3_0.out _ _ hS (Cel.new w' _ _) bc.size) (by kernel_rfl)
  have L2_0 : Hid (∀ (g0 : Nat) (w' : World) (hS : SP w') (k0 : Cel w' g0 [.bool false, .string { data := #[] }] 24) (h0 : wc.heap.size ≤ g0), wpAnyH Tryz.prog .any ops q SP 4 (ls 11 [0, 1, 2, 3, 4, 6, 9]) (fr (.pointer (some ⟨g0, 0, none⟩)) (.agg #[.bool false, .string d0]) (.agg #[.bool cN, .string cS]) undef undef undef) w') := by
   clear L5_0 L5_ L4_0 L4_ L3_
   subst hops hq hSP hfr
   intro g0 w' hS k0 h0
   have bc := bcS.out _ hS
   dsimp only
   refine rdy [5] (by kernel_rfl) ?_
   refine AllReadyH.cons (o := _) rfl (fun K hK => ?_) AllReadyH.nil
   ·simp only [List.getElem_toArray, List.getElem_cons_succ, List.getElem_cons_zero]
    go_simp
    go_fit (den_any n1 s1 d1 _)
    rintro e wn ⟨rfl, bn⟩
    have bcn := Below.after bc bn
    try go_wp2_with fail
    refine hK.out _ _ (mkS.out _ bcn) (fun hS => ?_)
    clear hK K
    exact lst (L3_0.out g0 wn hS (k0.below bn) h0) (by kernel_rfl)
  have L2_ : Hid (∀ (w' : World) (hS : SP w'), wpAnyH Tryz.prog .any ops q SP 5 (ls 11 [0, 1, 2, 3, 4, 6]) (fr undef (.agg #[.bool false, .string d0]) (.agg #[.bool cN, .string cS]) undef undef undef) w') := by
   clear L5_0 L5_ L4_0 L4_ L3_0
   subst hops hq hSP hfr
   intro w' hS
   have bc := bcS.out _ hS
   dsimp only
   refine rdy [5, 9] (by kernel_rfl) ?_
   refine AllReadyH.cons (o := _) rfl (fun K hK => ?_) (AllReadyH.cons (o := _) rfl (fun K hK => ?_) AllReadyH.nil)
   ·simp only [List.getElem_toArray, List.getElem_cons_succ, List.getElem_cons_zero]
    go_simp
    go_fit (den_any n1 s1 d1 _)
    rintro e wn ⟨rfl, bn⟩
    have bcn := Below.after bc bn
    try go_wp2_with fail
    refine hK.out _ _ (mkS.out _ bcn) (fun hS => ?_)
    clear hK K
    exact lst (L3_.out wn hS) (by kernel_rfl)
   ·simp only [List.getElem_toArray, List.getElem_cons_succ, List.getElem_cons_zero]
    go_simp
    try go_wp2_with fail
    refine hK.out _ _ (mkS.out _ (ba bc _)) (fun hS => ?_)
    clear hK K
    exact lst (L2_0.out _ _ hS (Cel.new w' _ _) bc.size) (by kernel_rfl)
  have L1_0 : Hid (∀ (g0 : Nat) (w' : World) (hS : SP w') (k0 : Cel w' g0 [.bool false, .string { data := #[] }] 24) (h0 : wc.heap.size ≤ g0), wpAnyH Tryz.prog .any ops q SP 5 (ls 11 [0, 1, 2, 4, 6, 9]) (fr (.pointer (some ⟨g0, 0, none⟩)) (.agg #[.bool false, .string d0]) undef undef undef undef) w') := by
   clear L5_0 L5_ L4_0 L4_ L3_0 L3_ L2_
   subst hops hq hSP hfr
   intro g0 w' hS k0 h0
   have bc := bcS.out _ hS
   dsimp only
   refine rdy [3] (by kernel_rfl) ?_
   refine AllReadyH.cons (o := _) rfl (fun K hK => ?_) AllReadyH.nil
   ·simp only [List.getElem_toArray, List.getElem_cons_succ, List.getElem_cons_zero]
    go_simp
    go_fit (H6.out _)
    rintro e wn ⟨rfl, bn⟩
    have bcn := Below.after bc bn
    try go_wp2_with fail
    refine hK.out _ _ (mkS.out _ bcn) (fun hS => ?_)
    clear hK K
    exact lst (L2_0.out g0 wn hS (k0.below bn) h0) (by kernel_rfl)
  have L1_ : Hid (∀ (w' : World) (hS : SP w'), wpAnyH Tryz.prog .any ops q SP 6 (ls 11 [0, 1, 2, 4, 6]) (fr undef (.agg #[.bool false, .string d0]) undef undef undef undef) w') := by
   clear L5_0 L5_ L4_0 L4_ L3_0 L3_ L2_0
   subst hops hq hSP hfr
   intro w' hS
   have bc := bcS.out _ hS
   dsimp only
   refine rdy [3, 9] (by kernel_rfl) ?_
   refine AllReadyH.cons (o := _) rfl (fun K hK => ?_) (AllReadyH.cons (o := _) rfl (fun K hK => ?_) AllReadyH.nil)
   ·simp only [List.getElem_toArray, List.getElem_cons_succ, List.getElem_cons_zero]
    go_simp
    go_fit (H6.out _)
    rintro e wn ⟨rfl, bn⟩
    have bcn := Below.after bc bn
    try go_wp2_with fail
    refine hK.out _ _ (mkS.out _ bcn) (fun hS => ?_)
    clear hK K
    exact lst (L2_.out wn hS) (by kernel_rfl)
   ·simp only [List.getElem_toArray, List.getElem_cons_succ, List.getElem_cons_zero]
    go_simp
    try go_wp2_with fail
    refine hK.out _ _ (mkS.out _ (ba bc _)) (fun hS => ?_)
    clear hK K
    exact lst (L1_0.out _ _ hS (Cel.new w' _ _) bc.size) (by kernel_rfl)
  have L0_0 : Hid (∀ (g0 : Nat) (w' : World) (hS : SP w') (k0 : Cel w' g0 [.bool false, .string { data := #[] }] 24) (h0 : wc.heap.size ≤ g0), wpAnyH Tryz.prog .any ops q SP 6 (ls 11 [0, 2, 4, 6, 9]) (fr (.pointer (some ⟨g0, 0, none⟩)) undef undef undef undef undef) w') := by
   clear L5_0 L5_ L4_0 L4_ L3_0 L3_ L2_0 L2_ L1_
   subst hops hq hSP hfr
   intro g0 w' hS k0 h0
   have bc := bcS.out _ hS
   dsimp only
   refine rdy [1] (by kernel_rfl) ?_
   refine AllReadyH.cons (o := _) rfl (fun K hK => ?_) AllReadyH.nil
   ·simp only [List.getElem_toArray, List.getElem_cons_succ, List.getElem_cons_zero]
    go_simp
    go_fit (den_any n0 s0 d0 _)
    rintro e wn ⟨rfl, bn⟩
    have bcn := Below.after bc bn
    try go_wp2_with fail
    refine hK.out _ _ (mkS.out _ bcn) (fun hS => ?_)
    clear hK K
    exact lst (L1_0.out g0 wn hS (k0.below bn) h0) (by kernel_rfl)
  have L0_ : Hid (∀ (w' : World) (hS : SP w'), wpAnyH Tryz.prog .any ops q SP 7 (ls 11 [0, 2, 4, 6]) (fr undef undef undef undef undef undef) w') := by
   clear L5_0 L5_ L4_0 L4_ L3_0 L3_ L2_0 L2_ L1_0
   subst hops hq hSP hfr
   intro w' hS
   have bc := bcS.out _ hS
   dsimp only
   refine rdy [1, 9] (by kernel_rfl) ?_
   refine AllReadyH.cons (o := _) rfl (fun K hK => ?_) (AllReadyH.cons (o := _) rfl (fun K hK => ?_) AllReadyH.nil)
   ·simp only [List.getElem_toArray, List.getElem_cons_succ, List.getElem_cons_zero]
    go_simp
    go_fit (den_any n0 s0 d0 _)
    rintro e wn ⟨rfl, bn⟩
    have bcn := Below.after bc bn
    try go_wp2_with fail
    refine hK.out _ _ (mkS.out _ bcn) (fun hS => ?_)
    clear hK K
    exact lst (L1_.out wn hS) (by kernel_rfl)
   ·simp only [List.getElem_toArray, List.getElem_cons_succ, List.getElem_cons_zero]
    go_simp
    try go_wp2_with fail
    refine hK.out _ _ (mkS.out _ (ba bc _)) (fun hS => ?_)
    clear hK K
    exact lst (L0_0.out _ _ hS (Cel.new w' _ _) bc.size) (by kernel_rfl)
  clear L5_0 L5_ L4_0 L4_ L3_0 L3_ L2_0 L2_ L1_0 L1_ L0_0
  subst hops hq hSP hfr
  refine wpAnyH_take (i := 0) (oi := _) (v := ?_) rfl (by kernel_rfl) (by kernel_rfl) (by kernel_rfl) (fun _ _ _ h => h) (Or.inl ⟨by rfl, ?_⟩) (by assumption) ?_
  rotate_left
  ·(intro w hSw; (try dsimp only at hSw); go_simp; try with_reducible rfl)
  try simp only [Act.put, List.getElem_toArray, List.getElem_cons_zero, List.setIfInBounds_toArray, List.set_cons_zero, List.set_cons_succ]
  refine wpAnyH_take (i := 2) (oi := _) (v := ?_) rfl (by kernel_rfl) (by kernel_rfl) (by kernel_rfl) (fun _ _ _ h => h) (Or.inl ⟨by rfl, ?_⟩) (by assumption) ?_
  rotate_left
  ·(intro w hSw; (try dsimp only at hSw); go_simp; try with_reducible rfl)
  try simp only [Act.put, List.getElem_toArray, List.getElem_cons_succ, List.getElem_cons_zero, List.setIfInBounds_toArray, List.set_cons_zero, List.set_cons_succ]
  refine wpAnyH_take (i := 4) (oi := _) (v := ?_) rfl (by kernel_rfl) (by kernel_rfl) (by kernel_rfl) (fun _ _ _ h => h) (Or.inl ⟨by rfl, ?_⟩) (by assumption) ?_
  rotate_left
  ·(intro w hSw; (try dsimp only at hSw); go_simp; try with_reducible rfl)
  try simp only [Act.put, List.getElem_toArray, List.getElem_cons_succ, List.getElem_cons_zero, List.setIfInBounds_toArray, List.set_cons_zero, List.set_cons_succ]
  refine wpAnyH_take (i := 6) (oi := _) (v := ?_) rfl (by kernel_rfl) (by kernel_rfl) (by kernel_rfl) (fun _ _ _ h => h) (Or.inl ⟨by rfl, ?_⟩) (by assumption) ?_
  rotate_left
  ·(intro w hSw; (try dsimp only at hSw); go_simp; try with_reducible rfl)
  try simp only [Act.put, List.getElem_toArray, List.getElem_cons_succ, List.getElem_cons_zero, List.setIfInBounds_toArray, List.set_cons_zero, List.set_cons_succ]
  exact lst (L0_.out _ (mkS.out _ (bdrew _))) (by kernel_rfl)
 case rest =>
 obtain ⟨gq, rfl, lq, kq, b1⟩ := hcut
 clear mkS bcS
 have sz := b1.size
 replace ka := ka.below b1
 replace kb := kb.below b1
 replace kr := kr.below b1
 replace kg := kg.below b1
 replace ke := ke.below b1
 replace kp := kp.below b1
 replace bb := Below.after bb b1
 clear b1
 have tq := kq.lt
 have cp_0 := cel2_0' kp
 have cp_1 := cel2_1' kp
 have cq_2 := cel2_0' kq
 have cq_3 := cel2_1' kq
 have cr_4 := cel3_0 kr
 have fr_5 := Cel.frozen kr 0
 have cr_6 := cel3_1 kr
 have fr_7 := Cel.frozen kr 1
 have cr_8 := cel3_2 kr
 have fr_9 := Cel.frozen kr 2
 go_wp2
 exact post_q1 (p := 4) (u := 5) (by kernel_rfl) rfl rfl rfl (((kr.set 0 _).set 1 _).set 2 _) ⟨rfl, bset (bset (bset bb (by omega) 0 _) (by omega) 1 _) (by omega) 2 _⟩
end Go.Proofs.YtdbnkcimcpnpdaaGreatDoor
