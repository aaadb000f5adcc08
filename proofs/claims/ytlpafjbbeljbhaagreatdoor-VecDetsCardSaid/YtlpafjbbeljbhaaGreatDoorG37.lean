/-
  Package rat: sum, walked.
  Package rat: sum and product, of numbers that may be.
  Package rat: difference, quotient.
  Package rat: Add, Sub, Mul, Div, of any two numbers.
  Package rat: Add, Sub, Mul where a number may not be.
-/
import Derived.Test.YtlpafjbbeljbhaaGreatDoorG36
namespace Go.Proofs.YtlpafjbbeljbhaaGreatDoor
open Go.RowKit

set_option maxRecDepth 100000 in
set_option maxHeartbeats 8000000 in
theorem sum_walk (n0 n1 gN aN bN xN yN zN cN pN qN rN : Bool) (s0 d0 s1 d1 gS aS bS xS yS zS cS pS qS rS : ByteArray) (w : World)
  (H1 : Hid (∀ w1, Below w.heap.size w w1 → Calls Tryz.prog 80 #[.agg #[.bool false, .string d0], .agg #[.bool false, .string d1]] w1 fun e w' => e = .returned (.agg #[.bool gN, .string gS]) ∧ Below w1.heap.size w1 w'))
  (H2 : Hid (∀ w1, Calls Tryz.prog 82 #[.agg #[.bool false, .string d0], .agg #[.bool gN, .string gS]] w1 fun e w' => e = .returned (.agg #[.bool aN, .string aS]) ∧ Below w1.heap.size w1 w'))
  (H3 : Hid (∀ w1, Calls Tryz.prog 82 #[.agg #[.bool false, .string d1], .agg #[.bool gN, .string gS]] w1 fun e w' => e = .returned (.agg #[.bool bN, .string bS]) ∧ Below w1.heap.size w1 w'))
  (H4 : Hid (∀ w1, Calls Tryz.prog 84 #[.agg #[.bool n0, .string s0], .agg #[.bool bN, .string bS]] w1 fun e w' => e = .returned (.agg #[.bool xN, .string xS]) ∧ Below w1.heap.size w1 w'))
  (H5 : Hid (∀ w1, Calls Tryz.prog 84 #[.agg #[.bool n1, .string s1], .agg #[.bool aN, .string aS]] w1 fun e w' => e = .returned (.agg #[.bool yN, .string yS]) ∧ Below w1.heap.size w1 w'))
  (H6 : Hid (∀ w1, Calls Tryz.prog 83 #[.agg #[.bool xN, .string xS], .agg #[.bool yN, .string yS]] w1 fun e w' => e = .returned (.agg #[.bool zN, .string zS]) ∧ Below w1.heap.size w1 w'))
  (H7 : Hid (∀ w1, Below w.heap.size w w1 → Calls Tryz.prog 80 #[.agg #[.bool zN, .string zS], .agg #[.bool gN, .string gS]] w1 fun e w' => e = .returned (.agg #[.bool cN, .string cS]) ∧ Below w1.heap.size w1 w'))
  (H8 : Hid (∀ w1, Calls Tryz.prog 82 #[.agg #[.bool zN, .string zS], .agg #[.bool cN, .string cS]] w1 fun e w' => e = .returned (.agg #[.bool pN, .string pS]) ∧ Below w1.heap.size w1 w'))
  (H9 : Hid (∀ w1, Calls Tryz.prog 82 #[.agg #[.bool false, .string d1], .agg #[.bool cN, .string cS]] w1 fun e w' => e = .returned (.agg #[.bool qN, .string qS]) ∧ Below w1.heap.size w1 w'))
  (H10 : Hid (∀ w1, Calls Tryz.prog 84 #[.agg #[.bool aN, .string aS], .agg #[.bool qN, .string qS]] w1 fun e w' => e = .returned (.agg #[.bool rN, .string rS]) ∧ Below w1.heap.size w1 w')) :
  Calls Tryz.prog 61 #[.agg #[.bool n0, .string s0, .string d0], .agg #[.bool n1, .string s1, .string d1]] w fun e w' => e = .returned (.tuple #[.agg #[.bool pN, .string pS, .string rS], .int .i64 0]) ∧ Below w.heap.size w w' := by
 go_enter Tryz.func61, Tryz.ntmps61
 go_wp2_with fail
 obtain ⟨w1, hw, ka, kb, kr, b1⟩ := mk3 w [.bool n0, .string s0, .string d0] [.bool n1, .string s1, .string d1] [.bool false, .string { data := #[] }, .string { data := #[] }] 26 26 26
 rw [← hw]
 clear hw
 have sz := b1.size
 have ta := ka.lt
 have tb := kb.lt
 have tr := kr.lt
 have bb := b1
 clear b1
 have mkS : ∀ w', Below w1.heap.size w1 w' → (Below w1.heap.size w1 w' ∧ w'.cell? ⟨w.heap.size, 0, none⟩ = some (.bool n0) ∧ w'.cell? ⟨w.heap.size, 1, none⟩ = some (.string s0) ∧ w'.cell? ⟨w.heap.size, 2, none⟩ = some (.string d0) ∧ w'.cell? ⟨w.heap.size + 1, 0, none⟩ = some (.bool n1) ∧ w'.cell? ⟨w.heap.size + 1, 1, none⟩ = some (.string s1) ∧ w'.cell? ⟨w.heap.size + 1, 2, none⟩ = some (.string d1)) := fun w' h => ⟨h, cel3_0 (ka.below h), cel3_1 (ka.below h), cel3_2 (ka.below h), cel3_0 (kb.below h), cel3_1 (kb.below h), cel3_2 (kb.below h)⟩
 have bcS : ∀ w', (Below w1.heap.size w1 w' ∧ w'.cell? ⟨w.heap.size, 0, none⟩ = some (.bool n0) ∧ w'.cell? ⟨w.heap.size, 1, none⟩ = some (.string s0) ∧ w'.cell? ⟨w.heap.size, 2, none⟩ = some (.string d0) ∧ w'.cell? ⟨w.heap.size + 1, 0, none⟩ = some (.bool n1) ∧ w'.cell? ⟨w.heap.size + 1, 1, none⟩ = some (.string s1) ∧ w'.cell? ⟨w.heap.size + 1, 2, none⟩ = some (.string d1)) → Below w1.heap.size w1 w' := fun w' h => h.1
 replace mkS := shut mkS
 replace bcS := shut bcS
 go_cut [6] from 10 to 14 (fun v wx => ∃ gc, v = .pointer (some ⟨gc, 0, none⟩) ∧ w1.heap.size ≤ gc ∧ Cel wx gc [.bool gN, .string gS] 24 ∧ Below w1.heap.size w1 wx)
 case first =>
  clear H2 H3 H4 H5 H6 H7 H8 H9 H10 kr
  refine wp_region_held_drew (S := (fun w' => Below w1.heap.size w1 w' ∧ w'.cell? ⟨w.heap.size, 0, none⟩ = some (.bool n0) ∧ w'.cell? ⟨w.heap.size, 1, none⟩ = some (.string s0) ∧ w'.cell? ⟨w.heap.size, 2, none⟩ = some (.string d0) ∧ w'.cell? ⟨w.heap.size + 1, 0, none⟩ = some (.bool n1) ∧ w'.cell? ⟨w.heap.size + 1, 1, none⟩ = some (.string s1) ∧ w'.cell? ⟨w.heap.size + 1, 2, none⟩ = some (.string d1))) (by kernel_rfl) (mkS.out _ (bdrew _)) (fun _ => ?_)
  refine absO 7 (by kernel_rfl) (fun ops q SP hops hq hSP => ?_)
  obtain ⟨fr, hfr⟩ : ∃ fr : Value → Value → Value → Value → Act, fr = (fun x6 x11 x13 x14 => { tmps := #[.agg #[.bool n0, .string s0, .string d0], .agg #[.bool n1, .string s1, .string d1], .pointer (some ⟨w.heap.size, 0, none⟩), .pointer (some ⟨w.heap.size + 1, 0, none⟩), .pointer (some ⟨w.heap.size + 1 + 1, 0, none⟩), .int .i64 0, x6, undef, undef, undef, .agg #[.bool n0, .string s0, .string d0], x11, .agg #[.bool n1, .string s1, .string d1], x13, x14, undef, undef, undef, undef, undef, undef, undef, undef, undef, undef, undef, undef, undef, undef, undef, undef, undef, undef, undef, undef, undef, undef, undef, undef, undef, undef, undef, undef, undef, undef, undef], defers := [] }) := ⟨_, rfl⟩
  have L3_0 : Hid (∀ (g0 : Nat) (w' : World) (hS : SP w') (k0 : Cel w' g0 [.bool false, .string { data := #[] }] 24) (h0 : w1.heap.size ≤ g0), wpAnyH Tryz.prog .any ops q SP 1 (ls 7 [0, 1, 2, 3, 4, 5]) (fr (.pointer (some ⟨g0, 0, none⟩)) (.agg #[.bool false, .string d0]) (.agg #[.bool false, .string d1]) (.agg #[.bool gN, .string gS])) w') := by
   subst hops hq hSP hfr
   intro g0 w' hS k0 h0
   have bc := bcS.out _ hS
   dsimp only
   have e0_0 := cel2_0' k0
   have f0_0 := Cel.frozen k0 0
   have e0_1 := cel2_1' k0
   have f0_1 := Cel.frozen k0 1
   refine rdy [6] (by kernel_rfl) ?_
   refine AllReadyH.cons (o := _) rfl (fun K hK => ?_) AllReadyH.nil
   simp only [List.getElem_toArray, List.getElem_cons_succ, List.getElem_cons_zero]
   go_simp
   try go_wp2_with fail
   clear e0_0 f0_0 e0_1 f0_1
   refine hK.out _ _ (mkS.out _ (bset (bset bc h0 0 (.bool gN)) h0 1 (.string gS))) (fun hS => ?_)
   clear hK K
   replace k0 := (Cel.set (Cel.set k0 0 (.bool gN)) 1 (.string gS))
   replace bc := (bset (bset bc h0 0 (.bool gN)) h0 1 (.string gS))
   refine wpAnyH_done (by kernel_rfl) ?_ _
   go_wp2_with fail
   go_meet
   exact ⟨_, rfl, h0, k0, bc⟩
  have L3_ : Hid (∀ (w' : World) (hS : SP w'), wpAnyH Tryz.prog .any ops q SP 2 (ls 7 [0, 1, 2, 3, 4]) (fr undef (.agg #[.bool false, .string d0]) (.agg #[.bool false, .string d1]) (.agg #[.bool gN, .string gS])) w') := by
   subst hops hq hSP hfr
   intro w' hS
   have bc := bcS.out _ hS
   dsimp only
   refine rdy [5] (by kernel_rfl) ?_
   refine AllReadyH.cons (o := _) rfl (fun K hK => ?_) AllReadyH.nil
   ·simp only [List.getElem_toArray, List.getElem_cons_succ, List.getElem_cons_zero]
    go_simp
    try go_wp2_with fail
    refine hK.out _ _ (mkS.out _ (ba bc _)) (fun hS => ?_)
    clear hK K
    exact lst (L3_0.out _ _ hS (Cel.new w' _ _) bc.size) (by kernel_rfl)
  have L2_0 : Hid (∀ (g0 : Nat) (w' : World) (hS : SP w') (k0 : Cel w' g0 [.bool false, .string { data := #[] }] 24) (h0 : w1.heap.size ≤ g0), wpAnyH Tryz.prog .any ops q SP 2 (ls 7 [0, 1, 2, 3, 5]) (fr (.pointer (some ⟨g0, 0, none⟩)) (.agg #[.bool false, .string d0]) (.agg #[.bool false, .string d1]) undef) w') := by
   clear L3_
   subst hops hq hSP hfr
   intro g0 w' hS k0 h0
   have bc := bcS.out _ hS
   dsimp only
   refine rdy [4] (by kernel_rfl) ?_
   refine AllReadyH.cons (o := _) rfl (fun K hK => ?_) AllReadyH.nil
   ·simp only [List.getElem_toArray, List.getElem_cons_succ, List.getElem_cons_zero]
    go_simp
    go_fit (H1.out _ ?_)
    ·exact Below.after bb bc
    rintro e wn ⟨rfl, bn⟩
    have bcn := Below.after bc bn
    try go_wp2_with fail
    refine hK.out _ _ (mkS.out _ bcn) (fun hS => ?_)
    clear hK K
    exact lst (L3_0.out g0 wn hS (k0.below bn) h0) (by kernel_rfl)
  have L2_ : Hid (∀ (w' : World) (hS : SP w'), wpAnyH Tryz.prog .any ops q SP 3 (ls 7 [0, 1, 2, 3]) (fr undef (.agg #[.bool false, .string d0]) (.agg #[.bool false, .string d1]) undef) w') := by
   clear L3_0
   subst hops hq hSP hfr
   intro w' hS
   have bc := bcS.out _ hS
   dsimp only
   refine rdy [4, 5] (by kernel_rfl) ?_
   refine AllReadyH.cons (o := _) rfl (fun K hK => ?_) (AllReadyH.cons (o := _) rfl (fun K hK => ?_) AllReadyH.nil)
   ·simp only [List.getElem_toArray, List.getElem_cons_succ, List.getElem_cons_zero]
    go_simp
    go_fit (H1.out _ ?_)
    ·exact Below.after bb bc
    rintro e wn ⟨rfl, bn⟩
    have bcn := Below.after bc bn
    try go_wp2_with fail
    refine hK.out _ _ (mkS.out _ bcn) (fun hS => ?_)
    clear hK K
    exact lst (L3_.out wn hS) (by kernel_rfl)
   ·simp only [List.getElem_toArray, List.getElem_cons_succ, List.getElem_cons_zero]
    go_simp
    try go_wp2_with fail
    refine hK.out _ _ (mkS.out _ (ba bc _)) (fun hS => ?_)
    clear hK K
    exact lst (L2_0.out _ _ hS (Cel.new w' _ _) bc.size) (by kernel_rfl)
  have L1_0 : Hid (∀ (g0 : Nat) (w' : World) (hS : SP w') (k0 : Cel w' g0 [.bool false, .string { data := #[] }] 24) (h0 : w1.heap.size ≤ g0), wpAnyH Tryz.prog .any ops q SP 3 (ls 7 [0, 1, 2, 5]) (fr (.pointer (some ⟨g0, 0, none⟩)) (.agg #[.bool false, .string d0]) undef undef) w') := by
   clear L3_0 L3_ L2_
   subst hops hq hSP hfr
   intro g0 w' hS k0 h0
   have bc := bcS.out _ hS
   dsimp only
   refine rdy [3] (by kernel_rfl) ?_
   refine AllReadyH.cons (o := _) rfl (fun K hK => ?_) AllReadyH.nil
   ·simp only [List.getElem_toArray, List.getElem_cons_succ, List.getElem_cons_zero]
    go_simp
    go_fit (den_any n1 s1 d1 _)
    rintro e wn ⟨rfl, bn⟩
    have bcn := Below.after bc bn
    try go_wp2_with fail
    refine hK.out _ _ (mkS.out _ bcn) (fun hS => ?_)
    clear hK K
    exact lst (L2_0.out g0 wn hS (k0.below bn) h0) (by kernel_rfl)
  have L1_ : Hid (∀ (w' : World) (hS : SP w'), wpAnyH Tryz.prog .any ops q SP 4 (ls 7 [0, 1, 2]) (fr undef (.agg #[.bool false, .string d0]) undef undef) w') := by
   clear L3_0 L3_ L2_0
   subst hops hq hSP hfr
   intro w' hS
   have bc := bcS.out _ hS
   dsimp only
   refine rdy [3, 5] (by kernel_rfl) ?_
   refine AllReadyH.cons (o := _) rfl (fun K hK => ?_) (AllReadyH.cons (o := _) rfl (fun K hK => ?_) AllReadyH.nil)
   ·simp only [List.getElem_toArray, List.getElem_cons_succ, List.getElem_cons_zero]
    go_simp
    go_fit (den_any n1 s1 d1 _)
    rintro e wn ⟨rfl, bn⟩
    have bcn := Below.after bc bn
    try go_wp2_with fail
    refine hK.out _ _ (mkS.out _ bcn) (fun hS => ?_)
    clear hK K
    exact lst (L2_.out wn hS) (by kernel_rfl)
   ·simp only [List.getElem_toArray, List.getElem_cons_succ, List.getElem_cons_zero]
    go_simp
    try go_wp2_with fail
    refine hK.out _ _ (mkS.out _ (ba bc _)) (fun hS => ?_)
    clear hK K
    exact lst (L1_0.out _ _ hS (Cel.new w' _ _) bc.size) (by kernel_rfl)
  have L0_0 : Hid (∀ (g0 : Nat) (w' : World) (hS : SP w') (k0 : Cel w' g0 [.bool false, .string { data := #[] }] 24) (h0 : w1.heap.size ≤ g0), wpAnyH Tryz.prog .any ops q SP 4 (ls 7 [0, 2, 5]) (fr (.pointer (some ⟨g0, 0, none⟩)) undef undef undef) w') := by
   clear L3_0 L3_ L2_0 L2_ L1_
   subst hops hq hSP hfr
   intro g0 w' hS k0 h0
   have bc := bcS.out _ hS
   dsimp only
   refine rdy [1] (by kernel_rfl) ?_
   refine AllReadyH.cons (o := _) rfl (fun K hK => ?_) AllReadyH.nil
   ·simp only [List.getElem_toArray, List.getElem_cons_succ, List.getElem_cons_zero]
    go_simp
    go_fit (den_any n0 s0 d0 _)
    rintro e wn ⟨rfl, bn⟩
    have bcn := Below.after bc bn
    try go_wp2_with fail
    refine hK.out _ _ (mkS.out _ bcn) (fun hS => ?_)
    clear hK K
    exact lst (L1_0.out g0 wn hS (k0.below bn) h0) (by kernel_rfl)
  have L0_ : Hid (∀ (w' : World) (hS : SP w'), wpAnyH Tryz.prog .any ops q SP 5 (ls 7 [0, 2]) (fr undef undef undef undef) w') := by
   clear L3_0 L3_ L2_0 L2_ L1_0
   subst hops hq hSP hfr
   intro w' hS
   have bc := bcS.out _ hS
   dsimp only
   refine rdy [1, 5] (by kernel_rfl) ?_
   refine AllReadyH.cons (o := _) rfl (fun K hK => ?_) (AllReadyH.cons (o := _) rfl (fun K hK => ?_) AllReadyH.nil)
   ·simp only [List.getElem_toArray, List.getElem_cons_succ, List.getElem_cons_zero]
    go_simp
    go_fit (den_any n0 s0 d0 _)
    rintro e wn ⟨rfl, bn⟩
    have bcn := Below.after bc bn
    try go_wp2_with fail
    refine hK.out _ _ (mkS.out _ bcn) (fun hS => ?_)
    clear hK K
    exact lst (L1_.out wn hS) (by kernel_rfl)
   ·simp only [List.getElem_toArray, List.getElem_cons_succ, List.getElem_cons_zero]
    go_simp
    try go_wp2_with fail
    refine hK.out _ _ (mkS.out _ (ba bc _)) (fun hS => ?_)
    clear hK K
    exact lst (L0_0.out _ _ hS (Cel.new w' _ _) bc.size) (by kernel_rfl)
  clear L3_0 L3_ L2_0 L2_ L1_0 L1_ L0_0
  subst hops hq hSP hfr
  refine wpAnyH_take (i := 0) (oi := _) (v := ?_) rfl (by kernel_rfl) (by kernel_rfl) (by kernel_rfl) (fun _ _ _ h => h) (Or.inl ⟨by rfl, ?_⟩) (by assumption) ?_
  rotate_left
  ·(intro w hSw; (try dsimp only at hSw); go_simp; try with_reducible rfl)
  try simp only [Act.put, List.getElem_toArray, List.getElem_cons_zero, List.setIfInBounds_toArray, List.set_cons_zero, List.set_cons_succ]
  refine wpAnyH_take (i := 2) (oi := _) (v := ?_) rfl (by kernel_rfl) (by kernel_rfl) (by kernel_rfl) (fun _ _ _ h => h) (Or.inl ⟨by rfl, ?_⟩) (by assumption) ?_
  rotate_left
  ·(intro w hSw; (try dsimp only at hSw); go_simp; try with_reducible rfl)
  try simp only [Act.put, List.getElem_toArray, List.getElem_cons_succ, List.getElem_cons_zero, List.setIfInBounds_toArray, List.set_cons_zero, List.set_cons_succ]
  exact lst (L0_.out _ (mkS.out _ (bdrew _))) (by kernel_rfl)
 case rest =>
 obtain ⟨gg, rfl, lg, kg, b1⟩ := hcut
 clear mkS bcS
 have sz := b1.size
 replace ka := ka.below b1
 replace kb := kb.below b1
 replace kr := kr.below b1
 replace bb := Below.after bb b1
 clear b1
 have tg := kg.lt
 go_wp2_with fail
 have mkS : ∀ w', Below wc.heap.size wc w' → (Below wc.heap.size wc w' ∧ w'.cell? ⟨w.heap.size, 0, none⟩ = some (.bool n0) ∧ w'.cell? ⟨w.heap.size, 1, none⟩ = some (.string s0) ∧ w'.cell? ⟨w.heap.size, 2, none⟩ = some (.string d0) ∧ w'.cell? ⟨w.heap.size + 1, 0, none⟩ = some (.bool n1) ∧ w'.cell? ⟨w.heap.size + 1, 1, none⟩ = some (.string s1) ∧ w'.cell? ⟨w.heap.size + 1, 2, none⟩ = some (.string d1) ∧ w'.cell? ⟨gg, 0, none⟩ = some (.bool gN) ∧ w'.cell? ⟨gg, 1, none⟩ = some (.string gS)) := fun w' h => ⟨h, cel3_0 (ka.below h), cel3_1 (ka.below h), cel3_2 (ka.below h), cel3_0 (kb.below h), cel3_1 (kb.below h), cel3_2 (kb.below h), cel2_0' (kg.below h), cel2_1' (kg.below h)⟩
 have bcS : ∀ w', (Below wc.heap.size wc w' ∧ w'.cell? ⟨w.heap.size, 0, none⟩ = some (.bool n0) ∧ w'.cell? ⟨w.heap.size, 1, none⟩ = some (.string s0) ∧ w'.cell? ⟨w.heap.size, 2, none⟩ = some (.string d0) ∧ w'.cell? ⟨w.heap.size + 1, 0, none⟩ = some (.bool n1) ∧ w'.cell? ⟨w.heap.size + 1, 1, none⟩ = some (.string s1) ∧ w'.cell? ⟨w.heap.size + 1, 2, none⟩ = some (.string d1) ∧ w'.cell? ⟨gg, 0, none⟩ = some (.bool gN) ∧ w'.cell? ⟨gg, 1, none⟩ = some (.string gS)) → Below wc.heap.size wc w' := fun w' h => h.1
 replace mkS := shut mkS
 replace bcS := shut bcS
 go_cut [7, 8] from 15 to 22 (fun v u wx => ∃ gc gd, v = .pointer (some ⟨gc, 0, none⟩) ∧ u = .pointer (some ⟨gd, 0, none⟩) ∧ wc.heap.size ≤ gc ∧ wc.heap.size ≤ gd ∧ Cel wx gc [.bool aN, .string aS] 24 ∧ Cel wx gd [.bool bN, .string bS] 24 ∧ Below wc.heap.size wc wx)
 case first =>
  clear H1 H4 H5 H6 H7 H8 H9 H10 kr
  refine wp_region_held_drew (S := (fun w' => Below wc.heap.size wc w' ∧ w'.cell? ⟨w.heap.size, 0, none⟩ = some (.bool n0) ∧ w'.cell? ⟨w.heap.size, 1, none⟩ = some (.string s0) ∧ w'.cell? ⟨w.heap.size, 2, none⟩ = some (.string d0) ∧ w'.cell? ⟨w.heap.size + 1, 0, none⟩ = some (.bool n1) ∧ w'.cell? ⟨w.heap.size + 1, 1, none⟩ = some (.string s1) ∧ w'.cell? ⟨w.heap.size + 1, 2, none⟩ = some (.string d1) ∧ w'.cell? ⟨gg, 0, none⟩ = some (.bool gN) ∧ w'.cell? ⟨gg, 1, none⟩ = some (.string gS))) (by kernel_rfl) (mkS.out _ (bdrew _)) (fun _ => ?_)
  refine absO 12 (by kernel_rfl) (fun ops q SP hops hq hSP => ?_)
  obtain ⟨fr, hfr⟩ : ∃ fr : Value → Value → Value → Value → Value → Value → Act, fr = (fun x7 x8 x16 x18 x20 x22 => { tmps := #[.agg #[.bool n0, .string s0, .string d0], .agg #[.bool n1, .string s1, .string d1], .pointer (some ⟨w.heap.size, 0, none⟩), .pointer (some ⟨w.heap.size + 1, 0, none⟩), .pointer (some ⟨w.heap.size + 1 + 1, 0, none⟩), .int .i64 0, .pointer (some ⟨gg, 0, none⟩), x7, x8, undef, u10, u11, u12, u13, u14, .agg #[.bool n0, .string s0, .string d0], x16, .agg #[.bool gN, .string gS], x18, .agg #[.bool n1, .string s1, .string d1], x20, .agg #[.bool gN, .string gS], x22, undef, undef, undef, undef, undef, undef, undef, undef, undef, undef, undef, undef, undef, undef, undef, undef, undef, undef, undef, undef, undef, undef, undef], defers := [] }) := ⟨_, rfl⟩
  have L4_01 : Hid (∀ (g0 : Nat) (g1 : Nat) (w' : World) (hS : SP w') (k0 : Cel w' g0 [.bool false, .string { data := #[] }] 24) (h0 : wc.heap.size ≤ g0) (k1 : Cel w' g1 [.bool false, .string { data := #[] }] 24) (h1 : wc.heap.size ≤ g1) (n01 : ¬ g0 = g1), wpAnyH Tryz.prog .any ops q SP 2 (ls 12 [0, 1, 2, 3, 4, 5, 6, 7, 8, 9]) (fr (.pointer (some ⟨g0, 0, none⟩)) (.pointer (some ⟨g1, 0, none⟩)) (.agg #[.bool false, .string d0]) (.agg #[.bool aN, .string aS]) (.agg #[.bool false, .string d1]) (.agg #[.bool bN, .string bS])) w') := by
   subst hops hq hSP hfr
   intro g0 g1 w' hS k0 h0 k1 h1 n01
   have bc := bcS.out _ hS
   dsimp only
   have e0_0 := cel2_0' k0
   have f0_0 := Cel.frozen k0 0
   have e0_1 := cel2_1' k0
   have f0_1 := Cel.frozen k0 1
   refine rdy [10] (by kernel_rfl) ?_
   refine AllReadyH.cons (o := _) rfl (fun K hK => ?_) AllReadyH.nil
   simp only [List.getElem_toArray, List.getElem_cons_succ, List.getElem_cons_zero]
   go_simp
   try go_wp2_with fail
   clear e0_0 f0_0 e0_1 f0_1
   refine hK.out _ _ (mkS.out _ (bset (bset bc h0 0 (.bool aN)) h0 1 (.string aS))) (fun hS => ?_)
   clear hK K
   replace k0 := (Cel.set (Cel.set k0 0 (.bool aN)) 1 (.string aS))
   replace k1 := (Cel.other (Cel.other k1 (fun e => n01 e.symm) 0 (.bool aN)) (fun e => n01 e.symm) 1 (.string aS))
   replace bc := (bset (bset bc h0 0 (.bool aN)) h0 1 (.string aS))
   have e1_0 := cel2_0' k1
   have f1_0 := Cel.frozen k1 0
   have e1_1 := cel2_1' k1
   have f1_1 := Cel.frozen k1 1
   refine rdy [11] (by kernel_rfl) ?_
   refine AllReadyH.cons (o := _) rfl (fun K hK => ?_) AllReadyH.nil
   simp only [List.getElem_toArray, List.getElem_cons_succ, List.getElem_cons_zero]
   go_simp
   try go_wp2_with fail
   clear e1_0 f1_0 e1_1 f1_1
   refine hK.out _ _ (mkS.out _ (bset (bset bc h1 0 (.bool bN)) h1 1 (.string bS))) (fun hS => ?_)
   clear hK K
   replace k0 := (Cel.other (Cel.other k0 n01 0 (.bool bN)) n01 1 (.string bS))
   replace k1 := (Cel.set (Cel.set k1 0 (.bool bN)) 1 (.string bS))
   replace bc := (bset (bset bc h1 0 (.bool bN)) h1 1 (.string bS))
   refine wpAnyH_done (by kernel_rfl) ?_ _
   go_wp2_with fail
   go_meet
   exact ⟨_, _, rfl, rfl, h0, h1, k0, k1, bc⟩
  have L4_0 : Hid (∀ (g0 : Nat) (w' : World) (hS : SP w') (k0 : Cel w' g0 [.bool false, .string { data := #[] }] 24) (h0 : wc.heap.size ≤ g0), wpAnyH Tryz.prog .any ops q SP 3 (ls 12 [0, 1, 2, 3, 4, 5, 6, 7, 8]) (fr (.pointer (some ⟨g0, 0, none⟩)) undef (.agg #[.bool false, .string d0]) (.agg #[.bool aN, .string aS]) (.agg #[.bool false, .string d1]) (.agg #[.bool bN, .string bS])) w') := by
   subst hops hq hSP hfr
   intro g0 w' hS k0 h0
   have bc := bcS.out _ hS
   dsimp only
   refine rdy [9] (by kernel_rfl) ?_
   refine AllReadyH.cons (o := _) rfl (fun K hK => ?_) AllReadyH.nil
   ·simp only [List.getElem_toArray, List.getElem_cons_succ, List.getElem_cons_zero]
    go_simp
    try go_wp2_with fail
    refine hK.out _ _ (mkS.out _ (ba bc _)) (fun hS => ?_)
    clear hK K
    exact lst (L4_01.out g0 _ _ hS (k0.alloc _) h0 (Cel.new w' _ _) bc.size (by have := k0.lt; omega)) (by kernel_rfl)
  have L4_1 : Hid (∀ (g1 : Nat) (w' : World) (hS : SP w') (k1 : Cel w' g1 [.bool false, .string { data := #[] }] 24) (h1 : wc.heap.size ≤ g1), wpAnyH Tryz.prog .any ops q SP 3 (ls 12 [0, 1, 2, 3, 4, 5, 6, 7, 9]) (fr undef (.pointer (some ⟨g1, 0, none⟩)) (.agg #[.bool false, .string d0]) (.agg #[.bool aN, .string aS]) (.agg #[.bool false, .string d1]) (.agg #[.bool bN, .string bS])) w') := by
   clear L4_0
   subst hops hq hSP hfr
   intro g1 w' hS k1 h1
   have bc := bcS.out _ hS
   dsimp only
   refine rdy [8] (by kernel_rfl) ?_
   refine AllReadyH.cons (o := _) rfl (fun K hK => ?_) AllReadyH.nil
   ·simp only [List.getElem_toArray, List.getElem_cons_succ, List.getElem_cons_zero]
    go_simp
    try go_wp2_with fail
    refine hK.out _ _ (mkS.out _ (ba bc _)) (fun hS => ?_)
    clear hK K
    exact lst (L4_01.out _ g1 _ hS (Cel.new w' _ _) bc.size (k1.alloc _) h1 (by have := k1.lt; omega)) (by kernel_rfl)
  have L4_ : Hid (∀ (w' : World) (hS : SP w'), wpAnyH Tryz.prog .any ops q SP 4 (ls 12 [0, 1, 2, 3, 4, 5, 6, 7]) (fr undef undef (.agg #[.bool false, .string d0]) (.agg #[.bool aN, .string aS]) (.agg #[.bool false, .string d1]) (.agg #[.bool bN, .string bS])) w') := by
   clear L4_01
   subst hops hq hSP hfr
   intro w' hS
   have bc := bcS.out _ hS
   dsimp only
   refine rdy [8, 9] (by kernel_rfl) ?_
   refine AllReadyH.cons (o := _) rfl (fun K hK => ?_) (AllReadyH.cons (o := _) rfl (fun K hK => ?_) AllReadyH.nil)
   ·simp only [List.getElem_toArray, List.getElem_cons_succ, List.getElem_cons_zero]
    go_simp
    try go_wp2_with fail
    refine hK.out _ _ (mkS.out _ (ba bc _)) (fun hS => ?_)
    clear hK K
    exact lst (L4_0.out _ _ hS (Cel.new w' _ _) bc.size) (by kernel_rfl)
   ·simp only [List.getElem_toArray, List.getElem_cons_succ, List.getElem_cons_zero]
    go_simp
    try go_wp2_with fail
    refine hK.out _ _ (mkS.out _ (ba bc _)) (fun hS => ?_)
    clear hK K
    exact lst (L4_1.out _ _ hS (Cel.new w' _ _) bc.size) (by kernel_rfl)
  have L3_01 : Hid (∀ (g0 : Nat) (g1 : Nat) (w' : World) (hS : SP w') (k0 : Cel w' g0 [.bool false, .string { data := #[] }] 24) (h0 : wc.heap.size ≤ g0) (k1 : Cel w' g1 [.bool false, .string { data := #[] }] 24) (h1 : wc.heap.size ≤ g1) (n01 : ¬ g0 = g1), wpAnyH Tryz.prog .any ops q SP 3 (ls 12 [0, 1, 2, 3, 4, 5, 6, 8, 9]) (fr (.pointer (some ⟨g0, 0, none⟩)) (.pointer (some ⟨g1, 0, none⟩)) (.agg #[.bool false, .string d0]) (.agg #[.bool aN, .string aS]) (.agg #[.bool false, .string d1]) undef) w') := by
   clear L4_0 L4_1 L4_
   subst hops hq hSP hfr
   intro g0 g1 w' hS k0 h0 k1 h1 n01
   have bc := bcS.out _ hS
   dsimp only
   refine rdy [7] (by kernel_rfl) ?_
   refine AllReadyH.cons (o := _) rfl (fun K hK => ?_) AllReadyH.nil
   ·simp only [List.getElem_toArray, List.getElem_cons_succ, List.getElem_cons_zero]
    go_simp
    go_fit (H3.out _)
    rintro e wn ⟨rfl, bn⟩
    have bcn := Below.after bc bn
    try go_wp2_with fail
    refine hK.out _ _ (mkS.out _ bcn) (fun hS => ?_)
    clear hK K
    exact lst (L4_01.out g0 g1 wn hS (k0.below bn) h0 (k1.below bn) h1 n01) (by kernel_rfl)
  have L3_0 : Hid (∀ (g0 : Nat) (w' : World) (hS : SP w') (k0 : Cel w' g0 [.bool false, .string { data := #[] }] 24) (h0 : wc.heap.size ≤ g0), wpAnyH Tryz.prog .any ops q SP 4 (ls 12 [0, 1, 2, 3, 4, 5, 6, 8]) (fr (.pointer (some ⟨g0, 0, none⟩)) undef (.agg #[.bool false, .string d0]) (.agg #[.bool aN, .string aS]) (.agg #[.bool false, .string d1]) undef) w') := by
   clear L4_01 L4_1 L4_
   subst hops hq hSP hfr
   intro g0 w' hS k0 h0
   have bc := bcS.out _ hS
   dsimp only
   refine rdy [7, 9] (by kernel_rfl) ?_
   refine AllReadyH.cons (o := _) rfl (fun K hK => ?_) (AllReadyH.cons (o := _) rfl (fun K hK => ?_) AllReadyH.nil)
   ·simp only [List.getElem_toArray, List.getElem_cons_succ, List.getElem_cons_zero]
    go_simp
    go_fit (H3.out _)
    rintro e wn ⟨rfl, bn⟩
    have bcn := Below.after bc bn
    try go_wp2_with fail
    refine hK.out _ _ (mkS.out _ bcn) (fun hS => ?_)
    clear hK K
    exact lst (L4_0.out g0 wn hS (k0.below bn) h0) (by kernel_rfl)
   ·simp only [List.getElem_toArray, List.getElem_cons_succ, List.getElem_cons_zero]
    go_simp
    try go_wp2_with fail
    refine hK.out _ _ (mkS.out _ (ba bc _)) (fun hS => ?_)
    clear hK K
    exact lst (L3_01.out g0 _ _ hS (k0.alloc _) h0 (Cel.new w' _ _) bc.size (by have := k0.lt; omega)) (by kernel_rfl)
  have L3_1 : Hid (∀ (g1 : Nat) (w' : World) (hS : SP w') (k1 : Cel w' g1 [.bool false, .string { data := #[] }] 24) (h1 : wc.heap.size ≤ g1), wpAnyH Tryz.prog .any ops q SP 4 (ls 12 [0, 1, 2, 3, 4, 5, 6, 9]) (fr undef (.pointer (some ⟨g1, 0, none⟩)) (.agg #[.bool false, .string d0]) (.agg #[.bool aN, .string aS]) (.agg #[.bool false, .string d1]) undef) w') := by
   clear L4_01 L4_0 L4_ L3_0
   subst hops hq hSP hfr
   intro g1 w' hS k1 h1
   have bc := bcS.out _ hS
   dsimp only
   refine rdy [7, 8] (by kernel_rfl) ?_
   refine AllReadyH.cons (o := _) rfl (fun K hK => ?_) (AllReadyH.cons (o := _) rfl (fun K hK => ?_) AllReadyH.nil)
   ·simp only [List.getElem_toArray, List.getElem_cons_succ, List.getElem_cons_zero]
    go_simp
    go_fit (H3.out _)
    rintro e wn ⟨rfl, bn⟩
    have bcn := Below.after bc bn
    try go_wp2_with fail
    refine hK.out _ _ (mkS.out _ bcn) (fun hS => ?_)
    clear hK K
    exact lst (L4_1.out g1 wn hS (k1.below bn) h1) (by kernel_rfl)
   ·simp only [List.getElem_toArray, List.getElem_cons_succ, List.getElem_cons_zero]
    go_simp
    try go_wp2_with fail
    refine hK.out _ _ (mkS.out _ (ba bc _)) (fun hS => ?_)
    clear hK K
    exact lst (L3_01.out _ g1 _ hS (Cel.new w' _ _) bc.size (k1.alloc _) h1 (by have := k1.lt; omega)) (by kernel_rfl)
  have L3_ : Hid (∀ (w' : World) (hS : SP w'), wpAnyH Tryz.prog .any ops q SP 5 (ls 12 [0, 1, 2, 3, 4, 5, 6]) (fr undef undef (.agg #[.bool false, .string d0]) (.agg #[.bool aN, .string aS]) (.agg #[.bool false, .string d1]) undef) w') := by
   clear L4_01 L4_0 L4_1 L3_01
   subst hops hq hSP hfr
   intro w' hS
   have bc := bcS.out _ hS
   dsimp only
   refine rdy [7, 8, 9] (by kernel_rfl) ?_
   refine AllReadyH.cons (o := _) rfl (fun K hK => ?_) (AllReadyH.cons (o := _) rfl (fun K hK => ?_) (AllReadyH.cons (o := _) rfl (fun K hK => ?_) AllReadyH.nil))
   ·simp only [List.getElem_toArray, List.getElem_cons_succ, List.getElem_cons_zero]
    go_simp
    go_fit (H3.out _)
    rintro e wn ⟨rfl, bn⟩
    have bcn := Below.after bc bn
    try go_wp2_with fail
    refine hK.out _ _ (mkS.out _ bcn) (fun hS => ?_)
    clear hK K
    exact lst (L4_.out wn hS) (by kernel_rfl)
   ·simp only [List.getElem_toArray, List.getElem_cons_succ, List.getElem_cons_zero]
    go_simp
    try go_wp2_with fail
    refine hK.out _ _ (mkS.out _ (ba bc _)) (fun hS => ?_)
    clear hK K
    exact lst (L3_0.out _ _ hS (Cel.new w' _ _) bc.size) (by kernel_rfl)
   ·simp only [List.getElem_toArray, List.getElem_cons_succ, List.getElem_cons_zero]
    go_simp
    try go_wp2_with fail
    refine hK.out _ _ (mkS.out _ (ba bc _)) (fun hS => ?_)
    clear hK K
    exact lst (L3_1.out _ _ hS (Cel.new w' _ _) bc.size) (by kernel_rfl)
  have L2_01 : Hid (∀ (g0 : Nat) (g1 : Nat) (w' : World) (hS : SP w') (k0 : Cel w' g0 [.bool false, .string { data := #[] }] 24) (h0 : wc.heap.size ≤ g0) (k1 : Cel w' g1 [.bool false, .string { data := #[] }] 24) (h1 : wc.heap.size ≤ g1) (n01 : ¬ g0 = g1), wpAnyH Tryz.prog .any ops q SP 4 (ls 12 [0, 1, 2, 3, 4, 6, 8, 9]) (fr (.pointer (some ⟨g0, 0, none⟩)) (.pointer (some ⟨g1, 0, none⟩)) (.agg #[.bool false, .string d0]) (.agg #[.bool aN, .string aS]) undef undef) w') := by
   clear L4_01 L4_0 L4_1 L4_ L3_0 L3_1 L3_
   subst hops hq hSP hfr
   intro g0 g1 w' hS k0 h0 k1 h1 n01
   have bc := bcS.out _ hS
   dsimp only
   refine rdy [5] (by kernel_rfl) ?_
   refine AllReadyH.cons (o := _) rfl (fun K hK => ?_) AllReadyH.nil
   ·simp only [List.getElem_toArray, List.getElem_cons_succ, List.getElem_cons_zero]
    go_simp
    go_fit (den_any n1 s1 d1 _)
    rintro e wn ⟨rfl, bn⟩
    have bcn := Below.after bc bn
    try go_wp2_with fail
    refine hK.out _ _ (mkS.out _ bcn) (fun hS => ?_)
    clear hK K
    exact lst (L3_01.out g0 g1 wn hS (k0.below bn) h0 (k1.below bn) h1 n01) (by kernel_rfl)
  have L2_0 : Hid (∀ (g0 : Nat) (w' : World) (hS : SP w') (k0 : Cel w' g0 [.bool false, .string { data := #[] }] 24) (h0 : wc.heap.size ≤ g0), wpAnyH Tryz.prog .any ops q SP 5 (ls 12 [0, 1, 2, 3, 4, 6, 8]) (fr (.pointer (some ⟨g0, 0, none⟩)) undef (.agg #[.bool false, .string d0]) (.agg #[.bool aN, .string aS]) undef undef) w') := by
   clear L4_01 L4_0 L4_1 L4_ L3_01 L3_1 L3_
   subst hops hq hSP hfr
   intro g0 w' hS k0 h0
   have bc := bcS.out _ hS
   dsimp only
   refine rdy [5, 9] (by kernel_rfl) ?_
   refine AllReadyH.cons (o := _) rfl (fun K hK => ?_) (AllReadyH.cons (o := _) rfl (fun K hK => ?_) AllReadyH.nil)
   ·simp only [List.getElem_toArray, List.getElem_cons_succ, List.getElem_cons_zero]
    go_simp
    go_fit (den_any n1 s1 d1 _)
    rintro e wn ⟨rfl, bn⟩
    have bcn := Below.after bc bn
    try go_wp2_with fail
    refine hK.out _ _ (mkS.out _ bcn) (fun hS => ?_)
    clear hK K
    exact lst (L3_0.out g0 wn hS (k0.below bn) h0) (by kernel_rfl)
   ·simp only [List.getElem_toArray, List.getElem_cons_succ, List.getElem_cons_zero]
    go_simp
    try go_wp2_with fail
    refine hK.out _ _ (mkS.out _ (ba bc _)) (fun hS => ?_)
    clear hK K
    exact lst (L2_01.out g0 _ _ hS (k0.alloc _) h0 (Cel.new w' _ _) bc.size (by have := k0.lt; omega)) (by kernel_rfl)
  have L2_1 : Hid (∀ (g1 : Nat) (w' : World) (hS : SP w') (k1 : Cel w' g1 [.bool false, .string { data := #[] }] 24) (h1 : wc.heap.size ≤ g1), wpAnyH Tryz.prog .any ops q SP 5 (ls 12 [0, 1, 2, 3, 4, 6, 9]) (fr undef (.pointer (some ⟨g1, 0, none⟩)) (.agg #[.bool false, .string d0]) (.agg #[.bool aN, .string aS]) undef undef) w') := by
   clear L4_01 L4_0 L4_1 L4_ L3_01 L3_0 L3_ L2_0
   subst hops hq hSP hfr
   intro g1 w' hS k1 h1
   have bc := bcS.out _ hS
   dsimp only
   refine rdy [5, 8] (by kernel_rfl) ?_
   refine AllReadyH.cons (o := _) rfl (fun K hK => ?_) (AllReadyH.cons (o := _) rfl (fun K hK => ?_) AllReadyH.nil)
   ·simp only [List.getElem_toArray, List.getElem_cons_succ, List.getElem_cons_zero]
    go_simp
    go_fit (den_any n1 s1 d1 _)
    rintro e wn ⟨rfl, bn⟩
    have bcn := Below.after bc bn
    try go_wp2_with fail
    refine hK.out _ _ (mkS.out _ bcn) (fun hS => ?_)
    clear hK K
    exact lst (L3_1.out g1 wn hS (k1.below bn) h1) (by kernel_rfl)
   ·simp only [List.getElem_toArray, List.getElem_cons_succ, List.getElem_cons_zero]
    go_simp
    try go_wp2_with fail
    refine hK.out _ _ (mkS.out _ (ba bc _)) (fun hS => ?_)
    clear hK K
    exact lst (L2_01.out _ g1 _ hS (Cel.new w' _ _) bc.size (k1.alloc _) h1 (by have := k1.lt; omega)) (by kernel_rfl)
  have L2_ : Hid (∀ (w' : World) (hS : SP w'), wpAnyH Tryz.prog .any ops q SP 6 (ls 12 [0, 1, 2, 3, 4, 6]) (fr undef undef (.agg #[.bool false, .string d0]) (.agg #[.bool aN, .string aS]) undef undef) w') := by
   clear L4_01 L4_0 L4_1 L4_ L3_01 L3_0 L3_1 L2_01
   subst hops hq hSP hfr
   intro w' hS
   have bc := bcS.out _ hS
   dsimp only
   refine rdy [5, 8, 9] (by kernel_rfl) ?_
   refine AllReadyH.cons (o := _) rfl (fun K hK => ?_) (AllReadyH.cons (o := _) rfl (fun K hK => ?_) (AllReadyH.cons (o := _) rfl (fun K hK => ?_) AllReadyH.nil))
   ·simp only [List.getElem_toArray, List.getElem_cons_succ, List.getElem_cons_zero]
    go_simp
    go_fit (den_any n1 s1 d1 _)
    rintro e wn ⟨rfl, bn⟩
    have bcn := Below.after bc bn
    try go_wp2_with fail
    refine hK.out _ _ (mkS.out _ bcn) (fun hS => ?_)
    clear hK K
    exact lst (L3_.out wn hS) (by kernel_rfl)
   ·simp only [List.getElem_toArray, List.getElem_cons_succ, List.getElem_cons_zero]
    go_simp
    try go_wp2_with fail
    refine hK.out _ _ (mkS.out _ (ba bc _)) (fun hS => ?_)
    clear hK K
    exact lst (L2_0.out _ _ hS (Cel.new w' _ _) bc.size) (by kernel_rfl)
   ·simp only [List.getElem_toArray, List.getElem_cons_succ, List.getElem_cons_zero]
    go_simp
    try go_wp2_with fail
    refine hK.out _ _ (mkS.out _ (ba bc _)) (fun hS => ?_)
    clear hK K
    exact lst (L2_1.out _ _ hS (Cel.new w' _ _) bc.size) (by kernel_rfl)
  have L1_01 : Hid (∀ (g0 : Nat) (g1 : Nat) (w' : World) (hS : SP w') (k0 : Cel w' g0 [.bool false, .string { data := #[] }] 24) (h0 : wc.heap.size ≤ g0) (k1 : Cel w' g1 [.bool false, .string { data := #[] }] 24) (h1 : wc.heap.size ≤ g1) (n01 : ¬ g0 = g1), wpAnyH Tryz.prog .any ops q SP 5 (ls 12 [0, 1, 2, 4, 6, 8, 9]) (fr (.pointer (some ⟨g0, 0, none⟩)) (.pointer (some ⟨g1, 0, none⟩)) (.agg #[.bool false, .string d0]) undef undef undef) w') := by
   clear L4_01 L4_0 L4_1 L4_ L3_01 L3_0 L3_1 L3_ L2_0 L2_1 L2_
   subst hops hq hSP hfr
   intro g0 g1 w' hS k0 h0 k1 h1 n01
   have bc := bcS.out _ hS
   dsimp only
   refine rdy [3] (by kernel_rfl) ?_
   refine AllReadyH.cons (o := _) rfl (fun K hK => ?_) AllReadyH.nil
   ·simp only [List.getElem_toArray, List.getElem_cons_succ, List.getElem_cons_zero]
    go_simp
    go_fit (H2.out _)
    rintro e wn ⟨rfl, bn⟩
    have bcn := Below.after bc bn
    try go_wp2_with fail
    refine hK.out _ _ (mkS.out _ bcn) (fun hS => ?_)
    clear hK K
    exact lst (L2_01.out g0 g1 wn hS (k0.below bn) h0 (k1.below bn) h1 n01) (by kernel_rfl)
  have L1_0 : Hid (∀ (g0 : Nat) (w' : World) (hS : SP w') (k0 : Cel w' g0 [.bool false, .string { data := #[] }] 24) (h0 : wc.heap.size ≤ g0), wpAnyH Tryz.prog .any ops q SP 6 (ls 12 [0, 1, 2, 4, 6, 8]) (fr (.pointer (some ⟨g0, 0, none⟩)) undef (.agg #[.bool false, .string d0]) undef undef undef) w') := by
   clear L4_01 L4_0 L4_1 L4_ L3_01 L3_0 L3_1 L3_ L2_01 L2_1 L2_
   subst hops hq hSP hfr
   intro g0 w' hS k0 h0
   have bc := bcS.out _ hS
   dsimp only
   refine rdy [3, 9] (by kernel_rfl) ?_
   refine AllReadyH.cons (o := _) rfl (fun K hK => ?_) (AllReadyH.cons (o := _) rfl (fun K hK => ?_) AllReadyH.nil)
   ·simp only [List.getElem_toArray, List.getElem_cons_succ, List.getElem_cons_zero]
    go_simp
    go_fit (H2.out _)
    rintro e wn ⟨rfl, bn⟩
    have bcn := Below.after bc bn
    try go_wp2_with fail
    refine hK.out _ _ (mkS.out _ bcn) (fun hS => ?_)
    clear hK K
    exact lst (L2_0.out g0 wn hS (k0.below bn) h0) (by kernel_rfl)
   ·simp only [List.getElem_toArray, List.getElem_cons_succ, List.getElem_cons_zero]
    go_simp
    try go_wp2_with fail
    refine hK.out _ _ (mkS.out _ (ba bc _)) (fun hS => ?_)
    clear hK K
    exact lst (L1_01.out g0 _ _ hS (k0.alloc _) h0 (Cel.new w' _ _) bc.size (by have := k0.lt; omega)) (by kernel_rfl)
  have L1_1 : Hid (∀ (g1 : Nat) (w' : World) (hS : SP w') (k1 : Cel w' g1 [.bool false, .string { data := #[] }] 24) (h1 : wc.heap.size ≤ g1), wpAnyH Tryz.prog .any ops q SP 6 (ls 12 [0, 1, 2, 4, 6, 9]) (fr undef (.pointer (some ⟨g1, 0, none⟩)) (.agg #[.bool false, .string d0]) undef undef undef) w') := by
   clear L4_01 L4_0 L4_1 L4_ L3_01 L3_0 L3_1 L3_ L2_01 L2_0 L2_ L1_0
   subst hops hq hSP hfr
   intro g1 w' hS k1 h1
   have bc := bcS.out _ hS
   dsimp only
   refine rdy [3, 8] (by kernel_rfl) ?_
   refine AllReadyH.cons (o := _) rfl (fun K hK => ?_) (AllReadyH.cons (o := _) rfl (fun K hK => ?_) AllReadyH.nil)
   ·simp only [List.getElem_toArray, List.getElem_cons_succ, List.getElem_cons_zero]
    go_simp
    go_fit (H2.out _)
    rintro e wn ⟨rfl, bn⟩
    have bcn := Below.after bc bn
    try go_wp2_with fail
    refine hK.out _ _ (mkS.out _ bcn) (fun hS => ?_)
    clear hK K
    exact lst (L2_1.out g1 wn hS (k1.below bn) h1) (by kernel_rfl)
   ·simp only [List.getElem_toArray, List.getElem_cons_succ, List.getElem_cons_zero]
    go_simp
    try go_wp2_with fail
    refine hK.out _ _ (mkS.out _ (ba bc _)) (fun hS => ?_)
    clear hK K
    exact lst (L1_01.out _ g1 _ hS (Cel.new w' _ _) bc.size (k1.alloc _) h1 (by have := k1.lt; omega)) (by kernel_rfl)
  have L1_ : Hid (∀ (w' : World) (hS : SP w'), wpAnyH Tryz.prog .any ops q SP 7 (ls 12 [0, 1, 2, 4, 6]) (fr undef undef (.agg #[.bool false, .string d0]) undef undef undef) w') := by
   clear L4_01 L4_0 L4_1 L4_ L3_01 L3_0 L3_1 L3_ L2_01 L2_0 L2_1 L1_01
   subst hops hq hSP hfr
   intro w' hS
   have bc := bcS.out _ hS
   dsimp only
   refine rdy [3, 8, 9] (by kernel_rfl) ?_
   refine AllReadyH.cons (o := _) rfl (fun K hK => ?_) (AllReadyH.cons (o := _) rfl (fun K hK => ?_) (AllReadyH.cons (o := _) rfl (fun K hK => ?_) AllReadyH.nil))
   ·simp only [List.getElem_toArray, List.getElem_cons_succ, List.getElem_cons_zero]
    go_simp
    go_fit (H2.out _)
    rintro e wn ⟨rfl, bn⟩
    have bcn := Below.after bc bn
    try go_wp2_with fail
    refine hK.out _ _ (mkS.out _ bcn) (fun hS => ?_)
    clear hK K
    exact lst (L2_.out wn hS) (by kernel_rfl)
   ·simp only [List.getElem_toArray, List.getElem_cons_succ, List.getElem_cons_zero]
    go_simp
    try go_wp2_with fail
    refine hK.out _ _ (mkS.out _ (ba bc _)) (fun hS => ?_)
    clear hK K
    exact lst (L1_0.out _ _ hS (Cel.new w' _ _) bc.size) (by kernel_rfl)
   ·simp only [List.getElem_toArray, List.getElem_cons_succ, List.getElem_cons_zero]
    go_simp
    try go_wp2_with fail
    refine hK.out _ _ (mkS.out _ (ba bc _)) (fun hS => ?_)
    clear hK K
    exact lst (L1_1.out _ _ hS (Cel.new w' _ _) bc.size) (by kernel_rfl)
  have L0_01 : Hid (∀ (g0 : Nat) (g1 : Nat) (w' : World) (hS : SP w') (k0 : Cel w' g0 [.bool false, .string { data := #[] }] 24) (h0 : wc.heap.size ≤ g0) (k1 : Cel w' g1 [.bool false, .string { data := #[] }] 24) (h1 : wc.heap.size ≤ g1) (n01 : ¬ g0 = g1), wpAnyH Tryz.prog .any ops q SP 6 (ls 12 [0, 2, 4, 6, 8, 9]) (fr (.pointer (some ⟨g0, 0, none⟩)) (.pointer (some ⟨g1, 0, none⟩)) undef undef undef undef) w') := by
   clear L4_01 L4_0 L4_1 L4_ L3_01 L3_0 L3_1 L3_ L2_01 L2_0 L2_1 L2_ L1_0 L1_1 L1_
   subst hops hq hSP hfr
   intro g0 g1 w' hS k0 h0 k1 h1 n01
   have bc := bcS.out _ hS
   dsimp only
   refine rdy [1] (by kernel_rfl) ?_
   refine AllReadyH.cons (o := _) rfl (fun K hK => ?_) AllReadyH.nil
   ·simp only [List.getElem_toArray, List.getElem_cons_succ, List.getElem_cons_zero]
    go_simp
    go_fit (den_any n0 s0 d0 _)
    rintro e wn ⟨rfl, bn⟩
    have bcn := Below.after bc bn
    try go_wp2_with fail
    refine hK.out _ _ (mkS.out _ bcn) (fun hS => ?_)
    clear hK K
    exact lst (L1_01.out g0 g1 wn hS (k0.below bn) h0 (k1.below bn) h1 n01) (by kernel_rfl)
  have L0_0 : Hid (∀ (g0 : Nat) (w' : World) (hS : SP w') (k0 : Cel w' g0 [.bool false, .string { data := #[] }] 24) (h0 : wc.heap.size ≤ g0), wpAnyH Tryz.prog .any ops q SP 7 (ls 12 [0, 2, 4, 6, 8]) (fr (.pointer (some ⟨g0, 0, none⟩)) undef undef undef undef undef) w') := by
   clear L4_01 L4_0 L4_1 L4_ L3_01 L3_0 L3_1 L3_ L2_01 L2_0 L2_1 L2_ L1_01 L1_1 L1_
   subst hops hq hSP hfr
   intro g0 w' hS k0 h0
   have bc := bcS.out _ hS
   dsimp only
   refine rdy [1, 9] (by kernel_rfl) ?_
   refine AllReadyH.cons (o := _) rfl (fun K hK => ?_) (AllReadyH.cons (o := _) rfl (fun K hK => ?_) AllReadyH.nil)
   ·simp only [List.getElem_toArray, List.getElem_cons_succ, List.getElem_cons_zero]
    go_simp
    go_fit (den_any n0 s0 d0 _)
    rintro e wn ⟨rfl, bn⟩
    have bcn := Below.after bc bn
    try go_wp2_with fail
    refine hK.out _ _ (mkS.out _ bcn) (fun hS => ?_)
    clear hK K
    exact lst (L1_0.out g0 wn hS (k0.below bn) h0) (by kernel_rfl)
   ·simp only [List.getElem_toArray, List.getElem_cons_succ, List.getElem_cons_zero]
    go_simp
    try go_wp2_with fail
    refine hK.out _ _ (mkS.out _ (ba bc _)) (fun hS => ?_)
    clear hK K
    exact lst (L0_01.out g0 _ _ hS (k0.alloc _) h0 (Cel.new w' _ _) bc.size (by have := k0.lt; omega)) (by kernel_rfl)
  have L0_1 : Hid (∀ (g1 : Nat) (w' : World) (hS : SP w') (k1 : Cel w' g1 [.bool false, .string { data := #[] }] 24) (h1 : wc.heap.size ≤ g1), wpAnyH Tryz.prog .any ops q SP 7 (ls 12 [0, 2, 4, 6, 9]) (fr undef (.pointer (some ⟨g1, 0, none⟩)) undef undef undef undef) w') := by
   clear L4_01 L4_0 L4_1 L4_ L3_01 L3_0 L3_1 L3_ L2_01 L2_0 L2_1 L2_ L1_01 L1_0 L1_ L0_0
   subst hops hq hSP hfr
   intro g1 w' hS k1 h1
   have bc := bcS.out _ hS
   dsimp only
   refine rdy [1, 8] (by kernel_rfl) ?_
   refine AllReadyH.cons (o := _) rfl (fun K hK => ?_) (AllReadyH.cons (o := _) rfl (fun K hK => ?_) AllReadyH.nil)
   ·simp only [List.getElem_toArray, List.getElem_cons_succ, List.getElem_cons_zero]
    go_simp
    go_fit (den_any n0 s0 d0 _)
    rintro e wn ⟨rfl, bn⟩
    have bcn := Below.after bc bn
    try go_wp2_with fail
    refine hK.out _ _ (mkS.out _ bcn) (fun hS => ?_)
    clear hK K
    exact lst (L1_1.out g1 wn hS (k1.below bn) h1) (by kernel_rfl)
   ·simp only [List.getElem_toArray, List.getElem_cons_succ, List.getElem_cons_zero]
    go_simp
    try go_wp2_with fail
    refine hK.out _ _ (mkS.out _ (ba bc _)) (fun hS => ?_)
    clear hK K
    exact lst (L0_01.out _ g1 _ hS (Cel.new w' _ _) bc.size (k1.alloc _) h1 (by have := k1.lt; omega)) (by kernel_rfl)
  have L0_ : Hid (∀ (w' : World) (hS : SP w'), wpAnyH Tryz.prog .any ops q SP 8 (ls 12 [0, 2, 4, 6]) (fr undef undef undef undef undef undef) w') := by
   clear L4_01 L4_0 L4_1 L4_ L3_01 L3_0 L3_1 L3_ L2_01 L2_0 L2_1 L2_ L1_01 L1_0 L1_1 L0_01
   subst hops hq hSP hfr
   intro w' hS
   have bc := bcS.out _ hS
   dsimp only
   refine rdy [1, 8, 9] (by kernel_rfl) ?_
   refine AllReadyH.cons (o := _) rfl (fun K hK => ?_) (AllReadyH.cons (o := _) rfl (fun K hK => ?_) (AllReadyH.cons (o := _) rfl (fun K hK => ?_) AllReadyH.nil))
   ·simp only [List.getElem_toArray, List.getElem_cons_succ, List.getElem_cons_zero]
    go_simp
    go_fit (den_any n0 s0 d0 _)
    rintro e wn ⟨rfl, bn⟩
    have bcn := Below.after bc bn
    try go_wp2_with fail
    refine hK.out _ _ (mkS.out _ bcn) (fun hS => ?_)
    clear hK K
    exact lst (L1_.out wn hS) (by kernel_rfl)
   ·simp only [List.getElem_toArray, List.getElem_cons_succ, List.getElem_cons_zero]
    go_simp
    try go_wp2_with fail
    refine hK.out _ _ (mkS.out _ (ba bc _)) (fun hS => ?_)
    clear hK K
    exact lst (L0_0.out _ _ hS (Cel.new w' _ _) bc.size) (by kernel_rfl)
   ·simp only [List.getElem_toArray, List.getElem_cons_succ, List.getElem_cons_zero]
    go_simp
    try go_wp2_with fail
    refine hK.out _ _ (mkS.out _ (ba bc _)) (fun hS => ?_)
    clear hK K
    exact lst (L0_1.out _ _ hS (Cel.new w' _ _) bc.size) (by kernel_rfl)
  clear L4_01 L4_0 L4_1 L4_ L3_01 L3_0 L3_1 L3_ L2_01 L2_0 L2_1 L2_ L1_01 L1_0 L1_1 L1_ L0_01 L0_0 L0_1
  subst hops hq hSP hfr
  refine wpAnyH_take (i := 0) (oi := _) (v := ?_) rfl (by kernel_rfl) (by kernel_rfl) (by kernel_rfl) (fun _ _ _ h => h) (Or.inl ⟨by rfl, ?_⟩) (by assumption) ?_
  rotate_left
  ·(intro w hSw; (try dsimp only at hSw); go_simp; try with_reducible rfl)
  try simp only [Act.put, List.getElem_toArray, List.getElem_cons_zero, List.setIfInBounds_toArray, List.set_cons_zero, List.set_cons_succ]
  refine wpAnyH_take (i := 2) (oi := _) (v := ?_) rfl (by kernel_rfl) (by kernel_rfl) (by kernel_rfl) (fun _ _ _ h => h) (Or.inl ⟨by rfl, ?_⟩) (by assumption) ?_
  rotate_left
  ·(intro w hSw; (try dsimp only at hSw); go_simp; try with_reducible rfl)
  try simp only [Act.put, List.getElem_toArray, List.getElem_cons_succ, List.getElem_cons_zero, List.setIfInBounds_toArray, List.set_cons_zero, List.set_cons_succ]
  refine wpAnyH_take (i := 4) (oi := _) (v := ?_) rfl (by kernel_rfl) (by kernel_rfl) (by kernel_rfl) (fun _ _ _ h => h) (Or.inl ⟨by rfl, ?_⟩) (by assumption) ?_
  rotate_left
  ·(intro w hSw; (try dsimp only at hSw); go_simp; try with_reducible rfl)
  try simp only [Act.put, List.getElem_toArray, List.getElem_cons_succ, List.getElem_cons_zero, List.setIfInBounds_toArray, List.set_cons_zero, List.set_cons_succ]
  refine wpAnyH_take (i := 6) (oi := _) (v := ?_) rfl (by kernel_rfl) (by kernel_rfl) (by kernel_rfl) (fun _ _ _ h => h) (Or.inl ⟨by rfl, ?_⟩) (by assumption) ?_
  rotate_left
  ·(intro w hSw; (try dsimp only at hSw); go_simp; try with_reducible rfl)
  try simp only [Act.put, List.getElem_toArray, List.getElem_cons_succ, List.getElem_cons_zero, List.setIfInBounds_toArray, List.set_cons_zero, List.set_cons_succ]
  exact lst (L0_.out _ (mkS.out _ (bdrew _))) (by kernel_rfl)
 case rest =>
 obtain ⟨gp, gq, rfl, rfl, lp, lq, kp, kq, b1⟩ := hcut
 clear mkS bcS
 have sz := b1.size
 replace ka := ka.below b1
 replace kb := kb.below b1
 replace kr := kr.below b1
 replace kg := kg.below b1
 replace bb := Below.after bb b1
 clear b1
 have tp := kp.lt
 have tq := kq.lt
 go_wp2_with fail
 have mkS : ∀ w', Below wc.heap.size wc w' → (Below wc.heap.size wc w' ∧ w'.cell? ⟨w.heap.size, 0, none⟩ = some (.bool n0) ∧ w'.cell? ⟨w.heap.size, 1, none⟩ = some (.string s0) ∧ w'.cell? ⟨w.heap.size, 2, none⟩ = some (.string d0) ∧ w'.cell? ⟨w.heap.size + 1, 0, none⟩ = some (.bool n1) ∧ w'.cell? ⟨w.heap.size + 1, 1, none⟩ = some (.string s1) ∧ w'.cell? ⟨w.heap.size + 1, 2, none⟩ = some (.string d1) ∧ w'.cell? ⟨gp, 0, none⟩ = some (.bool aN) ∧ w'.cell? ⟨gp, 1, none⟩ = some (.string aS) ∧ w'.cell? ⟨gq, 0, none⟩ = some (.bool bN) ∧ w'.cell? ⟨gq, 1, none⟩ = some (.string bS)) := fun w' h => ⟨h, cel3_0 (ka.below h), cel3_1 (ka.below h), cel3_2 (ka.below h), cel3_0 (kb.below h), cel3_1 (kb.below h), cel3_2 (kb.below h), cel2_0' (kp.below h), cel2_1' (kp.below h), cel2_0' (kq.below h), cel2_1' (kq.below h)⟩
 have bcS : ∀ w', (Below wc.heap.size wc w' ∧ w'.cell? ⟨w.heap.size, 0, none⟩ = some (.bool n0) ∧ w'.cell? ⟨w.heap.size, 1, none⟩ = some (.string s0) ∧ w'.cell? ⟨w.heap.size, 2, none⟩ = some (.string d0) ∧ w'.cell? ⟨w.heap.size + 1, 0, none⟩ = some (.bool n1) ∧ w'.cell? ⟨w.heap.size + 1, 1, none⟩ = some (.string s1) ∧ w'.cell? ⟨w.heap.size + 1, 2, none⟩ = some (.string d1) ∧ w'.cell? ⟨gp, 0, none⟩ = some (.bool aN) ∧ w'.cell? ⟨gp, 1, none⟩ = some (.string aS) ∧ w'.cell? ⟨gq, 0, none⟩ = some (.bool bN) ∧ w'.cell? ⟨gq, 1, none⟩ = some (.string bS)) → Below wc.heap.size wc w' := fun w' h => h.1
 replace mkS := shut mkS
 replace bcS := shut bcS
 go_cut [9] from 23 to 31 (fun v wx => ∃ gc, v = .pointer (some ⟨gc, 0, none⟩) ∧ wc.heap.size ≤ gc ∧ Cel wx gc [.bool zN, .string zS] 24 ∧ Below wc.heap.size wc wx)
 case first =>
  clear H1 H2 H3 H7 H8 H9 H10 kr kg
  refine wp_region_held_drew (S := (fun w' => Below wc.heap.size wc w' ∧ w'.cell? ⟨w.heap.size, 0, none⟩ = some (.bool n0) ∧ w'.cell? ⟨w.heap.size, 1, none⟩ = some (.string s0) ∧ w'.cell? ⟨w.heap.size, 2, none⟩ = some (.string d0) ∧ w'.cell? ⟨w.heap.size + 1, 0, none⟩ = some (.bool n1) ∧ w'.cell? ⟨w.heap.size + 1, 1, none⟩ = some (.string s1) ∧ w'.cell? ⟨w.heap.size + 1, 2, none⟩ = some (.string d1) ∧ w'.cell? ⟨gp, 0, none⟩ = some (.bool aN) ∧ w'.cell? ⟨gp, 1, none⟩ = some (.string aS) ∧ w'.cell? ⟨gq, 0, none⟩ = some (.bool bN) ∧ w'.cell? ⟨gq, 1, none⟩ = some (.string bS))) (by kernel_rfl) (mkS.out _ (bdrew _)) (fun _ => ?_)
  refine absO 11 (by kernel_rfl) (fun ops q SP hops hq hSP => ?_)
  obtain ⟨fr, hfr⟩ : ∃ fr : Value → Value → Value → Value → Act, fr = (fun x9 x26 x30 x31 => { tmps := #[.agg #[.bool n0, .string s0, .string d0], .agg #[.bool n1, .string s1, .string d1], .pointer (some ⟨w.heap.size, 0, none⟩), .pointer (some ⟨w.heap.size + 1, 0, none⟩), .pointer (some ⟨w.heap.size + 1 + 1, 0, none⟩), .int .i64 0, .pointer (some ⟨gg, 0, none⟩), .pointer (some ⟨gp, 0, none⟩), .pointer (some ⟨gq, 0, none⟩), x9, u10, u11, u12, u13, u14, u15, u16, u17, u18, u19, u20, u21, u22, .pointer (some ⟨w.heap.size, 0, none⟩), .agg #[.bool n0, .string s0], .agg #[.bool bN, .string bS], x26, .pointer (some ⟨w.heap.size + 1, 0, none⟩), .agg #[.bool n1, .string s1], .agg #[.bool aN, .string aS], x30, x31, undef, undef, undef, undef, undef, undef, undef, undef, undef, undef, undef, undef, undef, undef], defers := [] }) := ⟨_, rfl⟩
  have L3_0 : Hid (∀ (g0 : Nat) (w' : World) (hS : SP w') (k0 : Cel w' g0 [.bool false, .string { data := #[] }] 24) (h0 : wc.heap.size ≤ g0), wpAnyH Tryz.prog .any ops q SP 1 (ls 11 [0, 1, 2, 3, 4, 5, 6, 7, 8, 9]) (fr (.pointer (some ⟨g0, 0, none⟩)) (.agg #[.bool xN, .string xS]) (.agg #[.bool yN, .string yS]) (.agg #[.bool zN, .string zS])) w') := by
   subst hops hq hSP hfr
   intro g0 w' hS k0 h0
   have bc := bcS.out _ hS
   dsimp only
   have e0_0 := cel2_0' k0
   have f0_0 := Cel.frozen k0 0
   have e0_1 := cel2_1' k0
   have f0_1 := Cel.frozen k0 1
   refine rdy [10] (by kernel_rfl) ?_
   refine AllReadyH.cons (o := _) rfl (fun K hK => ?_) AllReadyH.nil
   simp only [List.getElem_toArray, List.getElem_cons_succ, List.getElem_cons_zero]
   go_simp
   try go_wp2_with fail
   clear e0_0 f0_0 e0_1 f0_1
   refine hK.out _ _ (mkS.out _ (bset (bset bc h0 0 (.bool zN)) h0 1 (.string zS))) (fun hS => ?_)
   clear hK K
   replace k0 := (Cel.set (Cel.set k0 0 (.bool zN)) 1 (.string zS))
   replace bc := (bset (bset bc h0 0 (.bool zN)) h0 1 (.string zS))
   refine wpAnyH_done (by kernel_rfl) ?_ _
   go_wp2_with fail
   go_meet
   exact ⟨_, rfl, h0, k0, bc⟩
  have L3_ : Hid (∀ (w' : World) (hS : SP w'), wpAnyH Tryz.prog .any ops q SP 2 (ls 11 [0, 1, 2, 3, 4, 5, 6, 7, 8]) (fr undef (.agg #[.bool xN, .string xS]) (.agg #[.bool yN, .string yS]) (.agg #[.bool zN, .string zS])) w') := by
   subst hops hq hSP hfr
   intro w' hS
   have bc := bcS.out _ hS
   dsimp only
   refine rdy [9] (by kernel_rfl) ?_
   refine AllReadyH.cons (o := _) rfl (fun K hK => ?_) AllReadyH.nil
   ·simp only [List.getElem_toArray, List.getElem_cons_succ, List.getElem_cons_zero]
    go_simp
    try go_wp2_with fail
    refine hK.out _ _ (mkS.out _ (ba bc _)) (fun hS => ?_)
    clear hK K
    exact lst (L3_0.out _ _ hS (Cel.new w' _ _) bc.size) (by kernel_rfl)
  have L2_0 : Hid (∀ (g0 : Nat) (w' : World) (hS : SP w') (k0 : Cel w' g0 [.bool false, .string { data := #[] }] 24) (h0 : wc.heap.size ≤ g0), wpAnyH Tryz.prog .any ops q SP 2 (ls 11 [0, 1, 2, 3, 4, 5, 6, 7, 9]) (fr (.pointer (some ⟨g0, 0, none⟩)) (.agg #[.bool xN, .string xS]) (.agg #[.bool yN, .string yS]) undef) w') := by
   clear L3_
   subst hops hq hSP hfr
   intro g0 w' hS k0 h0
   have bc := bcS.out _ hS
   dsimp only
   refine rdy [8] (by kernel_rfl) ?_
   refine AllReadyH.cons (o := _) rfl (fun K hK => ?_) AllReadyH.nil
   ·simp only [List.getElem_toArray, List.getElem_cons_succ, List.getElem_cons_zero]
    go_simp
    go_fit (H6.out _)
    rintro e wn ⟨rfl, bn⟩
    have bcn := Below.after bc bn
    try go_wp2_with fail
    refine hK.out _ _ (mkS.out _ bcn) (fun hS => ?_)
    clear hK K
    exact lst (L3_0.out g0 wn hS (k0.below bn) h0) (by kernel_rfl)
  have L2_ : Hid (∀ (w' : World) (hS : SP w'), wpAnyH Tryz.prog .any ops q SP 3 (ls 11 [0, 1, 2, 3, 4, 5, 6, 7]) (fr undef (.agg #[.bool xN, .string xS]) (.agg #[.bool yN, .string yS]) undef) w') := by
   clear L3_0
   subst hops hq hSP hfr
   intro w' hS
   have bc := bcS.out _ hS
   dsimp only
   refine rdy [8, 9] (by kernel_rfl) ?_
   refine AllReadyH.cons (o := _) rfl (fun K hK => ?_) (AllReadyH.cons (o := _) rfl (fun K hK => ?_) AllReadyH.nil)
   ·simp only [List.getElem_toArray, List.getElem_cons_succ, List.getElem_cons_zero]
    go_simp
    go_fit (H6.out _)
    rintro e wn ⟨rfl, bn⟩
    have bcn := Below.after bc bn
    try go_wp2_with fail
    refine hK.out _ _ (mkS.out _ bcn) (fun hS => ?_)
    clear hK K
    exact lst (L3_.out wn hS) (by kernel_rfl)
   ·simp only [List.getElem_toArray, List.getElem_cons_succ, List.getElem_cons_zero]
    go_simp
    try go_wp2_with fail
    refine hK.out _ _ (mkS.out _ (ba bc _)) (fun hS => ?_)
    clear hK K
    exact lst (L2_0.out _ _ hS (Cel.new w' _ _) bc.size) (by kernel_rfl)
  have L1_0 : Hid (∀ (g0 : Nat) (w' : World) (hS : SP w') (k0 : Cel w' g0 [.bool false, .string { data := #[] }] 24) (h0 : wc.heap.size ≤ g0), wpAnyH Tryz.prog .any ops q SP 3 (ls 11 [0, 1, 2, 3, 4, 5, 6, 9]) (fr (.pointer (some ⟨g0, 0, none⟩)) (.agg #[.bool xN, .string xS]) undef undef) w') := by
   clear L3_0 L3_ L2_
   subst hops hq hSP hfr
   intro g0 w' hS k0 h0
   have bc := bcS.out _ hS
   dsimp only
   refine rdy [7] (by kernel_rfl) ?_
   refine AllReadyH.cons (o := _) rfl (fun K hK => ?_) AllReadyH.nil
   ·simp only [List.getElem_toArray, List.getElem_cons_succ, List.getElem_cons_zero]
    go_simp
    go_fit (H5.out _)
    rintro e wn ⟨rfl, bn⟩
    have bcn := Below.after bc bn
    try go_wp2_with fail
    refine hK.out _ _ (mkS.out _ bcn) (fun hS => ?_)
    clear hK K
    exact lst (L2_0.out g0 wn hS (k0.below bn) h0) (by kernel_rfl)
  have L1_ : Hid (∀ (w' : World) (hS : SP w'), wpAnyH Tryz.prog .any ops q SP 4 (ls 11 [0, 1, 2, 3, 4, 5, 6]) (fr undef (.agg #[.bool xN, .string xS]) undef undef) w') := by
   clear L3_0 L3_ L2_0
   subst hops hq hSP hfr
   intro w' hS
   have bc := bcS.out _ hS
   dsimp only
   refine rdy [7, 9] (by kernel_rfl) ?_
   refine AllReadyH.cons (o := _) rfl (fun K hK => ?_) (AllReadyH.cons (o := _) rfl (fun K hK => ?_) AllReadyH.nil)
   ·simp only [List.getElem_toArray, List.getElem_cons_succ, List.getElem_cons_zero]
    go_simp
    go_fit (H5.out _)
    rintro e wn ⟨rfl, bn⟩
    have bcn := Below.after bc bn
    try go_wp2_with fail
    refine hK.out _ _ (mkS.out _ bcn) (fun hS => ?_)
    clear hK K
    exact lst (L2_.out wn hS) (by kernel_rfl)
   ·simp only [List.getElem_toArray, List.getElem_cons_succ, List.getElem_cons_zero]
    go_simp
    try go_wp2_with fail
    refine hK.out _ _ (mkS.out _ (ba bc _)) (fun hS => ?_)
    clear hK K
    exact lst (L1_0.out _ _ hS (Cel.new w' _ _) bc.size) (by kernel_rfl)
  have L0_0 : Hid (∀ (g0 : Nat) (w' : World) (hS : SP w') (k0 : Cel w' g0 [.bool false, .string { data := #[] }] 24) (h0 : wc.heap.size ≤ g0), wpAnyH Tryz.prog .any ops q SP 4 (ls 11 [0, 1, 2, 4, 5, 6, 9]) (fr (.pointer (some ⟨g0, 0, none⟩)) undef undef undef) w') := by
   clear L3_0 L3_ L2_0 L2_ L1_
   subst hops hq hSP hfr
   intro g0 w' hS k0 h0
   have bc := bcS.out _ hS
   dsimp only
   refine rdy [3] (by kernel_rfl) ?_
   refine AllReadyH.cons (o := _) rfl (fun K hK => ?_) AllReadyH.nil
   ·simp only [List.getElem_toArray, List.getElem_cons_succ, List.getElem_cons_zero]
    go_simp
    go_fit (H4.out _)
    rintro e wn ⟨rfl, bn⟩
    have bcn := Below.after bc bn
    try go_wp2_with fail
    refine hK.out _ _ (mkS.out _ bcn) (fun hS => ?_)
    clear hK K
    exact lst (L1_0.out g0 wn hS (k0.below bn) h0) (by kernel_rfl)
  have L0_ : Hid (∀ (w' : World) (hS : SP w'), wpAnyH Tryz.prog .any ops q SP 5 (ls 11 [0, 1, 2, 4, 5, 6]) (fr undef undef undef undef) w') := by
   clear L3_0 L3_ L2_0 L2_ L1_0
   subst hops hq hSP hfr
   intro w' hS
   have bc := bcS.out _ hS
   dsimp only
   refine rdy [3, 9] (by kernel_rfl) ?_
   refine AllReadyH.cons (o := _) rfl (fun K hK => ?_) (AllReadyH.cons (o := _) rfl (fun K hK => ?_) AllReadyH.nil)
   ·simp only [List.getElem_toArray, List.getElem_cons_succ, List.getElem_cons_zero]
    go_simp
    go_fit (H4.out _)
    rintro e wn ⟨rfl, bn⟩
    have bcn := Below.after bc bn
    try go_wp2_with fail
    refine hK.out _ _ (mkS.out _ bcn) (fun hS => ?_)
    clear hK K
    exact lst (L1_.out wn hS) (by kernel_rfl)
   ·simp only [List.getElem_toArray, List.getElem_cons_succ, List.getElem_cons_zero]
    go_simp
    try go_wp2_with fail
    refine hK.out _ _ (mkS.out _ (ba bc _)) (fun hS => ?_)
    clear hK K
    exact lst (L0_0.out _ _ hS (Cel.new w' _ _) bc.size) (by kernel_rfl)
  clear L3_0 L3_ L2_0 L2_ L1_0 L1_ L0_0
  subst hops hq hSP hfr
  refine wpAnyH_take (i := 0) (oi := _) (v := ?_) rfl (by kernel_rfl) (by kernel_rfl) (by kernel_rfl) (fun _ _ _ h => h) (Or.inl ⟨by rfl, ?_⟩) (by assumption) ?_
  rotate_left
  ·(intro w hSw; (try dsimp only at hSw); go_simp; try with_reducible rfl)
  try simp only [Act.put, List.getElem_toArray, List.getElem_cons_zero, List.setIfInBounds_toArray, List.set_cons_zero, List.set_cons_succ]
  refine wpAnyH_take (i := 1) (oi := _) (v := ?_) rfl (by kernel_rfl) (by kernel_rfl) (by kernel_rfl) (fun _ _ _ h => h) (Or.inl ⟨by rfl, ?_⟩) (by assumption) ?_
  rotate_left
  ·(intro w hSw; (try dsimp only at hSw); go_simp; try with_reducible rfl)
  try simp only [Act.put, List.getElem_toArray, List.getElem_cons_succ, List.getElem_cons_zero, List.setIfInBounds_toArray, List.set_cons_zero, List.set_cons_succ]
  refine wpAnyH_take (i := 2) (oi := _) (v := ?_) rfl (by kernel_rfl) (by kernel_rfl) (by kernel_rfl) (fun _ _ _ h => h) (Or.inl ⟨by rfl, ?_⟩) (by assumption) ?_
  rotate_left
  ·(intro w hSw; (try dsimp only at hSw); go_simp; try with_reducible rfl)
  try simp only [Act.put, List.getElem_toArray, List.getElem_cons_succ, List.getElem_cons_zero, List.setIfInBounds_toArray, List.set_cons_zero, List.set_cons_succ]
  refine wpAnyH_take (i := 4) (oi := _) (v := ?_) rfl (by kernel_rfl) (by kernel_rfl) (by kernel_rfl) (fun _ _ _ h => h) (Or.inl ⟨by rfl, ?_⟩) (by assumption) ?_
  rotate_left
  ·(intro w hSw; (try dsimp only at hSw); go_simp; try with_reducible rfl)
  try simp only [Act.put, List.getElem_toArray, List.getElem_cons_succ, List.getElem_cons_zero, List.setIfInBounds_toArray, List.set_cons_zero, List.set_cons_succ]
  refine wpAnyH_take (i := 5) (oi := _) (v := ?_) rfl (by kernel_rfl) (by kernel_rfl) (by kernel_rfl) (fun _ _ _ h => h) (Or.inl ⟨by rfl, ?_⟩) (by assumption) ?_
  rotate_left
  ·(intro w hSw; (try dsimp only at hSw); go_simp; try with_reducible rfl)
  try simp only [Act.put, List.getElem_toArray, List.getElem_cons_succ, List.getElem_cons_zero, List.setIfInBounds_toArray, List.set_cons_zero, List.set_cons_succ]
  refine wpAnyH_take (i := 6) (oi := _) (v := ?_) rfl (by kernel_rfl) (by kernel_rfl) (by kernel_rfl) (fun _ _ _ h => h) (Or.inl ⟨by rfl, ?_⟩) (by assumption) ?_
  rotate_left
  ·(intro w hSw; (try dsimp only at hSw); go_simp; try with_reducible rfl)
  try simp only [Act.put, List.getElem_toArray, List.getElem_cons_succ, List.getElem_cons_zero, List.setIfInBounds_toArray, List.set_cons_zero, List.set_cons_succ]
  exact lst (L0_.out _ (mkS.out _ (bdrew _))) (by kernel_rfl)
 case rest =>
 obtain ⟨gz, rfl, lz, kz, b1⟩ := hcut
 clear mkS bcS
 have sz := b1.size
 replace ka := ka.below b1
 replace kb := kb.below b1
 replace kr := kr.below b1
 replace kg := kg.below b1
 replace kp := kp.below b1
 replace kq := kq.below b1
 replace bb := Below.after bb b1
 clear b1
 have tz := kz.lt
 have cz_0 := cel2_0' kz
 have cz_1 := cel2_1' kz
 have cg_2 := cel2_0' kg
 have cg_3 := cel2_1' kg
 go_wp2_with fail
 clear cz_0 cz_1 cg_2 cg_3
 go_fit (H7.out _ bb)
 rintro e w2 ⟨rfl, b1⟩
 have sz := b1.size
 replace ka := ka.below b1
 replace kb := kb.below b1
 replace kr := kr.below b1
 replace kg := kg.below b1
 replace kp := kp.below b1
 replace kq := kq.below b1
 replace kz := kz.below b1
 replace bb := Below.after bb b1
 clear b1
 have cg_0 := cel2_0' kg
 have fg_1 := Cel.frozen kg 0
 have cg_2 := cel2_1' kg
 have fg_3 := Cel.frozen kg 1
 go_wp2_with fail
 clear cg_0 fg_1 cg_2 fg_3
 obtain ⟨w3, hw⟩ : ∃ x, x = (w2.setCell ⟨gg, 0, none⟩ (.bool cN)).setCell ⟨gg, 1, none⟩ (.string cS) := ⟨_, rfl⟩
 rw [← hw]
 replace ka := (Cel.other (g' := gg) (Cel.other (g' := gg) ka (by omega) 0 (.bool cN)) (by omega) 1 (.string cS))
 rw [← hw] at ka
 replace kb := (Cel.other (g' := gg) (Cel.other (g' := gg) kb (by omega) 0 (.bool cN)) (by omega) 1 (.string cS))
 rw [← hw] at kb
 replace kr := (Cel.other (g' := gg) (Cel.other (g' := gg) kr (by omega) 0 (.bool cN)) (by omega) 1 (.string cS))
 rw [← hw] at kr
 replace kg := ((kg.set 0 (.bool cN)).set 1 (.string cS))
 rw [← hw] at kg
 replace kp := (Cel.other (g' := gg) (Cel.other (g' := gg) kp (by omega) 0 (.bool cN)) (by omega) 1 (.string cS))
 rw [← hw] at kp
 replace kq := (Cel.other (g' := gg) (Cel.other (g' := gg) kq (by omega) 0 (.bool cN)) (by omega) 1 (.string cS))
 rw [← hw] at kq
 replace kz := (Cel.other (g' := gg) (Cel.other (g' := gg) kz (by omega) 0 (.bool cN)) (by omega) 1 (.string cS))
 rw [← hw] at kz
 replace bb := (bset (g := gg) (bset (g := gg) bb (by omega) 0 (.bool cN)) (by omega) 1 (.string cS))
 rw [← hw] at bb
 clear hw
 have qb : w.heap.size + 1 ≠ w.heap.size + 1 + 1 := by omega
 have qp : gp ≠ w.heap.size + 1 + 1 := by omega
 have qz : gz ≠ w.heap.size + 1 + 1 := by omega
 have qg : gg ≠ w.heap.size + 1 + 1 := by omega
 have gf := fld1 rN rS
 go_region_held3 (fun w' => w'.cell? ⟨w.heap.size + 1, 0, none⟩ = some (.bool n1) ∧ w'.cell? ⟨w.heap.size + 1, 1, none⟩ = some (.string s1) ∧ w'.cell? ⟨w.heap.size + 1, 2, none⟩ = some (.string d1) ∧ w'.cell? ⟨gp, 0, none⟩ = some (.bool aN) ∧ w'.cell? ⟨gp, 1, none⟩ = some (.string aS) ∧ w'.cell? ⟨gz, 0, none⟩ = some (.bool zN) ∧ w'.cell? ⟨gz, 1, none⟩ = some (.string zS) ∧ w'.cell? ⟨gg, 0, none⟩ = some (.bool cN) ∧ w'.cell? ⟨gg, 1, none⟩ = some (.string cS)) (first | exact ⟨cel3_0 kb, cel3_1 kb, cel3_2 kb, cel2_0' kp, cel2_1' kp, cel2_0' kz, cel2_1' kz, cel2_0' kg, cel2_1' kg⟩ | exact ⟨cel3_0 (Cel.other (Cel.other (Cel.other kb qb 0 _) qb 1 _) qb 2 _), cel3_1 (Cel.other (Cel.other (Cel.other kb qb 0 _) qb 1 _) qb 2 _), cel3_2 (Cel.other (Cel.other (Cel.other kb qb 0 _) qb 1 _) qb 2 _), cel2_0' (Cel.other (Cel.other (Cel.other kp qp 0 _) qp 1 _) qp 2 _), cel2_1' (Cel.other (Cel.other (Cel.other kp qp 0 _) qp 1 _) qp 2 _), cel2_0' (Cel.other (Cel.other (Cel.other kz qz 0 _) qz 1 _) qz 2 _), cel2_1' (Cel.other (Cel.other (Cel.other kz qz 0 _) qz 1 _) qz 2 _), cel2_0' (Cel.other (Cel.other (Cel.other kg qg 0 _) qg 1 _) qg 2 _), cel2_1' (Cel.other (Cel.other (Cel.other kg qg 0 _) qg 1 _) qg 2 _)⟩) (first | (go_at_call 82; go_fit (H8.out _); rintro e wn ⟨rfl, bn⟩; replace ka := ka.below ⟨bn.os, bn.tape, bn.output, bn.size, bn.block⟩; replace kb := kb.below ⟨bn.os, bn.tape, bn.output, bn.size, bn.block⟩; replace kr := kr.below ⟨bn.os, bn.tape, bn.output, bn.size, bn.block⟩; replace kg := kg.below ⟨bn.os, bn.tape, bn.output, bn.size, bn.block⟩; replace kp := kp.below ⟨bn.os, bn.tape, bn.output, bn.size, bn.block⟩; replace kq := kq.below ⟨bn.os, bn.tape, bn.output, bn.size, bn.block⟩; replace kz := kz.below ⟨bn.os, bn.tape, bn.output, bn.size, bn.block⟩; replace bb := Below.after bb ⟨bn.os, bn.tape, bn.output, bn.size, bn.block⟩) | (go_at_call 81; go_fit (den_any n1 s1 d1 _); rintro e wn ⟨rfl, bn⟩; replace ka := ka.below ⟨bn.os, bn.tape, bn.output, bn.size, bn.block⟩; replace kb := kb.below ⟨bn.os, bn.tape, bn.output, bn.size, bn.block⟩; replace kr := kr.below ⟨bn.os, bn.tape, bn.output, bn.size, bn.block⟩; replace kg := kg.below ⟨bn.os, bn.tape, bn.output, bn.size, bn.block⟩; replace kp := kp.below ⟨bn.os, bn.tape, bn.output, bn.size, bn.block⟩; replace kq := kq.below ⟨bn.os, bn.tape, bn.output, bn.size, bn.block⟩; replace kz := kz.below ⟨bn.os, bn.tape, bn.output, bn.size, bn.block⟩; replace bb := Below.after bb ⟨bn.os, bn.tape, bn.output, bn.size, bn.block⟩) | (go_at_call 82; go_fit (H9.out _); rintro e wn ⟨rfl, bn⟩; replace ka := ka.below ⟨bn.os, bn.tape, bn.output, bn.size, bn.block⟩; replace kb := kb.below ⟨bn.os, bn.tape, bn.output, bn.size, bn.block⟩; replace kr := kr.below ⟨bn.os, bn.tape, bn.output, bn.size, bn.block⟩; replace kg := kg.below ⟨bn.os, bn.tape, bn.output, bn.size, bn.block⟩; replace kp := kp.below ⟨bn.os, bn.tape, bn.output, bn.size, bn.block⟩; replace kq := kq.below ⟨bn.os, bn.tape, bn.output, bn.size, bn.block⟩; replace kz := kz.below ⟨bn.os, bn.tape, bn.output, bn.size, bn.block⟩; replace bb := Below.after bb ⟨bn.os, bn.tape, bn.output, bn.size, bn.block⟩) | (go_at_call 84; go_fit (H10.out _); rintro e wn ⟨rfl, bn⟩; replace ka := ka.below ⟨bn.os, bn.tape, bn.output, bn.size, bn.block⟩; replace kb := kb.below ⟨bn.os, bn.tape, bn.output, bn.size, bn.block⟩; replace kr := kr.below ⟨bn.os, bn.tape, bn.output, bn.size, bn.block⟩; replace kg := kg.below ⟨bn.os, bn.tape, bn.output, bn.size, bn.block⟩; replace kp := kp.below ⟨bn.os, bn.tape, bn.output, bn.size, bn.block⟩; replace kq := kq.below ⟨bn.os, bn.tape, bn.output, bn.size, bn.block⟩; replace kz := kz.below ⟨bn.os, bn.tape, bn.output, bn.size, bn.block⟩; replace bb := Below.after bb ⟨bn.os, bn.tape, bn.output, bn.size, bn.block⟩; have e0 := cel3_0 kr; have f0 := Cel.frozen kr 0; have e1 := cel3_1 kr; have f1 := Cel.frozen kr 1; have e2 := cel3_2 kr; have f2 := Cel.frozen kr 2))
 go_wp2
 exact post_q1 (p := 4) (u := 5) (by kernel_rfl) rfl rfl rfl (((kr.set 0 _).set 1 _).set 2 _) ⟨rfl, bset (bset (bset bb (by omega) 0 _) (by omega) 1 _) (by omega) 2 _⟩
end Go.Proofs.YtlpafjbbeljbhaaGreatDoor
namespace Go.Proofs.YtlpafjbbeljbhaaGreatDoor
open Go.RowKit

/-- Signs and bytes behind names; those of no sign apart. -/
theorem named0 : ∃ (nf : Int → Bool) (sf : Int → ByteArray), (∀ z, zI z = .agg #[.bool (nf z), .string (sf z)]) ∧ (∀ z, OkZ (nf z) (sf z)) ∧ (∀ z k, Bd z k → (sf z).size ≤ k) ∧ (∀ z, zOf (nf z) (sf z) = z) ∧ (∀ z, natOf (sf z) = z.natAbs) ∧ (∀ m : Nat, nf (m : Int) = false) ∧ (∀ m : Nat, sf (m : Int) = strOf m) ∧ (∀ m : Nat, natOf (sf (m : Int)) = m) ∧ (∀ m : Nat, zI (m : Int) = .agg #[.bool false, .string (sf (m : Int))]) := by
 obtain ⟨nf, sf, h1, h2, h3, h4, -, h6, h7, h8⟩ := named
 have hn : ∀ m : Nat, nf (m : Int) = false := fun m => by rw [h7]; simp
 exact ⟨nf, sf, h1, h2, h3, h4, h6, hn, fun m => by rw [h8]; rfl, fun m => by rw [h6]; rfl, fun m => by rw [h1, hn]⟩
theorem bd_nat {s : ByteArray} {k : Nat} (h : s.size ≤ k) : Bd ((natOf s : Nat) : Int) k := bd_zOf (n := false) h
theorem zOf_false (s : ByteArray) : zOf false s = ((natOf s : Nat) : Int) := rfl

theorem sum_ok (n0 n1 : Bool) (s0 d0 s1 d1 : ByteArray) (w : World) (hT : Tab w) (o0 : OkQ n0 s0 d0) (o1 : OkQ n1 s1 d1) {K : Nat} (hK : K ≤ 4000) (z0 : s0.size ≤ K) (y0 : d0.size ≤ K) (z1 : s1.size ≤ K) (y1 : d1.size ≤ K) :
  Calls Tryz.prog 61 #[.agg #[.bool n0, .string s0, .string d0], .agg #[.bool n1, .string s1, .string d1]] w fun e w' => e = .returned (.tuple #[qI (qOf n0 s0 d0 + qOf n1 s1 d1), .int .i64 0]) ∧ Below w.heap.size w w' := by
 obtain ⟨nf, sf, hf, hok, hsz, hz, hnat, hneg, hstr, hnn, hfn⟩ := named0
 obtain ⟨G, hG⟩ : ∃ G, G = Nat.gcd (natOf d0) (natOf d1) := ⟨_, rfl⟩
 obtain ⟨ra, hra⟩ : ∃ x, x = natOf d0 / G := ⟨_, rfl⟩
 obtain ⟨rb, hrb⟩ : ∃ x, x = natOf d1 / G := ⟨_, rfl⟩
 obtain ⟨N, hN⟩ : ∃ x : Int, x = zOf n0 s0 * (rb : Nat) + zOf n1 s1 * (ra : Nat) := ⟨_, rfl⟩
 obtain ⟨C, hC⟩ : ∃ x, x = Nat.gcd N.natAbs G := ⟨_, rfl⟩
 have hGp : 0 < G := by rw [hG]; exact Nat.gcd_pos_of_pos_left _ o0.2.2.1
 have hCp : 0 < C := by rw [hC]; exact Nat.gcd_pos_of_pos_right _ hGp
 have key := Q.add_low (qOf n0 s0 d0) (qOf n1 s1 d1) G ra rb (by rw [o0.low.2, o1.low.2]; exact hG) (by rw [o0.low.2]; exact hra) (by rw [o1.low.2]; exact hrb) N (by rw [o0.low.1, o1.low.1]; exact hN) C hC
 rw [o1.low.2] at key
 have ed0 : OkZ false d0 := ⟨o0.2.1, fun h => by cases h⟩
 have ed1 : OkZ false d1 := ⟨o1.2.1, fun h => by cases h⟩
 have bG : Bd (G : Int) K := (bd_nat y0).nat (by rw [hG]; exact Nat.le_of_dvd o0.2.2.1 (Nat.gcd_dvd_left _ _))
 have bra : Bd (ra : Int) K := (bd_nat y0).nat (by rw [hra]; exact Nat.div_le_self _ _)
 have brb : Bd (rb : Int) K := (bd_nat y1).nat (by rw [hrb]; exact Nat.div_le_self _ _)
 have bx : Bd (zOf n0 s0 * (rb : Nat)) (K + K) := (bd_zOf z0).mul brb
 have bY : Bd (zOf n1 s1 * (ra : Nat)) (K + K) := (bd_zOf z1).mul bra
 have bN : Bd N (K + K + 1) := by rw [hN]; exact bx.add bY
 have bC : Bd (C : Int) K := bG.nat (by rw [hC]; exact Nat.le_of_dvd hGp (Nat.gcd_dvd_right _ _))
 have bq : Bd ((natOf d1 / C : Nat) : Int) K := (bd_nat y1).nat (Nat.div_le_self _ _)
 have eq := qI_of key (hf _) (hstr _).symm.symm
 rw [eq]
 refine sum_walk n0 n1 false false false (nf (zOf n0 s0 * (rb : Nat))) (nf (zOf n1 s1 * (ra : Nat))) (nf N) false (nf (N / (C : Nat))) false false s0 d0 s1 d1 (sf (G : Nat)) (sf (ra : Nat)) (sf (rb : Nat)) (sf (zOf n0 s0 * (rb : Nat))) (sf (zOf n1 s1 * (ra : Nat))) (sf N) (sf (C : Nat)) (sf (N / (C : Nat))) (sf ((natOf d1 / C : Nat) : Int)) (sf ((ra * (natOf d1 / C) : Nat) : Int)) w ?_ ?_ ?_ ?_ ?_ ?_ ?_ ?_ ?_ ?_
 ·intro w1 b
  have := divisor_ok false false d0 d1 w1 ed0 ed1 (by omega) (by omega) (hT.below b)
  rwa [← hG, hfn] at this
 ·intro w1
  have := cut_ok false d0 (sf (G : Nat)) w1 ed0 (hok _).1 (by omega) (Nat.le_trans (hsz _ _ bG) (by omega)) (by rw [hnn]; exact hGp)
  rwa [hnn, zOf_false, ← Int.natCast_ediv, ← hra, hfn] at this
 ·intro w1
  have := cut_ok false d1 (sf (G : Nat)) w1 ed1 (hok _).1 (by omega) (Nat.le_trans (hsz _ _ bG) (by omega)) (by rw [hnn]; exact hGp)
  rwa [hnn, zOf_false, ← Int.natCast_ediv, ← hrb, hfn] at this
 ·intro w1
  have := times_ok n0 false s0 (sf (rb : Nat)) w1 o0.1 ⟨(hok _).1, fun h => by cases h⟩ (by omega) (Nat.le_trans (hsz _ _ brb) (by omega))
  rwa [zOf_false, hnn, hf] at this
 ·intro w1
  have := times_ok n1 false s1 (sf (ra : Nat)) w1 o1.1 ⟨(hok _).1, fun h => by cases h⟩ (by omega) (Nat.le_trans (hsz _ _ bra) (by omega))
  rwa [zOf_false, hnn, hf] at this
 ·intro w1
  have := plus_ok _ _ _ _ w1 (hok (zOf n0 s0 * (rb : Nat))) (hok (zOf n1 s1 * (ra : Nat))) (Nat.le_trans (hsz _ _ bx) (by omega)) (Nat.le_trans (hsz _ _ bY) (by omega))
  rwa [hz, hz, ← hN, hf] at this
 ·intro w1 b
  have := divisor_ok _ false _ (sf (G : Nat)) w1 (hok N) ⟨(hok _).1, fun h => by cases h⟩ (Nat.le_trans (hsz _ _ bN) (by omega)) (Nat.le_trans (hsz _ _ bG) (by omega)) (hT.below b)
  rwa [hnat N, hnn, ← hC, hfn] at this
 ·intro w1
  have := cut_ok _ _ (sf (C : Nat)) w1 (hok N) (hok _).1 (Nat.le_trans (hsz _ _ bN) (by omega)) (Nat.le_trans (hsz _ _ bC) (by omega)) (by rw [hnn]; exact hCp)
  rwa [hnn, hz, hf] at this
 ·intro w1
  have := cut_ok false d1 (sf (C : Nat)) w1 ed1 (hok _).1 (by omega) (Nat.le_trans (hsz _ _ bC) (by omega)) (by rw [hnn]; exact hCp)
  rwa [hnn, zOf_false, ← Int.natCast_ediv, hfn] at this
 ·intro w1
  have := times_ok false false (sf (ra : Nat)) (sf ((natOf d1 / C : Nat) : Int)) w1 ⟨(hok _).1, fun h => by cases h⟩ ⟨(hok _).1, fun h => by cases h⟩ (Nat.le_trans (hsz _ _ bra) (by omega)) (Nat.le_trans (hsz _ _ bq) (by omega))
  rwa [zOf_false, zOf_false, hnn, hnn, ← Int.natCast_mul, hfn] at this

end Go.Proofs.YtlpafjbbeljbhaaGreatDoor
namespace Go.Proofs.YtlpafjbbeljbhaaGreatDoor
open Go.RowKit

set_option maxRecDepth 100000 in
set_option maxHeartbeats 4000000 in
theorem difference_some (n0 n1 pN : Bool) (s0 d0 s1 d1 pS qS : ByteArray) (w : World) (hs : s1.toList.isEmpty = false)
  (H1 : Hid (∀ w1, Below w.heap.size w w1 → Calls Tryz.prog 61 #[.agg #[.bool n0, .string s0, .string d0], .agg #[.bool (!n1), .string s1, .string d1]] w1 fun e w' => e = .returned (.tuple #[.agg #[.bool pN, .string pS, .string qS], .int .i64 0]) ∧ Below w1.heap.size w1 w')) :
  Calls Tryz.prog 62 #[.agg #[.bool n0, .string s0, .string d0], .agg #[.bool n1, .string s1, .string d1]] w fun e w' => e = .returned (.tuple #[.agg #[.bool pN, .string pS, .string qS], .int .i64 0]) ∧ Below w.heap.size w w' := by
 go_enter Tryz.func62, Tryz.ntmps62
 go_wp2_with fail
 go_fit (H1.out _ (ba (ba (ba (Below.refl _ _) _) _) _))
 rintro e w1 ⟨rfl, b1⟩
 obtain ⟨ka, kb, kr, b1⟩ := al3 b1
 have sz := b1.size
 have bb := b1
 clear b1
 have ta := ka.lt
 have tb := kb.lt
 have tr := kr.lt
 have cr_0 := cel3_0 kr
 have fr_1 := Cel.frozen kr 0
 have cr_2 := cel3_1 kr
 have fr_3 := Cel.frozen kr 1
 have cr_4 := cel3_2 kr
 have fr_5 := Cel.frozen kr 2
 go_wp2
 exact post_q1 (p := 4) (u := 5) (by kernel_rfl) rfl rfl rfl (((kr.set 0 _).set 1 _).set 2 _) ⟨rfl, bset (bset (bset bb (by omega) 0 _) (by omega) 1 _) (by omega) 2 _⟩
set_option maxRecDepth 100000 in
set_option maxHeartbeats 4000000 in
theorem difference_none (n0 n1 pN : Bool) (s0 d0 d1 pS qS : ByteArray) (w : World)
  (H1 : Hid (∀ w1, Below w.heap.size w w1 → Calls Tryz.prog 61 #[.agg #[.bool n0, .string s0, .string d0], .agg #[.bool false, .string ByteArray.empty, .string d1]] w1 fun e w' => e = .returned (.tuple #[.agg #[.bool pN, .string pS, .string qS], .int .i64 0]) ∧ Below w1.heap.size w1 w')) :
  Calls Tryz.prog 62 #[.agg #[.bool n0, .string s0, .string d0], .agg #[.bool n1, .string ByteArray.empty, .string d1]] w fun e w' => e = .returned (.tuple #[.agg #[.bool pN, .string pS, .string qS], .int .i64 0]) ∧ Below w.heap.size w w' := by
 go_enter Tryz.func62, Tryz.ntmps62
 go_wp2_with fail
 go_fit (H1.out _ (ba (ba (ba (Below.refl _ _) _) _) _))
 rintro e w1 ⟨rfl, b1⟩
 obtain ⟨ka, kb, kr, b1⟩ := al3 b1
 have sz := b1.size
 have bb := b1
 clear b1
 have ta := ka.lt
 have tb := kb.lt
 have tr := kr.lt
 have cr_0 := cel3_0 kr
 have fr_1 := Cel.frozen kr 0
 have cr_2 := cel3_1 kr
 have fr_3 := Cel.frozen kr 1
 have cr_4 := cel3_2 kr
 have fr_5 := Cel.frozen kr 2
 go_wp2
 exact post_q1 (p := 4) (u := 5) (by kernel_rfl) rfl rfl rfl (((kr.set 0 _).set 1 _).set 2 _) ⟨rfl, bset (bset (bset bb (by omega) 0 _) (by omega) 1 _) (by omega) 2 _⟩
theorem qOf_neg {n : Bool} {s d : ByteArray} : qOf (!n) s d = - qOf n s d := by
 unfold qOf
 rw [Rat.neg_mkRat]
 congr 1
 cases n <;> simp [zOf]
theorem difference_ok (n0 n1 : Bool) (s0 d0 s1 d1 : ByteArray) (w : World) (hT : Tab w) (o0 : OkQ n0 s0 d0) (o1 : OkQ n1 s1 d1) {K : Nat} (hK : K ≤ 4000) (z0 : s0.size ≤ K) (y0 : d0.size ≤ K) (z1 : s1.size ≤ K) (y1 : d1.size ≤ K) :
  Calls Tryz.prog 62 #[.agg #[.bool n0, .string s0, .string d0], .agg #[.bool n1, .string s1, .string d1]] w fun e w' => e = .returned (.tuple #[qI (qOf n0 s0 d0 - qOf n1 s1 d1), .int .i64 0]) ∧ Below w.heap.size w w' := by
 have hT' := fun w1 (b : Below w.heap.size w w1) => hT.below b
 by_cases hs : 0 < s1.size
 ·have on : OkQ (!n1) s1 d1 := ⟨⟨o1.1.1, fun _ => hs⟩, o1.2⟩
  have h5 : s1.toList.isEmpty = false := by simpa using toList_ne hs
  have e : qOf n0 s0 d0 - qOf n1 s1 d1 = qOf n0 s0 d0 + qOf (!n1) s1 d1 := by rw [qOf_neg, Rat.sub_eq_add_neg]
  rw [e]
  exact difference_some n0 n1 _ s0 d0 s1 d1 _ _ w h5 (fun w1 b => sum_ok n0 (!n1) s0 d0 s1 d1 w1 (hT' w1 b) o0 on hK z0 y0 z1 y1)
 ·have g3 : s1 = ByteArray.empty := ByteArray.size_eq_zero_iff.1 (by omega)
  subst g3
  have hn : n1 = false := by
   cases n1 with
   | false => rfl
   | true => exact absurd (o1.1.2 rfl) hs
  subst hn
  have e0 : qOf false ByteArray.empty d1 = 0 := by
   unfold qOf
   rw [show zOf false ByteArray.empty = 0 from rfl, Rat.zero_mkRat]
  have e : qOf n0 s0 d0 - qOf false ByteArray.empty d1 = qOf n0 s0 d0 + qOf false ByteArray.empty d1 := by rw [e0, Rat.sub_eq_add_neg, Rat.neg_zero]
  rw [e]
  exact difference_none n0 false _ s0 d0 d1 _ _ w (fun w1 b => sum_ok n0 false s0 d0 ByteArray.empty d1 w1 (hT' w1 b) o0 o1 hK z0 y0 z1 y1)
end Go.Proofs.YtlpafjbbeljbhaaGreatDoor
namespace Go.Proofs.YtlpafjbbeljbhaaGreatDoor
open Go.RowKit

/-- No number: what is told beside an error. -/
def qZ : Value := .agg #[.bool false, .string { data := #[] }, .string { data := #[] }]
theorem checkH (n0 n1 : Bool) (s0 d0 s1 d1 : ByteArray) (w : World) (hT : Tab w) : Hid (∀ (B : Nat) (w1 : World), Below w.heap.size w w1 → Cel w1 B [.bool n0, .string s0, .string d0, .bool n1, .string s1, .string d1] 26 → Calls Tryz.prog 79 #[.slice (some ⟨B, 0, none⟩) 2 2] w1 fun e w' => e = .returned (.int .i64 (twoq n0 s0 d0 n1 s1 d1 : Nat)) ∧ Below w1.heap.size w1 w') :=
 fun B w1 b h => check2_any B n0 n1 s0 d0 s1 d1 w1 (hT.below b) h

theorem qadd_ok (n0 n1 : Bool) (s0 d0 s1 d1 : ByteArray) (w : World) (hT : Tab w) (h : twoq n0 s0 d0 n1 s1 d1 = 0) {K : Nat} (hK : K ≤ 4000) (z0 : s0.size ≤ K) (y0 : d0.size ≤ K) (z1 : s1.size ≤ K) (y1 : d1.size ≤ K) :
  Calls Tryz.prog 40 #[.agg #[.bool n0, .string s0, .string d0], .agg #[.bool n1, .string s1, .string d1]] w fun e w' => e = .returned (.tuple #[qI (qOf n0 s0 d0 + qOf n1 s1 d1), .int .i64 0]) ∧ Below w.heap.size w w' := by
 have o0 := (chkq_zero (twoq_zero.1 h).1).1
 have o1 := (chkq_zero (twoq_zero.1 h).2).1
 refine add_walk n0 n1 _ s0 d0 s1 d1 _ _ 0 w (fun w1 b => ?_)
 have hc := checkH n0 n1 s0 d0 s1 d1 w1 (hT.below b)
 rw [h] at hc
 exact reckon_sum n0 n1 _ s0 d0 s1 d1 _ _ 0 w1 hc (fun w2 b2 => sum_ok n0 n1 s0 d0 s1 d1 w2 ((hT.below b).below b2) o0 o1 hK z0 y0 z1 y1)
theorem qsub_ok (n0 n1 : Bool) (s0 d0 s1 d1 : ByteArray) (w : World) (hT : Tab w) (h : twoq n0 s0 d0 n1 s1 d1 = 0) {K : Nat} (hK : K ≤ 4000) (z0 : s0.size ≤ K) (y0 : d0.size ≤ K) (z1 : s1.size ≤ K) (y1 : d1.size ≤ K) :
  Calls Tryz.prog 42 #[.agg #[.bool n0, .string s0, .string d0], .agg #[.bool n1, .string s1, .string d1]] w fun e w' => e = .returned (.tuple #[qI (qOf n0 s0 d0 - qOf n1 s1 d1), .int .i64 0]) ∧ Below w.heap.size w w' := by
 have o0 := (chkq_zero (twoq_zero.1 h).1).1
 have o1 := (chkq_zero (twoq_zero.1 h).2).1
 refine sub_walk n0 n1 _ s0 d0 s1 d1 _ _ 0 w (fun w1 b => ?_)
 have hc := checkH n0 n1 s0 d0 s1 d1 w1 (hT.below b)
 rw [h] at hc
 exact reckon_difference n0 n1 _ s0 d0 s1 d1 _ _ 0 w1 hc (fun w2 b2 => difference_ok n0 n1 s0 d0 s1 d1 w2 ((hT.below b).below b2) o0 o1 hK z0 y0 z1 y1)
end Go.Proofs.YtlpafjbbeljbhaaGreatDoor
namespace Go.Proofs.YtlpafjbbeljbhaaGreatDoor
open Go.RowKit

set_option maxRecDepth 100000 in
set_option maxHeartbeats 2000000 in
theorem reckonbad_sum (n0 n1 : Bool) (s0 d0 s1 d1 : ByteArray) (c : Int) (hc : ¬ c = 0) (w : World)
  (HC : Hid (∀ (B : Nat) (w1 : World), Below w.heap.size w w1 → Cel w1 B [.bool n0, .string s0, .string d0, .bool n1, .string s1, .string d1] 26 → Calls Tryz.prog 79 #[.slice (some ⟨B, 0, none⟩) 2 2] w1 fun e w' => e = .returned (.int .i64 c) ∧ Below w1.heap.size w1 w')) :
  Calls Tryz.prog 60 #[.agg #[.bool n0, .string s0, .string d0], .agg #[.bool n1, .string s1, .string d1], .func (.func 61) #[] #[]] w fun e w' => e = .returned (.tuple #[.agg #[.bool false, .string { data := #[] }, .string { data := #[] }], .int .i64 c]) ∧ Below w.heap.size w w' := by
 go_enter Tryz.func60, Tryz.ntmps60
 go_wp2_with fail
 obtain ⟨w1, hw, ka, kb, kr, kl, b1⟩ := mk4 w [.bool n0, .string s0, .string d0] [.bool n1, .string s1, .string d1] [.bool false, .string { data := #[] }, .string { data := #[] }] [.bool n0, .string s0, .string d0, .bool n1, .string s1, .string d1] 26 26 26 26
 rw [← hw]
 clear hw
 have sz := b1.size
 have ta := ka.lt
 have tb := kb.lt
 have tr := kr.lt
 have tl := kl.lt
 have bb := b1
 clear b1
 go_fit (HC.out _ _ bb kl)
 rintro e w2 ⟨rfl, b1⟩
 have sz := b1.size
 replace ka := ka.below b1
 replace kb := kb.below b1
 replace kr := kr.below b1
 replace kl := kl.below b1
 replace bb := Below.after bb b1
 clear b1
 clear kl
 have cr_0 := cel3_0 kr
 have fr_1 := Cel.frozen kr 0
 have cr_2 := cel3_1 kr
 have fr_3 := Cel.frozen kr 1
 have cr_4 := cel3_2 kr
 have fr_5 := Cel.frozen kr 2
 go_wp2
 exact post_q1 (p := 6) (u := 7) (v := .int .i64 c) (by kernel_rfl) rfl rfl rfl (((kr.set 0 _).set 1 _).set 2 _) ⟨rfl, bset (bset (bset bb (by omega) 0 _) (by omega) 1 _) (by omega) 2 _⟩
set_option maxRecDepth 100000 in
set_option maxHeartbeats 2000000 in
theorem reckonbad_difference (n0 n1 : Bool) (s0 d0 s1 d1 : ByteArray) (c : Int) (hc : ¬ c = 0) (w : World)
  (HC : Hid (∀ (B : Nat) (w1 : World), Below w.heap.size w w1 → Cel w1 B [.bool n0, .string s0, .string d0, .bool n1, .string s1, .string d1] 26 → Calls Tryz.prog 79 #[.slice (some ⟨B, 0, none⟩) 2 2] w1 fun e w' => e = .returned (.int .i64 c) ∧ Below w1.heap.size w1 w')) :
  Calls Tryz.prog 60 #[.agg #[.bool n0, .string s0, .string d0], .agg #[.bool n1, .string s1, .string d1], .func (.func 62) #[] #[]] w fun e w' => e = .returned (.tuple #[.agg #[.bool false, .string { data := #[] }, .string { data := #[] }], .int .i64 c]) ∧ Below w.heap.size w w' := by
 go_enter Tryz.func60, Tryz.ntmps60
 go_wp2_with fail
 obtain ⟨w1, hw, ka, kb, kr, kl, b1⟩ := mk4 w [.bool n0, .string s0, .string d0] [.bool n1, .string s1, .string d1] [.bool false, .string { data := #[] }, .string { data := #[] }] [.bool n0, .string s0, .string d0, .bool n1, .string s1, .string d1] 26 26 26 26
 rw [← hw]
 clear hw
 have sz := b1.size
 have ta := ka.lt
 have tb := kb.lt
 have tr := kr.lt
 have tl := kl.lt
 have bb := b1
 clear b1
 go_fit (HC.out _ _ bb kl)
 rintro e w2 ⟨rfl, b1⟩
 have sz := b1.size
 replace ka := ka.below b1
 replace kb := kb.below b1
 replace kr := kr.below b1
 replace kl := kl.below b1
 replace bb := Below.after bb b1
 clear b1
 clear kl
 have cr_0 := cel3_0 kr
 have fr_1 := Cel.frozen kr 0
 have cr_2 := cel3_1 kr
 have fr_3 := Cel.frozen kr 1
 have cr_4 := cel3_2 kr
 have fr_5 := Cel.frozen kr 2
 go_wp2
 exact post_q1 (p := 6) (u := 7) (v := .int .i64 c) (by kernel_rfl) rfl rfl rfl (((kr.set 0 _).set 1 _).set 2 _) ⟨rfl, bset (bset (bset bb (by omega) 0 _) (by omega) 1 _) (by omega) 2 _⟩
theorem qadd_bad (n0 n1 : Bool) (s0 d0 s1 d1 : ByteArray) (w : World) (hT : Tab w) (h : twoq n0 s0 d0 n1 s1 d1 ≠ 0) :
  Calls Tryz.prog 40 #[.agg #[.bool n0, .string s0, .string d0], .agg #[.bool n1, .string s1, .string d1]] w fun e w' => e = .returned (.tuple #[qZ, .int .i64 (twoq n0 s0 d0 n1 s1 d1 : Nat)]) ∧ Below w.heap.size w w' := by
 refine add_walk n0 n1 _ s0 d0 s1 d1 _ _ _ w (fun w1 b => ?_)
 exact reckonbad_sum n0 n1 s0 d0 s1 d1 _ (by omega) w1 (checkH n0 n1 s0 d0 s1 d1 w1 (hT.below b))
theorem qsub_bad (n0 n1 : Bool) (s0 d0 s1 d1 : ByteArray) (w : World) (hT : Tab w) (h : twoq n0 s0 d0 n1 s1 d1 ≠ 0) :
  Calls Tryz.prog 42 #[.agg #[.bool n0, .string s0, .string d0], .agg #[.bool n1, .string s1, .string d1]] w fun e w' => e = .returned (.tuple #[qZ, .int .i64 (twoq n0 s0 d0 n1 s1 d1 : Nat)]) ∧ Below w.heap.size w w' := by
 refine sub_walk n0 n1 _ s0 d0 s1 d1 _ _ _ w (fun w1 b => ?_)
 exact reckonbad_difference n0 n1 s0 d0 s1 d1 _ (by omega) w1 (checkH n0 n1 s0 d0 s1 d1 w1 (hT.below b))
end Go.Proofs.YtlpafjbbeljbhaaGreatDoor
