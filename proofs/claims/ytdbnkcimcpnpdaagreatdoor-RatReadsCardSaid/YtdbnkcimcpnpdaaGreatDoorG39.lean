/-
  Package rat: sum, walked.
-/
import Derived.Test.YtdbnkcimcpnpdaaGreatDoorG34
namespace Go.Proofs.YtdbnkcimcpnpdaaGreatDoor
open Go.RowKit

set_option maxRecDepth 100000 in
set_option maxHeartbeats 8000000 in
theorem sum_walk (n0 n1 gN aN bN xN yN zN cN pN qN rN : Bool) (s0 d0 s1 d1 gS aS bS xS yS zS cS pS qS rS : ByteArray) (w : World)
  (H1 : Hid (∀ w1, Below w.heap.size w w1 → Calls Tryz.prog 74 #[.agg #[.bool false, .string d0], .agg #[.bool false, .string d1]] w1 fun e w' => e = .returned (.agg #[.bool gN, .string gS]) ∧ Below w1.heap.size w1 w'))
  (H2 : Hid (∀ w1, Calls Tryz.prog 75 #[.agg #[.bool false, .string d0], .agg #[.bool gN, .string gS]] w1 fun e w' => e = .returned (.agg #[.bool aN, .string aS]) ∧ Below w1.heap.size w1 w'))
  (H3 : Hid (∀ w1, Calls Tryz.prog 75 #[.agg #[.bool false, .string d1], .agg #[.bool gN, .string gS]] w1 fun e w' => e = .returned (.agg #[.bool bN, .string bS]) ∧ Below w1.heap.size w1 w'))
  (H4 : Hid (∀ w1, Calls Tryz.prog 41 #[.agg #[.bool n0, .string s0], .agg #[.bool bN, .string bS]] w1 fun e w' => e = .returned (.agg #[.bool xN, .string xS]) ∧ Below w1.heap.size w1 w'))
  (H5 : Hid (∀ w1, Calls Tryz.prog 41 #[.agg #[.bool n1, .string s1], .agg #[.bool aN, .string aS]] w1 fun e w' => e = .returned (.agg #[.bool yN, .string yS]) ∧ Below w1.heap.size w1 w'))
  (H6 : Hid (∀ w1, Calls Tryz.prog 79 #[.agg #[.bool xN, .string xS], .agg #[.bool yN, .string yS]] w1 fun e w' => e = .returned (.agg #[.bool zN, .string zS]) ∧ Below w1.heap.size w1 w'))
  (H7 : Hid (∀ w1, Below w.heap.size w w1 → Calls Tryz.prog 74 #[.agg #[.bool zN, .string zS], .agg #[.bool gN, .string gS]] w1 fun e w' => e = .returned (.agg #[.bool cN, .string cS]) ∧ Below w1.heap.size w1 w'))
  (H8 : Hid (∀ w1, Calls Tryz.prog 75 #[.agg #[.bool zN, .string zS], .agg #[.bool cN, .string cS]] w1 fun e w' => e = .returned (.agg #[.bool pN, .string pS]) ∧ Below w1.heap.size w1 w'))
  (H9 : Hid (∀ w1, Calls Tryz.prog 75 #[.agg #[.bool false, .string d1], .agg #[.bool cN, .string cS]] w1 fun e w' => e = .returned (.agg #[.bool qN, .string qS]) ∧ Below w1.heap.size w1 w'))
  (H10 : Hid (∀ w1, Calls Tryz.prog 41 #[.agg #[.bool aN, .string aS], .agg #[.bool qN, .string qS]] w1 fun e w' => e = .returned (.agg #[.bool rN, .string rS]) ∧ Below w1.heap.size w1 w')) :
  Calls Tryz.prog 44 #[.agg #[.bool n0, .string s0, .string d0], .agg #[.bool n1, .string s1, .string d1]] w fun e w' => e = .returned (.tuple #[.agg #[.bool pN, .string pS, .string rS], .int .i64 0]) ∧ Below w.heap.size w w' := by
 go_enter Tryz.func44, Tryz.ntmps44
 go_wp2_with fail
 obtain ⟨w1, hw, ka, kb, kr, b1⟩ := mk3 w [.bool n0, .string s0, .string d0] [.bool n1, .string s1, .string d1] [.bool false, .string { data := #[] }, .string { data := #[] }] 26 26 26
 rw [← hw]
 clear hw
 have sz := b1.size
 have ta := ka.lt
 have tb := kb.lt
 have tr := kr.lt
 have bb := b1
 clear b1
 have mkS : ∀ w', Below w1.heap.size w1 w' → (Below w1.heap.size w1 w' ∧ w'.cell? ⟨w.heap.size, 0, none⟩ = some (.bool n0) ∧ w'.cell? ⟨w.heap.size, 1, none⟩ = some (.string s0) ∧ w'.cell? ⟨w.heap.size, 2, none⟩ = some (.string d0) ∧ w'.cell? ⟨w.heap.size + 1, 0, none⟩ = some (.bool n1) ∧ w'.cell? ⟨w.heap.size + 1, 1, none⟩ = some (.string s1) ∧ w'.cell? ⟨w.heap.size + 1, 2, none⟩ = some (.string d1)) := fun w' h => ⟨h, cel3_0 (ka.below h), cel3_1 (ka.below h), cel3_2 (ka.below h), cel3_0 (kb.below h), cel3_1 (kb.below h), cel3_2 (kb.below h)⟩
 have bcS : ∀ w', (Below w1.heap.size w1 w' ∧ w'.cell? ⟨w.heap.size, 0, none⟩ = some (.bool n0) ∧ w'.cell? ⟨w.heap.size, 1, none⟩ = some (.string s0) ∧ w'.cell? ⟨w.heap.size, 2, none⟩ = some (.string d0) ∧ w'.cell? ⟨w.heap.size + 1, 0, none⟩ = some (.bool n1) ∧ w'.cell? ⟨w.heap.size + 1, 1, none⟩ = some (.string s1) ∧ w'.cell? ⟨w.heap.size + 1, 2, none⟩ = some (.string d1)) → Below w1.heap.size w1 w' := fun w' h => h.1
 replace mkS := shut mkS
 replace bcS := shut bcS
 go_cut [6] from 10 to 14 (fun v wx => ∃ gc, v = .pointer (some ⟨gc, 0, none⟩) ∧ w1.heap.size ≤ gc ∧ Cel wx gc [.bool gN, .string gS] 24 ∧ Below w1.heap.size w1 wx)
 case first =>
  clear H2 H3 H4 H5 H6 H7 H8 H9 H10 kr
  refine wp_region_held_drew (S := (fun w' => Below w1.heap.size w1 w' ∧ w'.cell? ⟨w.heap.size, 0, none⟩ = some (.bool n0) ∧ w'.cell? ⟨w.heap.size, 1, none⟩ = some (.string s0) ∧ w'.cell? ⟨w.heap.size, 2, none⟩ = some (.string d0) ∧ w'.cell? ⟨w.heap.size + 1, 0, none⟩ = some (.bool n1) ∧ w'.cell? ⟨w.heap.size + 1, 1, none⟩ = some (.string s1) ∧ w'.cell? ⟨w.heap.size + 1, 2, none⟩ = some (.string d1))) (by kernel_rfl) (mkS.out _ (bdrew _)) (fun _ => ?_)
  refine absO 7 (by kernel_rfl) (fun ops q SP hops hq hSP => ?_)
  obtain ⟨fr, hfr⟩ : ∃ fr : Value → Value → Value → Value → Act, fr = (fun x6 x11 x13 x14 => { tmps := #[.agg #[.bool n0, .string s0, .string d0], .agg #[.bool n1, .string s1, .string d1], .pointer (some ⟨w.heap.size, 0, none⟩), .pointer (some ⟨w.heap.size + 1, 0, none⟩), .pointer (some ⟨w.heap.size + 1 + 1, 0, none⟩), .int .i64 0, x6, undef, undef, undef, .agg #[.bool n0, .string s0, .string d0], x11, .agg #[.bool n1, .string s1, .string d1], x13, x14, undef, undef, undef, undef, undef, undef, undef, undef, undef, undef, undef, undef, undef, undef, undef, undef, undef, undef, undef, undef, undef, undef, undef, undef, undef, undef, undef, undef, undef, undef, undef], defers := [] }) := ⟨_, rfl⟩
  have L3_0 : Hid (∀ (g0 : Nat) (w' : World) (hS : SP w') (k0 : Cel w' g0 [.bool false, .string { data := #[] }] 24) (h0 : w1.heap.size ≤ g0), wpAnyH Tryz.prog .any ops q SP 1 (ls 7 [0, 1, 2, 3, 4, 5]) (fr (.pointer (some ⟨g0, 0, none⟩)) (.agg #[.bool false, .string d0]) (.agg #[.bool false, .string d1]) (.agg #[.bool gN, .string gS])) w') := by
   subst hops hq hSP hfr
   intro g0 w' hS k0 h0
   have bc := bcS.out _ hS
   dsimp only
   have e0_0 := cel2_0' k0
   have f0_0 := Cel.frozen k0 0
   have e0_1 := cel2_1' k0
   have f0_1 := Cel.frozen k0 1
   refine rdy [6] (by kernel_rfl) ?_
   refine AllReadyH.cons (o := _) rfl (fun K hK => ?_) AllReadyH.nil
   simp only [List.getElem_toArray, List.getElem_cons_succ, List.getElem_cons_zero]
   go_simp
   try go_wp2_with fail
   clear e0_0 f0_0 e0_1 f0_1
   refine hK.out _ _ (mkS.out _ (bset (bset bc h0 0 (.bool gN)) h0 1 (.string gS))) (fun hS => ?_)
   clear hK K
   replace k0 := (Cel.set (Cel.set k0 0 (.bool gN)) 1 (.string gS))
   replace bc := (bset (bset bc h0 0 (.bool gN)) h0 1 (.string gS))
   refine wpAnyH_done (by kernel_rfl) ?_ _
   go_wp2_with fail
   go_meet
   exact ⟨_, rfl, h0, k0, bc⟩
  have L3_ : Hid (∀ (w' : World) (hS : SP w'), wpAnyH Tryz.prog .any ops q SP 2 (ls 7 [0, 1, 2, 3, 4]) (fr undef (.agg #[.bool false, .string d0]) (.agg #[.bool false, .string d1]) (.agg #[.bool gN, .string gS])) w') := by
   subst hops hq hSP hfr
   intro w' hS
   have bc := bcS.out _ hS
   dsimp only
   refine rdy [5] (by kernel_rfl) ?_
   refine AllReadyH.cons (o := _) rfl (fun K hK => ?_) AllReadyH.nil
   ·simp only [List.getElem_toArray, List.getElem_cons_succ, List.getElem_cons_zero]
    go_simp
    try go_wp2_with fail
    refine hK.out _ _ (mkS.out _ (ba bc _)) (fun hS => ?_)
    clear hK K
    exact lst (L3_0.out _ _ hS (Cel.new w' _ _) bc.size) (by kernel_rfl)
  have L2_0 : Hid (∀ (g0 : Nat) (w' : World) (hS : SP w') (k0 : Cel w' g0 [.bool false, .string { data := #[] }] 24) (h0 : w1.heap.size ≤ g0), wpAnyH Tryz.prog .any ops q SP 2 (ls 7 [0, 1, 2, 3, 5]) (fr (.pointer (some ⟨g0, 0, none⟩)) (.agg #[.bool false, .string d0]) (.agg #[.bool false, .string d1]) undef) w') := by
   clear L3_
   subst hops hq hSP hfr
   intro g0 w' hS k0 h0
   have bc := bcS.out _ hS
   dsimp only
   refine rdy [4] (by kernel_rfl) ?_
   refine AllReadyH.cons (o := _) rfl (fun K hK => ?_) AllReadyH.nil
   ·simp only [List.getElem_toArray, List.getElem_cons_succ, List.getElem_cons_zero]
    go_simp
    go_fit (H1.out _ ?_)
    ·exact Below.after bb bc
    rintro e wn ⟨rfl, bn⟩
    have bcn := Below.after bc bn
    try go_wp2_with fail
    refine hK.out _ _ (mkS.out _ bcn) (fun hS => ?_)
    clear hK K
    exact lst (L3_0.out g0 wn hS (k0.below bn) h0) (by kernel_rfl)
  have L2_ : Hid (∀ (w' : World) (hS : SP w'), wpAnyH Tryz.prog .any ops q SP 3 (ls 7 [0, 1, 2, 3]) (fr undef (.agg #[.bool false, .string d0]) (.agg #[.bool false, .string d1]) undef) w') := by
   clear L3_0
   subst hops hq hSP hfr
   intro w' hS
   have bc := bcS.out _ hS
   dsimp only
   refine rdy [4, 5] (by kernel_rfl) ?_
   refine AllReadyH.cons (o := _) rfl (fun K hK => ?_) (AllReadyH.cons (o := _) rfl (fun K hK => ?_) AllReadyH.nil)
   ·simp only [List.getElem_toArray, List.getElem_cons_succ, List.getElem_cons_zero]
    go_simp
    go_fit (H1.out _ ?_)
    ·exact Below.after bb bc
    rintro e wn ⟨rfl, bn⟩
    have bcn := Below.after bc bn
    try go_wp2_with fail
    refine hK.out _ _ (mkS.out _ bcn) (fun hS => ?_)
    clear hK K
    exact lst (L3_.out wn hS) (by kernel_rfl)
   ·simp only [List.getElem_toArray, List.getElem_cons_succ, List.getElem_cons_zero]
    go_simp
    try go_wp2_with fail
    refine hK.out _ _ (mkS.out _ (ba bc _)) (fun hS => ?_)
    clear hK K
    exact lst (L2_0.out _ _ hS (Cel.new w' _ _) bc.size) (by kernel_rfl)
  have L1_0 : Hid (∀ (g0 : Nat) (w' : World) (hS : SP w') (k0 : Cel w' g0 [.bool false, .string { data := #[] }] 24) (h0 : w1.heap.size ≤ g0), wpAnyH Tryz.prog .any ops q SP 3 (ls 7 [0, 1, 2, 5]) (fr (.pointer (some ⟨g0, 0, none⟩)) (.agg #[.bool false, .string d0]) undef undef) w') := by
   clear L3_0 L3_ L2_
   subst hops hq hSP hfr
   intro g0 w' hS k0 h0
   have bc := bcS.out _ hS
   dsimp only
   refine rdy [3] (by kernel_rfl) ?_
   refine AllReadyH.cons (o := _) rfl (fun K hK => ?_) AllReadyH.nil
   ·simp only [List.getElem_toArray, List.getElem_cons_succ, List.getElem_cons_zero]
    go_simp
    go_fit (den_any n1 s1 d1 _)
    rintro e wn ⟨rfl, bn⟩
    have bcn := Below.after bc bn
    try go_wp2_with fail
    refine hK.out _ _ (mkS.out _ bcn) (fun hS => ?_)
    clear hK K
    exact lst (L2_0.out g0 wn hS (k0.below bn) h0) (by kernel_rfl)
  have L1_ : Hid (∀ (w' : World) (hS : SP w'), wpAnyH Tryz.prog .any ops q SP 4 (ls 7 [0, 1, 2]) (fr undef (.agg #[.bool false, .string d0]) undef undef) w') := by
   clear L3_0 L3_ L2_0
   subst hops hq hSP hfr
   intro w' hS
   have bc := bcS.out _ hS
   dsimp only
   refine rdy [3, 5] (by kernel_rfl) ?_
   refine AllReadyH.cons (o := _) rfl (fun K hK => ?_) (AllReadyH.cons (o := _) rfl (fun K hK => ?_) AllReadyH.nil)
   ·simp only [List.getElem_toArray, List.getElem_cons_succ, List.getElem_cons_zero]
    go_simp
    go_fit (den_any n1 s1 d1 _)
    rintro e wn ⟨rfl, bn⟩
    have bcn := Below.after bc bn
    try go_wp2_with fail
    refine hK.out _ _ (mkS.out _ bcn) (fun hS => ?_)
    clear hK K
    exact lst (L2_.out wn hS) (by kernel_rfl)
   ·simp only [List.getElem_toArray, List.getElem_cons_succ, List.getElem_cons_zero]
    go_simp
    try go_wp2_with fail
    refine hK.out _ _ (mkS.out _ (ba bc _)) (fun hS => ?_)
    clear hK K
    exact lst (L1_0.out _ _ hS (Cel.new w' _ _) bc.size) (by kernel_rfl)
  have L0_0 : Hid (∀ (g0 : Nat) (w' : World) (hS : SP w') (k0 : Cel w' g0 [.bool false, .string { data := #[] }] 24) (h0 : w1.heap.size ≤ g0), wpAnyH Tryz.prog .any ops q SP 4 (ls 7 [0, 2, 5]) (fr (.pointer (some ⟨g0, 0, none⟩)) undef undef undef) w') := by
   clear L3_0 L3_ L2_0 L2_ L1_
   subst hops hq hSP hfr
   intro g0 w' hS k0 h0
   have bc := bcS.out _ hS
   dsimp only
   refine rdy [1] (by kernel_rfl) ?_
   refine AllReadyH.cons (o := _) rfl (fun K hK => ?_) AllReadyH.nil
   ·simp only [List.getElem_toArray, List.getElem_cons_succ, List.getElem_cons_zero]
    go_simp
    go_fit (den_any n0 s0 d0 _)
    rintro e wn ⟨rfl, bn⟩
    have bcn := Below.after bc bn
    try go_wp2_with fail
    refine hK.out _ _ (mkS.out _ bcn) (fun hS => ?_)
    clear hK K
    exact lst (L1_0.out g0 wn hS (k0.below bn) h0) (by kernel_rfl)
  have L0_ : Hid (∀ (w' : World) (hS : SP w'), wpAnyH Tryz.prog .any ops q SP 5 (ls 7 [0, 2]) (fr undef undef undef undef) w') := by
   clear L3_0 L3_ L2_0 L2_ L1_0
   subst hops hq hSP hfr
   intro w' hS
   have bc := bcS.out _ hS
   dsimp only
   refine rdy [1, 5] (by kernel_rfl) ?_
   refine AllReadyH.cons (o := _) rfl (fun K hK => ?_) (AllReadyH.cons (o := _) rfl (fun K hK => ?_) AllReadyH.nil)
   ·simp only [List.getElem_toArray, List.getElem_cons_succ, List.getElem_cons_zero]
    go_simp
    go_fit (den_any n0 s0 d0 _)
    rintro e wn ⟨rfl, bn⟩
    have bcn := Below.after bc bn
    try go_wp2_with fail
    refine hK.out _ _ (mkS.out _ bcn) (fun hS => ?_)
    clear hK K
    exact lst (L1_.out wn hS) (by kernel_rfl)
   ·simp only [List.getElem_toArray, List.getElem_cons_succ, List.getElem_cons_zero]
    go_simp
    try go_wp2_with fail
    refine hK.out _ _ (mkS.out _ (ba bc _)) (fun hS => ?_)
    clear hK K
    exact lst (L0_0.out _ _ hS (Cel.new w' _ _) bc.size) (by kernel_rfl)
  clear L3_0 L3_ L2_0 L2_ L1_0 L1_ L0_0
  subst hops hq hSP hfr
  refine wpAnyH_take (i := 0) (oi := _) (v := ?_) rfl (by kernel_rfl) (by kernel_rfl) (by kernel_rfl) (fun _ _ _ h => h) (Or.inl ⟨by rfl, ?_⟩) (by assumption) ?_
  rotate_left
  ·(intro w hSw; (try dsimp only at hSw); go_simp; try with_reducible rfl)
  try simp only [Act.put, List.getElem_toArray, List.getElem_cons_zero, List.setIfInBounds_toArray, List.set_cons_zero, List.set_cons_succ]
  refine wpAnyH_take (i := 2) (oi := _) (v := ?_) rfl (by kernel_rfl) (by kernel_rfl) (by kernel_rfl) (fun _ _ _ h => h) (Or.inl ⟨by rfl, ?_⟩) (by assumption) ?_
  rotate_left
  ·(intro w hSw; (try dsimp only at hSw); go_simp; try with_reducible rfl)
  try simp only [Act.put, List.getElem_toArray, List.getElem_cons_succ, List.getElem_cons_zero, List.setIfInBounds_toArray, List.set_cons_zero, List.set_cons_succ]
  exact lst (L0_.out _ (mkS.out _ (bdrew _))) (by kernel_rfl)
 case rest =>
 obtain ⟨gg, rfl, lg, kg, b1⟩ := hcut
 clear mkS bcS
 have sz := b1.size
 replace ka := ka.below b1
 replace kb := kb.below b1
 replace kr := kr.below b1
 replace bb := Below.after bb b1
 clear b1
 have tg := kg.lt
 go_wp2_with fail
 have mkS : ∀ w', Below wc.heap.size wc w' → (Below wc.heap.size wc w' ∧ w'.cell? ⟨w.heap.size, 0, none⟩ = some (.bool n0) ∧ w'.cell? ⟨w.heap.size, 1, none⟩ = some (.string s0) ∧ w'.cell? ⟨w.heap.size, 2, none⟩ = some (.string d0) ∧ w'.cell? ⟨w.heap.size + 1, 0, none⟩ = some (.bool n1) ∧ w'.cell? ⟨w.heap.size + 1, 1, none⟩ = some (.string s1) ∧ w'.cell? ⟨w.heap.size + 1, 2, none⟩ = some (.string d1) ∧ w'.cell? ⟨gg, 0, none⟩ = some (.bool gN) ∧ w'.cell? ⟨gg, 1, none⟩ = some (.string gS)) := fun w' h => ⟨h, cel3_0 (ka.below h), cel3_1 (ka.below h), cel3_2 (ka.below h), cel3_0 (kb.below h), cel3_1 (kb.below h), cel3_2 (kb.below h), cel2_0' (kg.below h), cel2_1' (kg.below h)⟩
 have bcS : ∀ w', (Below wc.heap.size wc w' ∧ w'.cell? ⟨w.heap.size, 0, none⟩ = some (.bool n0) ∧ w'.cell? ⟨w.heap.size, 1, none⟩ = some (.string s0) ∧ w'.cell? ⟨w.heap.size, 2, none⟩ = some (.string d0) ∧ w'.cell? ⟨w.heap.size + 1, 0, none⟩ = some (.bool n1) ∧ w'.cell? ⟨w.heap.size + 1, 1, none⟩ = some (.string s1) ∧ w'.cell? ⟨w.heap.size + 1, 2, none⟩ = some (.string d1) ∧ w'.cell? ⟨gg, 0, none⟩ = some (.bool gN) ∧ w'.cell? ⟨gg, 1, none⟩ = some (.string gS)) → Below wc.heap.size wc w' := fun w' h => h.1
 replace mkS := shut mkS
 replace bcS := shut bcS
 go_cut [7, 8] from 15 to 22 (fun v u wx => ∃ gc gd, v = .pointer (some ⟨gc, 0, none⟩) ∧ u = .pointer (some ⟨gd, 0, none⟩) ∧ wc.heap.size ≤ gc ∧ wc.heap.size ≤ gd ∧ Cel wx gc [.bool aN, .string aS] 24 ∧ Cel wx gd [.bool bN, .string bS] 24 ∧ Below wc.heap.size wc wx)
 case first =>
  clear H1 H4 H5 H6 H7 H8 H9 H10 kr
  refine wp_region_held_drew (S := (fun w' => Below wc.heap.size wc w' ∧ w'.cell? ⟨w.heap.size, 0, none⟩ = some (.bool n0) ∧ w'.cell? ⟨w.heap.size, 1, none⟩ = some (.string s0) ∧ w'.cell? ⟨w.heap.size, 2, none⟩ = some (.string d0) ∧ w'.cell? ⟨w.heap.size + 1, 0, none⟩ = some (.bool n1) ∧ w'.cell? ⟨w.heap.size + 1, 1, none⟩ = some (.string s1) ∧ w'.cell? ⟨w.heap.size + 1, 2, none⟩ = some (.string d1) ∧ w'.cell? ⟨gg, 0, none⟩ = some (.bool gN) ∧ w'.cell? ⟨gg, 1, none⟩ = some (.string gS))) (by kernel_rfl) (mkS.out _ (bdrew _)) (fun _ => ?_)
  refine absO 12 (by kernel_rfl) (fun ops q SP hops hq hSP => ?_)
  obtain ⟨fr, hfr⟩ : ∃ fr : Value → Value → Value → Value → Value → Value → Act, fr = (fun x7 x8 x16 x18 x20 x22 => { tmps := #[.agg #[.bool n0, .string s0, .string d0], .agg #[.bool n1, .string s1, .string d1], .pointer (some ⟨w.heap.size, 0, none⟩), .pointer (some ⟨w.heap.size + 1, 0, none⟩), .pointer (some ⟨w.heap.size + 1 + 1, 0, none⟩), .int .i64 0, .pointer (some ⟨gg, 0, none⟩), x7, x8, undef, u10, u11, u12, u13, u14, .agg #[.bool n0, .string s0, .string d0], x16, .agg #[.bool gN, .string gS], x18, .agg #[.bool n1, .string s1, .string d1], x20, .agg #[.bool gN, .string gS], x22, undef, undef, undef, undef, undef, undef, undef, undef, undef, undef, undef, undef, undef, undef, undef, undef, undef, undef, undef, undef, undef, undef, undef], defers := [] }) := ⟨_, rfl⟩
  have L4_01 : Hid (∀ (g0 : Nat) (g1 : Nat) (w' : World) (hS : SP w') (k0 : Cel w' g0 [.bool false, .string { data := #[] }] 24) (h0 : wc.heap.size ≤ g0) (k1 : Cel w' g1 [.bool false, .string { data := #[] }] 24) (h1 : wc.heap.size ≤ g1) (n01 : ¬ g0 = g1), wpAnyH Tryz.prog .any ops q SP 2 (ls 12 [0, 1, 2, 3, 4, 5, 6, 7, 8, 9]) (fr (.pointer (some ⟨g0, 0, none⟩)) (.pointer (some ⟨g1, 0, none⟩)) (.agg #[.bool false, .string d0]) (.agg #[.bool aN, .string aS]) (.agg #[.bool false, .string d1]) (.agg #[.bool bN, .string bS])) w') := by
   subst hops hq hSP hfr
   intro g0 g1 w' hS k0 h0 k1 h1 n01
   have bc := bcS.out _ hS
   dsimp only
   have e0_0 := cel2_0' k0
   have f0_0 := Cel.frozen k0 0
   have e0_1 := cel2_1' k0
   have f0_1 := Cel.frozen k0 1
   refine rdy [10] (by kernel_rfl) ?_
   refine AllReadyH.cons (o := _) rfl (fun K hK => ?_) AllReadyH.nil
   simp only [List.getElem_toArray, List.getElem_cons_succ, List.getElem_cons_zero]
   go_simp
   try go_wp2_with fail
   clear e0_0 f0_0 e0_1 f0_1
   refine hK.out _ _ (mkS.out _ (bset (bset bc h0 0 (.bool aN)) h0 1 (.string aS))) (fun hS => ?_)
   clear hK K
   replace k0 := (Cel.set (Cel.set k0 0 (.bool aN)) 1 (.string aS))
   replace k1 := (Cel.other (Cel.other k1 (fun e => n01 e.symm) 0 (.bool aN)) (fun e => n01 e.symm) 1 (.string aS))
   replace bc := (bset (bset bc h0 0 (.bool aN)) h0 1 (.string aS))
   have e1_0 := cel2_0' k1
   have f1_0 := Cel.frozen k1 0
   have e1_1 := cel2_1' k1
   have f1_1 := Cel.frozen k1 1
   refine rdy [11] (by kernel_rfl) ?_
   refine AllReadyH.cons (o := _) rfl (fun K hK => ?_) AllReadyH.nil
   simp only [List.getElem_toArray, List.getElem_cons_succ, List.getElem_cons_zero]
   go_simp
   try go_wp2_with fail
   clear e1_0 f1_0 e1_1 f1_1
   refine hK.out _ _ (mkS.out _ (bset (bset bc h1 0 (.bool bN)) h1 1 (.string bS))) (fun hS => ?_)
   clear hK K
   replace k0 := (Cel.other (Cel.other k0 n01 0 (.bool bN)) n01 1 (.string bS))
   replace k1 := (Cel.set (Cel.set k1 0 (.bool bN)) 1 (.string bS))
   replace bc := (bset (bset bc h1 0 (.bool bN)) h1 1 (.string bS))
   refine wpAnyH_done (by kernel_rfl) ?_ _
   go_wp2_with fail
   go_meet
   exact ⟨_, _, rfl, rfl, h0, h1, k0, k1, bc⟩
  have L4_0 : Hid (∀ (g0 : Nat) (w' : World) (hS : SP w') (k0 : Cel w' g0 [.bool false, .string { data := #[] }] 24) (h0 : wc.heap.size ≤ g0), wpAnyH Tryz.prog .any ops q SP 3 (ls 12 [0, 1, 2, 3, 4, 5, 6, 7, 8]) (fr (.pointer (some ⟨g0, 0, none⟩)) undef (.agg #[.bool false, .string d0]) (.agg #[.bool aN, .string aS]) (.agg #[.bool false, .string d1]) (.agg #[.bool bN, .string bS])) w') := by
   subst hops hq hSP hfr
   intro g0 w' hS k0 h0
   have bc := bcS.out _ hS
   dsimp only
   refine rdy [9] (by kernel_rfl) ?_
   refine AllReadyH.cons (o := _) rfl (fun K hK => ?_) AllReadyH.nil
   ·simp only [List.getElem_toArray, List.getElem_cons_succ, List.getElem_cons_zero]
    go_simp
    try go_wp2_with fail
    refine hK.out _ _ (mkS.out _ (ba bc _)) (fun hS => ?_)
    clear hK K
    exact lst (L4_01.out g0 _ _ hS (k0.alloc _) h0 (Cel.new w' _ _) bc.size (by have := k0.lt; omega)) (by kernel_rfl)
  have L4_1 : Hid (∀ (g1 : Nat) (w' : World) (hS : SP w') (k1 : Cel w' g1 [.bool false, .string { data := #[] }] 24) (h1 : wc.heap.size ≤ g1), wpAnyH Tryz.prog .any ops q SP 3 (ls 12 [0, 1, 2, 3, 4, 5, 6, 7, 9]) (fr undef (.pointer (some ⟨g1, 0, none⟩)) (.agg #[.bool false, .string d0]) (.agg #[.bool aN, .string aS]) (.agg #[.bool false, .string d1]) (.agg #[.bool bN, .string bS])) w') := by
   clear L4_0
   subst hops hq hSP hfr
   intro g1 w' hS k1 h1
   have bc := bcS.out _ hS
   dsimp only
   refine rdy [8] (by kernel_rfl) ?_
   refine AllReadyH.cons (o := _) rfl (fun K hK => ?_) AllReadyH.nil
   ·simp only [List.getElem_toArray, List.getElem_cons_succ, List.getElem_cons_zero]
    go_simp
    try go_wp2_with fail
    refine hK.out _ _ (mkS.out _ (ba bc _)) (fun hS => ?_)
    clear hK K
    exact lst (L4_01.out _ g1 _ hS (Cel.new w' _ _) bc.size (k1.alloc _) h1 (by have := k1.lt; omega)) (by kernel_rfl)
  have L4_ : Hid (∀ (w' : World) (hS : SP w'), wpAnyH Tryz.prog .any ops q SP 4 (ls 12 [0, 1, 2, 3, 4, 5, 6, 7]) (fr undef undef (.agg #[.bool false, .string d0]) (.agg #[.bool aN, .string aS]) (.agg #[.bool false, .string d1]) (.agg #[.bool bN, .string bS])) w') := by
   clear L4_01
   subst hops hq hSP hfr
   intro w' hS
   have bc := bcS.out _ hS
   dsimp only
   refine rdy [8, 9] (by kernel_rfl) ?_
   refine AllReadyH.cons (o := _) rfl (fun K hK => ?_) (AllReadyH.cons (o := _) rfl (fun K hK => ?_) AllReadyH.nil)
   ·simp only [List.getElem_toArray, List.getElem_cons_succ, List.getElem_cons_zero]
    go_simp
    try go_wp2_with fail
    refine hK.out _ _ (mkS.out _ (ba bc _)) (fun hS => ?_)
    clear hK K
    exact lst (L4_0.out _ _ hS (Cel.new w' _ _) bc.size) (by kernel_rfl)
   ·simp only [List.getElem_toArray, List.getElem_cons_succ, List.getElem_cons_zero]
    go_simp
    try go_wp2_with fail
    refine hK.out _ _ (mkS.out _ (ba bc _)) (fun hS => ?_)
    clear hK K
    exact lst (L4_1.out _ _ hS (Cel.new w' _ _) bc.size) (by kernel_rfl)
  have L3_01 : Hid (∀ (g0 : Nat) (g1 : Nat) (w' : World) (hS : SP w') (k0 : Cel w' g0 [.bool false, .string { data := #[] }] 24) (h0 : wc.heap.size ≤ g0) (k1 : Cel w' g1 [.bool false, .string { data := #[] }] 24) (h1 : wc.heap.size ≤ g1) (n01 : ¬ g0 = g1), wpAnyH Tryz.prog .any ops q SP 3 (ls 12 [0, 1, 2, 3, 4, 5, 6, 8, 9]) (fr (.pointer (some ⟨g0, 0, none⟩)) (.pointer (some ⟨g1, 0, none⟩)) (.agg #[.bool false, .string d0]) (.agg #[.bool aN, .string aS]) (.agg #[.bool false, .string d1]) undef) w') := by
   clear L4_0 L4_1 L4_
   subst hops hq hSP hfr
   intro g0 g1 w' hS k0 h0 k1 h1 n01
   have bc := bcS.out _ hS
   dsimp only
   refine rdy [7] (by kernel_rfl) ?_
   refine AllReadyH.cons (o := _) rfl (fun K hK => ?_) AllReadyH.nil
   ·simp only [List.getElem_toArray, List.getElem_cons_succ, List.getElem_cons_zero]
    go_simp
    go_fit (H3.out _)
    rintro e wn ⟨rfl, bn⟩
    have bcn := Below.after bc bn
    try go_wp2_with fail
    refine hK.out _ _ (mkS.out _ bcn) (fun hS => ?_)
    clear hK K
    exact lst (L4_01.out g0 g1 wn hS (k0.below bn) h0 (k1.below bn) h1 n01) (by kernel_rfl)
  have L3_0 : Hid (∀ (g0 : Nat) (w' : World) (hS : SP w') (k0 : Cel w' g0 [.bool false, .string { data := #[] }] 24) (h0 : wc.heap.size ≤ g0), wpAnyH Tryz.prog .any ops q SP 4 (ls 12 [0, 1, 2, 3, 4, 5, 6, 8]) (fr (.pointer (some ⟨g0, 0, none⟩)) undef (.agg #[.bool false, .string d0]) (.agg #[.bool aN, .string aS]) (.agg #[.bool false, .string d1]) undef) w') := by
   clear L4_01 L4_1 L4_
   subst hops hq hSP hfr
   intro g0 w' hS k0 h0
   have bc := bcS.out _ hS
   dsimp only
   refine rdy [7, 9] (by kernel_rfl) ?_
   refine AllReadyH.cons (o := _) rfl (fun K hK => ?_) (AllReadyH.cons (o := _) rfl (fun K hK => ?_) AllReadyH.nil)
   ·simp only [List.getElem_toArray, List.getElem_cons_succ, List.getElem_cons_zero]
    go_simp
    go_fit (H3.out _)
    rintro e wn ⟨rfl, bn⟩
    have bcn := Below.after bc bn
    try go_wp2_with fail
    refine hK.out _ _ (mkS.out _ bcn) (fun hS => ?_)
    clear hK K
    exact lst (L4_0.out g0 wn hS (k0.below bn) h0) (by kernel_rfl)
   ·simp only [List.getElem_toArray, List.getElem_cons_succ, List.getElem_cons_zero]
    go_simp
    try go_wp2_with fail
    refine hK.out _ _ (mkS.out _ (ba bc _)) (fun hS => ?_)
    clear hK K
    exact lst (L3_01.out g0 _ _ hS (k0.alloc _) h0 (Cel.new w' _ _) bc.size (by have := k0.lt; omega)) (by kernel_rfl)
  have L3_1 : Hid (∀ (g1 : Nat) (w' : World) (hS : SP w') (k1 : Cel w' g1 [.bool false, .string { data := #[] }] 24) (h1 : wc.heap.size ≤ g1), wpAnyH Tryz.prog .any ops q SP 4 (ls 12 [0, 1, 2, 3, 4, 5, 6, 9]) (fr undef (.pointer (some ⟨g1, 0, none⟩)) (.agg #[.bool false, .string d0]) (.agg #[.bool aN, .string aS]) (.agg #[.bool false, .string d1]) undef) w') := by
   clear L4_01 L4_0 L4_ L3_0
   subst hops hq hSP hfr
   intro g1 w' hS k1 h1
   have bc := bcS.out _ hS
   dsimp only
   refine rdy [7, 8] (by kernel_rfl) ?_
   refine AllReadyH.cons (o := _) rfl (fun K hK => ?_) (AllReadyH.cons (o := _) rfl (fun K hK => ?_) AllReadyH.nil)
   ·simp only [List.getElem_toArray, List.getElem_cons_succ, List.getElem_cons_zero]
    go_simp
    go_fit (H3.out _)
    rintro e wn ⟨rfl, bn⟩
    have bcn := Below.after bc bn
    try go_wp2_with fail
    refine hK.out _ _ (mkS.out _ bcn) (fun hS => ?_)
    clear hK K
    exact lst (L4_1.out g1 wn hS (k1.below bn) h1) (by kernel_rfl)
   ·simp only [List.getElem_toArray, List.getElem_cons_succ, List.getElem_cons_zero]
    go_simp
    try go_wp2_with fail
    refine hK.out _ _ (mkS.out _ (ba bc _)) (fun hS => ?_)
    clear hK K
    exact lst (L3_01.out _ g1 _ hS (Cel.new w' _ _) bc.size (k1.alloc _) h1 (by have := k1.lt; omega)) (by kernel_rfl)
  have L3_ : Hid (∀ (w' : World) (hS : SP w'), wpAnyH Tryz.prog .any ops q SP 5 (ls 12 [0, 1, 2, 3, 4, 5, 6]) (fr undef undef (.agg #[.bool false, .string d0]) (.agg #[.bool aN, .string aS]) (.agg #[.bool false, .string d1]) undef) w') := by
   clear L4_01 L4_0 L4_1 L3_01
   subst hops hq hSP hfr
   intro w' hS
   have bc := bcS.out _ hS
   dsimp only
   refine rdy [7, 8, 9] (by kernel_rfl) ?_
   refine AllReadyH.cons (o := _) rfl (fun K hK => ?_) (AllReadyH.cons (o := _) rfl (fun K hK => ?_) (AllReadyH.cons (o := _) rfl (fun K hK => ?_) AllReadyH.nil))
   ·simp only [List.getElem_toArray, List.getElem_cons_succ, List.getElem_cons_zero]
    go_simp
    go_fit (H3.out _)
    rintro e wn ⟨rfl, bn⟩
    have bcn := Below.after bc bn
    try go_wp2_with fail
    refine hK.out _ _ (mkS.out _ bcn) (fun hS => ?_)
    clear hK K
    exact lst (L4_.out wn hS) (by kernel_rfl)
   ·simp only [List.getElem_toArray, List.getElem_cons_succ, List.getElem_cons_zero]
    go_simp
    try go_wp2_with fail
    refine hK.out _ _ (mkS.out _ (ba bc _)) (fun hS => ?_)
    clear hK K
    exact lst (L3_0.out _ _ hS (Cel.new w' _ _) bc.size) (by kernel_rfl)
   ·simp only [List.getElem_toArray, List.getElem_cons_succ, List.getElem_cons_zero]
    go_simp
    try go_wp2_with fail
    refine hK.out _ _ (mkS.out _ (ba bc _)) (fun hS => ?_)
    clear hK K
    exact lst (L3_1.out _ _ hS (Cel.new w' _ _) bc.size) (by kernel_rfl)
  have L2_01 : Hid (∀ (g0 : Nat) (g1 : Nat) (w' : World) (hS : SP w') (k0 : Cel w' g0 [.bool false, .string { data := #[] }] 24) (h0 : wc.heap.size ≤ g0) (k1 : Cel w' g1 [.bool false, .string { data := #[] }] 24) (h1 : wc.heap.size ≤ g1) (n01 : ¬ g0 = g1), wpAnyH Tryz.prog .any ops q SP 4 (ls 12 [0, 1, 2, 3, 4, 6, 8, 9]) (fr (.pointer (some ⟨g0, 0, none⟩)) (.pointer (some ⟨g1, 0, none⟩)) (.agg #[.bool false, .string d0]) (.agg #[.bool aN, .string aS]) undef undef) w') := by
   clear L4_01 L4_0 L4_1 L4_ L3_0 L3_1 L3_
   subst hops hq hSP hfr
   intro g0 g1 w' hS k0 h0 k1 h1 n01
   have bc := bcS.out _ hS
   dsimp only
   refine rdy [5] (by kernel_rfl) ?_
   refine AllReadyH.cons (o := _) rfl (fun K hK => ?_) AllReadyH.nil
   ·simp only [List.getElem_toArray, List.getElem_cons_succ, List.getElem_cons_zero]
    go_simp
    go_fit (den_any n1 s1 d1 _)
    rintro e wn ⟨rfl, bn⟩
    have bcn := Below.after bc bn
    try go_wp2_with fail
    refine hK.out _ _ (mkS.out _ bcn) (fun hS => ?_)
    clear hK K
    exact lst (L3_01.out g0 g1 wn hS (k0.below bn) h0 (k1.below bn) h1 n01) (by kernel_rfl)
  have L2_0 : Hid (∀ (g0 : Nat) (w' : World) (hS : SP w') (k0 : Cel w' g0 [.bool false, .string { data := #[] }] 24) (h0 : wc.heap.size ≤ g0), wpAnyH Tryz.prog .any ops q SP 5 (ls 12 [0, 1, 2, 3, 4, 6, 8]) (fr (.pointer (some ⟨g0, 0, none⟩)) undef (.agg #[.bool false, .string d0]) (.agg #[.bool aN, .string aS]) undef undef) w') := by
   clear L4_01 L4_0 L4_1 L4_ L3_01 L3_1 L3_
   subst hops hq hSP hfr
   intro g0 w' hS k0 h0
   have bc := bcS.out _ hS
   dsimp only
   refine rdy [5, 9] (by kernel_rfl) ?_
   refine AllReadyH.cons (o := _) rfl (fun K hK => ?_) (AllReadyH.cons (o := _) rfl (fun K hK => ?_) AllReadyH.nil)
   ·simp only [List.getElem_toArray, List.getElem_cons_succ, List.getElem_cons_zero]
    go_simp
    go_fit (den_any n1 s1 d1 _)
    rintro e wn ⟨rfl, bn⟩
    have bcn := Below.after bc bn
    try go_wp2_with fail
    refine hK.out _ _ (mkS.out _ bcn) (fun hS => ?_)
    clear hK K
    exact lst (L3_0.out g0 wn hS (k0.below bn) h0) (by kernel_rfl)
   ·simp only [List.getElem_toArray, List.getElem_cons_succ, List.getElem_cons_zero]
    go_simp
    try go_wp2_with fail
    refine hK.out _ _ (mkS.out _ (ba bc _)) (fun hS => ?_)
    clear hK K
    exact lst (L2_01.out g0 _ _ hS (k0.alloc _) h0 (Cel.new w' _ _) bc.size (by have := k0.lt; omega)) (by kernel_rfl)
  have L2_1 : Hid (∀ (g1 : Nat) (w' : World) (hS : SP w') (k1 : Cel w' g1 [.bool false, .string { data := #[] }] 24) (h1 : wc.heap.size ≤ g1), wpAnyH Tryz.prog .any ops q SP 5 (ls 12 [0, 1, 2, 3, 4, 6, 9]) (fr undef (.pointer (some ⟨g1, 0, none⟩)) (.agg #[.bool false, .string d0]) (.agg #[.bool aN, .string aS]) undef undef) w') := by
   clear L4_01 L4_0 L4_1 L4_ L3_01 L3_0 L3_ L2_0
   subst hops hq hSP hfr
   intro g1 w' hS k1 h1
   have bc := bcS.out _ hS
   dsimp only
   refine rdy [5, 8] (by kernel_rfl) ?_
   refine AllReadyH.cons (o := _) rfl (fun K hK => ?_) (AllReadyH.cons (o := _) rfl (fun K hK => ?_) AllReadyH.nil)
   ·simp only [List.getElem_toArray, List.getElem_cons_succ, List.getElem_cons_zero]
    go_simp
    go_fit (den_any n1 s1 d1 _)
    rintro e wn ⟨rfl, bn⟩
    have bcn := Below.after bc bn
    try go_wp2_with fail
    refine hK.out _ _ (mkS.out _ bcn) (fun hS => ?_)
    clear hK K
    exact lst (L3_1.out g1 wn hS (k1.below bn) h1) (by kernel_rfl)
   ·simp only [List.getElem_toArray, List.getElem_cons_succ, List.getElem_cons_zero]
    go_simp
    try go_wp2_with fail
    refine hK.out _ _ (mkS.out _ (ba bc _)) (fun hS => ?_)
    clear hK K
    exact lst (L2_01.out _ g1 _ hS (Cel.new w' _ _) bc.size (k1.alloc _) h1 (by have := k1.lt; omega)) (by kernel_rfl)
  have L2_ : Hid (∀ (w' : World) (hS : SP w'), wpAnyH Tryz.prog .any ops q SP 6 (ls 12 [0, 1, 2, 3, 4, 6]) (fr undef undef (.agg #[.bool false, .string d0]) (.agg #[.bool aN, .string aS]) undef undef) w') := by
   clear L4_01 L4_0 L4_1 L4_ L3_01 L3_0 L3_1 L2_01
   subst hops hq hSP hfr
   intro w' hS
   have bc := bcS.out _ hS
   dsimp only
   refine rdy [5, 8, 9] (by kernel_rfl) ?_
   refine AllReadyH.cons (o := _) rfl (fun K hK => ?_) (AllReadyH.cons (o := _) rfl (fun K hK => ?_) (AllReadyH.cons (o := _) rfl (fun K hK => ?_) AllReadyH.nil))
   ·simp only [List.getElem_toArray, List.getElem_cons_succ, List.getElem_cons_zero]
    go_simp
    go_fit (den_any n1 s1 d1 _)
    rintro e wn ⟨rfl, bn⟩
    have bcn := Below.after bc bn
    try go_wp2_with fail
    refine hK.out _ _ (mkS.out _ bcn) (fun hS => ?_)
    clear hK K
    exact lst (L3_.out wn hS) (by kernel_rfl)
   ·simp only [List.getElem_toArray, List.getElem_cons_succ, List.getElem_cons_zero]
    go_simp
    try go_wp2_with fail
    refine hK.out _ _ (mkS.out _ (ba bc _)) (fun hS => ?_)
    clear hK K
    exact lst (L2_0.out _ _ hS (Cel.new w' _ _) bc.size) (by kernel_rfl)
   ·simp only [List.getElem_toArray, List.getElem_cons_succ, List.getElem_cons_zero]
    go_simp
    try go_wp2_with fail
    refine hK.out _ _ (mkS.out _ (ba bc _)) (fun hS => ?_)
    clear hK K
    exact lst (L2_1.out _ _ hS (Cel.new w' _ _) bc.size) (by kernel_rfl)
  have L1_01 : Hid (∀ (g0 : Nat) (g1 : Nat) (w' : World) (hS : SP w') (k0 : Cel w' g0 [.bool false, .string { data := #[] }] 24) (h0 : wc.heap.size ≤ g0) (k1 : Cel w' g1 [.bool false, .string { data := #[] }] 24) (h1 : wc.heap.size ≤ g1) (n01 : ¬ g0 = g1), wpAnyH Tryz.prog .any ops q SP 5 (ls 12 [0, 1, 2, 4, 6, 8, 9]) (fr (.pointer (some ⟨g0, 0, none⟩)) (.pointer (some ⟨g1, 0, none⟩)) (.agg #[.bool false, .string d0]) undef undef undef) w') := by
   clear L4_01 L4_0 L4_1 L4_ L3_01 L3_0 L3_1 L3_ L2_0 L2_1 L2_
   subst hops hq hSP hfr
   intro g0 g1 w' hS k0 h0 k1 h1 n01
   have bc := bcS.out _ hS
   dsimp only
   refine rdy [3] (by kernel_rfl) ?_
   refine AllReadyH.cons (o := _) rfl (fun K hK => ?_) AllReadyH.nil
   ·simp only [List.getElem_toArray, List.getElem_cons_succ, List.getElem_cons_zero]
    go_simp
    go_fit (H2.out _)
    rintro e wn ⟨rfl, bn⟩
    have bcn := Below.after bc bn
    try go_wp2_with fail
    refine hK.out _ _ (mkS.out _ bcn) (fun hS => ?_)
    clear hK K
    exact lst (L2_01.out g0 g1 wn hS (k0.below bn) h0 (k1.below bn) h1 n01) (by kernel_rfl)
  have L1_0 : Hid (∀ (g0 : Nat) (w' : World) (hS : SP w') (k0 : Cel w' g0 [.bool false, .string { data := #[] }] 24) (h0 : wc.heap.size ≤ g0), wpAnyH Tryz.prog .any ops q SP 6 (ls 12 [0, 1, 2, 4, 6, 8]) (fr (.pointer (some ⟨g0, 0, none⟩)) undef (.agg #[.bool false, .string d0]) undef undef undef) w') := by
   clear L4_01 L4_0 L4_1 L4_ L3_01 L3_0 L3_1 L3_ L2_01 L2_1 L2_
   subst hops hq hSP hfr
   intro g0 w' hS k0 h0
   have bc := bcS.out _ hS
   dsimp only
   refine rdy [3, 9] (by kernel_rfl) ?_
   refine AllReadyH.cons (o := _) rfl (fun K hK => ?_) (AllReadyH.cons (o := _) rfl (fun K hK => ?_) AllReadyH.nil)
   ·simp only [List.getElem_toArray, List.getElem_cons_succ, List.getElem_cons_zero]
    go_simp
    go_fit (H2.out _)
    rintro e wn ⟨rfl, bn⟩
    have bcn := Below.after bc bn
    try go_wp2_with fail
    refine hK.out _ _ (mkS.out _ bcn) (fun hS => ?_)
    clear hK K
    exact lst (L2_0.out g0 wn hS (k0.below bn) h0) (by kernel_rfl)
   ·simp only [List.getElem_toArray, List.getElem_cons_succ, List.getElem_cons_zero]
    go_simp
    try go_wp2_with fail
    refine hK.out _ _ (mkS.out _ (ba bc _)) (fun hS => ?_)
    clear hK K
    exact lst (L1_01.out g0 _ _ hS (k0.alloc _) h0 (Cel.new w' _ _) bc.size (by have := k0.lt; omega)) (by kernel_rfl)
  have L1_1 : Hid (∀ (g1 : Nat) (w' : World) (hS : SP w') (k1 : Cel w' g1 [.bool false, .string { data := #[] }] 24) (h1 : wc.heap.size ≤ g1), wpAnyH Tryz.prog .any ops q SP 6 (ls 12 [0, 1, 2, 4, 6, 9]) (fr undef (.pointer (some ⟨g1, 0, none⟩)) (.agg #[.bool false, .string d0]) undef undef undef) w') := by
   clear L4_01 L4_0 L4_1 L4_ L3_01 L3_0 L3_1 L3_ L2_01 L2_0 L2_ L1_0
   subst hops hq hSP hfr
   intro g1 w' hS k1 h1
   have bc := bcS.out _ hS
   dsimp only
   refine rdy [3, 8] (by kernel_rfl) ?_
   refine AllReadyH.cons (o := _) rfl (fun K hK => ?_) (AllReadyH.cons (o := _) rfl (fun K hK => ?_) AllReadyH.nil)
   ·simp only [List.getElem_toArray, List.getElem_cons_succ, List.getElem_cons_zero]
    go_simp
    go_fit (H2.out _)
    rintro e wn ⟨rfl, bn⟩
    have bcn := Below.after bc bn
    try go_wp2_with fail
    refine hK.out _ _ (mkS.out _ bcn) (fun hS => ?_)
    clear hK K
    exact lst (L2_1.out g1 wn hS (k1.below bn) h1) (by kernel_rfl)
   ·simp only [List.getElem_toArray, List.getElem_cons_succ, List.getElem_cons_zero]
    go_simp
    try go_wp2_with fail
    refine hK.out _ _ (mkS.out _ (ba bc _)) (fun hS => ?_)
    clear hK K
    exact lst (L1_01.out _ g1 _ hS (Cel.new w' _ _) bc.size (k1.alloc _) h1 (by have := k1.lt; omega)) (by kernel_rfl)
  have L1_ : Hid (∀ (w' : World) (hS : SP w'), wpAnyH Tryz.prog .any ops q SP 7 (ls 12 [0, 1, 2, 4, 6]) (fr undef undef (.agg #[.bool false, .string d0]) undef undef undef) w') := by
   clear L4_01 L4_0 L4_1 L4_ L3_01 L3_0 L3_1 L3_ L2_01 L2_0 L2_1 L1_01
   subst hops hq hSP hfr
   intro w' hS
   have bc := bcS.out _ hS
   dsimp only
   refine rdy [3, 8, 9] (by kernel_rfl) ?_
   refine AllReadyH.cons (o := _) rfl (fun K hK => ?_) (AllReadyH.cons (o := _) rfl (fun K hK => ?_) (AllReadyH.cons (o := _) rfl (fun K hK => ?_) AllReadyH.nil))
   ·simp only [List.getElem_toArray, List.getElem_cons_succ, List.getElem_cons_zero]
    go_simp
    go_fit (H2.out _)
    rintro e wn ⟨rfl, bn⟩
    have bcn := Below.after bc bn
    try go_wp2_with fail
    refine hK.out _ _ (mkS.out _ bcn) (fun hS => ?_)
    clear hK K
    exact lst (L2_.out wn hS) (by kernel_rfl)
   ·simp only [List.getElem_toArray, List.getElem_cons_succ, List.getElem_cons_zero]
    go_simp
    try go_wp2_with fail
    refine hK.out _ _ (mkS.out _ (ba bc _)) (fun hS => ?_)
    clear hK K
    exact lst (L1_0.out _ _ hS (Cel.new w' _ _) bc.size) (by kernel_rfl)
   ·simp only [List.getElem_toArray, List.getElem_cons_succ, List.getElem_cons_zero]
    go_simp
    try go_wp2_with fail
    refine hK.out _ _ (mkS.out _ (ba bc _)) (fun hS => ?_)
    clear hK K
    exact lst (L1_1.out _ _ hS (Cel.new w' _ _) bc.size) (by kernel_rfl)
  have L0_01 : Hid (∀ (g0 : Nat) (g1 : Nat) (w' : World) (hS : SP w') (k0 : Cel w' g0 [.bool false, .string { data := #[] }] 24) (h0 : wc.heap.size ≤ g0) (k1 : Cel w' g1 [.bool false, .string { data := #[] }] 24) (h1 : wc.heap.size ≤ g1) (n01 : ¬ g0 = g1), wpAnyH Tryz.prog .any ops q SP 6 (ls 12 [0, 2, 4, 6, 8, 9]) (fr (.pointer (some ⟨g0, 0, none⟩)) (.pointer (some ⟨g1, 0, none⟩)) undef undef undef undef) w') := by
   clear L4_01 L4_0 L4_1 L4_ L3_01 L3_0 L3_1 L3_ L2_01 L2_0 L2_1 L2_ L1_0 L1_1 L1_
   subst hops hq hSP hfr
   intro g0 g1 w' hS k0 h0 k1 h1 n01
   have bc := bcS.out _ hS
   dsimp only
   refine rdy [1] (by kernel_rfl) ?_
   refine AllReadyH.cons (o := _) rfl (fun K hK => ?_) AllReadyH.nil
   ·simp only [List.getElem_toArray, List.getElem_cons_succ, List.getElem_cons_zero]
    go_simp
    go_fit (den_any n0 s0 d0 _)
    rintro e wn ⟨rfl, bn⟩
    have bcn := Below.after bc bn
    try go_wp2_with fail
    refine hK.out _ _ (mkS.out _ bcn) (fun hS => ?_)
    clear hK K
    exact lst (L1_01.out g0 g1 wn hS (k0.below bn) h0 (k1.below bn) h1 n01) (by kernel_rfl)
  have L0_0 : Hid (∀ (g0 : Nat) (w' : World) (hS : SP w') (k0 : Cel w' g0 [.bool false, .string { data := #[] }] 24) (h0 : wc.heap.size ≤ g0), wpAnyH Tryz.prog .any ops q SP 7 (ls 12 [0, 2, 4, 6, 8]) (fr (.pointer (some ⟨g0, 0, none⟩)) undef undef undef undef undef) w') := by
   clear L4_01 L4_0 L4_1 L4_ L3_01 L3_0 L3_1 L3_ L2_01 L2_0 L2_1 L2_ L1_01 L1_1 L1_
   subst hops hq hSP hfr
   intro g0 w' hS k0 h0
   have bc := bcS.out _ hS
   dsimp only
   refine rdy [1, 9] (by kernel_rfl) ?_
   refine AllReadyH.cons (o := _) rfl (fun K hK => ?_) (AllReadyH.cons (o := _) rfl (fun K hK => ?_) AllReadyH.nil)
   ·simp only [List.getElem_toArray, List.getElem_cons_succ, List.getElem_cons_zero]
    go_simp
    go_fit (den_any n0 s0 d0 _)
    rintro e wn ⟨rfl, bn⟩
    have bcn := Below.after bc bn
    try go_wp2_with fail
    refine hK.out _ _ (mkS.out _ bcn) (fun hS => ?_)
    clear hK K
    exact lst (L1_0.out g0 wn hS (k0.below bn) h0) (by kernel_rfl)
   ·simp only [List.getElem_toArray, List.getElem_cons_succ, List.getElem_cons_zero]
    go_simp
    try go_wp2_with fail
    refine hK.out _ _ (mkS.out _ (ba bc _)) (fun hS => ?_)
    clear hK K
    exact lst (L0_01.out g0 _ _ hS (k0.alloc _) h0 (Cel.new w' _ _) bc.size (by have := k0.lt; omega)) (by kernel_rfl)
  have L0_1 : Hid (∀ (g1 : Nat) (w' : World) (hS : SP w') (k1 : Cel w' g1 [.bool false, .string { data := #[] }] 24) (h1 : wc.heap.size ≤ g1), wpAnyH Tryz.prog .any ops q SP 7 (ls 12 [0, 2, 4, 6, 9]) (fr undef (.pointer (some ⟨g1, 0, none⟩)) undef undef undef undef) w') := by
   clear L4_01 L4_0 L4_1 L4_ L3_01 L3_0 L3_1 L3_ L2_01 L2_0 L2_1 L2_ L1_01 L1_0 L1_ L0_0
   subst hops hq hSP hfr
   intro g1 w' hS k1 h1
   have bc := bcS.out _ hS
   dsimp only
   refine rdy [1, 8] (by kernel_rfl) ?_
   refine AllReadyH.cons (o := _) rfl (fun K hK => ?_) (AllReadyH.cons (o := _) rfl (fun K hK => ?_) AllReadyH.nil)
   ·simp only [List.getElem_toArray, List.getElem_cons_succ, List.getElem_cons_zero]
    go_simp
    go_fit (den_any n0 s0 d0 _)
    rintro e wn ⟨rfl, bn⟩
    have bcn := Below.after bc bn
    try go_wp2_with fail
    refine hK.out _ _ (mkS.out _ bcn) (fun hS => ?_)
    clear hK K
    exact lst (L1_1.out g1 wn hS (k1.below bn) h1) (by kernel_rfl)
   ·simp only [List.getElem_toArray, List.getElem_cons_succ, List.getElem_cons_zero]
    go_simp
    try go_wp2_with fail
    refine hK.out _ _ (mkS.out _ (ba bc _)) (fun hS => ?_)
    clear hK K
    exact lst (L0_01.out _ g1 _ hS (Cel.new w' _ _) bc.size (k1.alloc _) h1 (by have := k1.lt; omega)) (by kernel_rfl)
  have L0_ : Hid (∀ (w' : World) (hS : SP w'), wpAnyH Tryz.prog .any ops q SP 8 (ls 12 [0, 2, 4, 6]) (fr undef undef undef undef undef undef) w') := by
   clear L4_01 L4_0 L4_1 L4_ L3_01 L3_0 L3_1 L3_ L2_01 L2_0 L2_1 L2_ L1_01 L1_0 L1_1 L0_01
   subst hops hq hSP hfr
   intro w' hS
   have bc := bcS.out _ hS
   dsimp only
   refine rdy [1, 8, 9] (by kernel_rfl) ?_
   refine AllReadyH.cons (o := _) rfl (fun K hK => ?_) (AllReadyH.cons (o := _) rfl (fun K hK => ?_) (AllReadyH.cons (o := _) rfl (fun K hK => ?_) AllReadyH.nil))
   ·simp only [List.getElem_toArray, List.getElem_cons_succ, List.getElem_cons_zero]
    go_simp
    go_fit (den_any n0 s0 d0 _)
    rintro e wn ⟨rfl, bn⟩
    have bcn := Below.after bc bn
    try go_wp2_with fail
    refine hK.out _ _ (mkS.out _ bcn) (fun hS => ?_)
    clear hK K
    exact lst (L1_.out wn hS) (by kernel_rfl)
   ·simp only [List.getElem_toArray, List.getElem_cons_succ, List.getElem_cons_zero]
    go_simp
    try go_wp2_with fail
    refine hK.out _ _ (mkS.out _ (ba bc _)) (fun hS => ?_)
    clear hK K
    exact lst (L0_0.out _ _ hS (Cel.new w' _ _) bc.size) (by kernel_rfl)
   ·simp only [List.getElem_toArray, List.getElem_cons_succ, List.getElem_cons_zero]
    go_simp
    try go_wp2_with fail
    refine hK.out _ _ (mkS.out _ (ba bc _)) (fun hS => ?_)
    clear hK K
    exact lst (L0_1.out _ _ hS (Cel.new w' _ _) bc.size) (by kernel_rfl)
  clear L4_01 L4_0 L4_1 L4_ L3_01 L3_0 L3_1 L3_ L2_01 L2_0 L2_1 L2_ L1_01 L1_0 L1_1 L1_ L0_01 L0_0 L0_1
  subst hops hq hSP hfr
  refine wpAnyH_take (i := 0) (oi := _) (v := ?_) rfl (by kernel_rfl) (by kernel_rfl) (by kernel_rfl) (fun _ _ _ h => h) (Or.inl ⟨by rfl, ?_⟩) (by assumption) ?_
  rotate_left
  ·(intro w hSw; (try dsimp only at hSw); go_simp; try with_reducible rfl)
  try simp only [Act.put, List.getElem_toArray, List.getElem_cons_zero, List.setIfInBounds_toArray, List.set_cons_zero, List.set_cons_succ]
  refine wpAnyH_take (i := 2) (oi := _) (v := ?_) rfl (by kernel_rfl) (by kernel_rfl) (by kernel_rfl) (fun _ _ _ h => h) (Or.inl ⟨by rfl, ?_⟩) (by assumption) ?_
  rotate_left
  ·(intro w hSw; (try dsimp only at hSw); go_simp; try with_reducible rfl)
  try simp only [Act.put, List.getElem_toArray, List.getElem_cons_succ, List.getElem_cons_zero, List.setIfInBounds_toArray, List.set_cons_zero, List.set_cons_succ]
  refine wpAnyH_take (i := 4) (oi := _) (v := ?_) rfl (by kernel_rfl) (by kernel_rfl) (by kernel_rfl) (fun _ _ _ h => h) (Or.inl ⟨by rfl, ?_⟩) (by assumption) ?_
  rotate_left
  ·(intro w hSw; (try dsimp only at hSw); go_simp; try with_reducible rfl)
  try simp only [Act.put, List.getElem_toArray, List.getElem_cons_succ, List.getElem_cons_zero, List.setIfInBounds_toArray, List.set_cons_zero, List.set_cons_succ]
  refine wpAnyH_take (i := 6) (oi := _) (v := ?_) rfl (by kernel_rfl) (by kernel_rfl) (by kernel_rfl) (fun _ _ _ h => h) (Or.inl ⟨by rfl, ?_⟩) (by assumption) ?_
  rotate_left
  ·(intro w hSw; (try dsimp only at hSw); go_simp; try with_reducible rfl)
  try simp only [Act.put, List.getElem_toArray, List.getElem_cons_succ, List.getElem_cons_zero, List.setIfInBounds_toArray, List.set_cons_zero, List.set_cons_succ]
  exact lst (L0_.out _ (mkS.out _ (bdrew _))) (by kernel_rfl)
 case rest =>
 obtain ⟨gp, gq, rfl, rfl, lp, lq, kp, kq, b1⟩ := hcut
 clear mkS bcS
 have sz := b1.size
 replace ka := ka.below b1
 replace kb := kb.below b1
 replace kr := kr.below b1
 replace kg := kg.below b1
 replace bb := Below.after bb b1
 clear b1
 have tp := kp.lt
 have tq := kq.lt
 go_wp2_with fail
 have mkS : ∀ w', Below wc.heap.size wc w' → (Below wc.heap.size wc w' ∧ w'.cell? ⟨w.heap.size, 0, none⟩ = some (.bool n0) ∧ w'.cell? ⟨w.heap.size, 1, none⟩ = some (.string s0) ∧ w'.cell? ⟨w.heap.size, 2, none⟩ = some (.string d0) ∧ w'.cell? ⟨w.heap.size + 1, 0, none⟩ = some (.bool n1) ∧ w'.cell? ⟨w.heap.size + 1, 1, none⟩ = some (.string s1) ∧ w'.cell? ⟨w.heap.size + 1, 2, none⟩ = some (.string d1) ∧ w'.cell? ⟨gp, 0, none⟩ = some (.bool aN) ∧ w'.cell? ⟨gp, 1, none⟩ = some (.string aS) ∧ w'.cell? ⟨gq, 0, none⟩ = some (.bool bN) ∧ w'.cell? ⟨gq, 1, none⟩ = some (.string bS)) := fun w' h => ⟨h, cel3_0 (ka.below h), cel3_1 (ka.below h), cel3_2 (ka.below h), cel3_0 (kb.below h), cel3_1 (kb.below h), cel3_2 (kb.below h), cel2_0' (kp.below h), cel2_1' (kp.below h), cel2_0' (kq.below h), cel2_1' (kq.below h)⟩
 have bcS : ∀ w', (Below wc.heap.size wc w' ∧ w'.cell? ⟨w.heap.size, 0, none⟩ = some (.bool n0) ∧ w'.cell? ⟨w.heap.size, 1, none⟩ = some (.string s0) ∧ w'.cell? ⟨w.heap.size, 2, none⟩ = some (.string d0) ∧ w'.cell? ⟨w.heap.size + 1, 0, none⟩ = some (.bool n1) ∧ w'.cell? ⟨w.heap.size + 1, 1, none⟩ = some (.string s1) ∧ w'.cell? ⟨w.heap.size + 1, 2, none⟩ = some (.string d1) ∧ w'.cell? ⟨gp, 0, none⟩ = some (.bool aN) ∧ w'.cell? ⟨gp, 1, none⟩ = some (.string aS) ∧ w'.cell? ⟨gq, 0, none⟩ = some (.bool bN) ∧ w'.cell? ⟨gq, 1, none⟩ = some (.string bS)) → Below wc.heap.size wc w' := fun w' h => h.1
 replace mkS := shut mkS
 replace bcS := shut bcS
 go_cut [9] from 23 to 31 (fun v wx => ∃ gc, v = .pointer (some ⟨gc, 0, none⟩) ∧ wc.heap.size ≤ gc ∧ Cel wx gc [.bool zN, .string zS] 24 ∧ Below wc.heap.size wc wx)
 case first =>
  clear H1 H2 H3 H7 H8 H9 H10 kr kg
  refine wp_region_held_drew (S := (fun w' => Below wc.heap.size wc w' ∧ w'.cell? ⟨w.heap.size, 0, none⟩ = some (.bool n0) ∧ w'.cell? ⟨w.heap.size, 1, none⟩ = some (.string s0) ∧ w'.cell? ⟨w.heap.size, 2, none⟩ = some (.string d0) ∧ w'.cell? ⟨w.heap.size + 1, 0, none⟩ = some (.bool n1) ∧ w'.cell? ⟨w.heap.size + 1, 1, none⟩ = some (.string s1) ∧ w'.cell? ⟨w.heap.size + 1, 2, none⟩ = some (.string d1) ∧ w'.cell? ⟨gp, 0, none⟩ = some (.bool aN) ∧ w'.cell? ⟨gp, 1, none⟩ = some (.string aS) ∧ w'.cell? ⟨gq, 0, none⟩ = some (.bool bN) ∧ w'.cell? ⟨gq, 1, none⟩ = some (.string bS))) (by kernel_rfl) (mkS.out _ (bdrew _)) (fun _ => ?_)
  refine absO 11 (by kernel_rfl) (fun ops q SP hops hq hSP => ?_)
  obtain ⟨fr, hfr⟩ : ∃ fr : Value → Value → Value → Value → Act, fr = (fun x9 x26 x30 x31 => { tmps := #[.agg #[.bool n0, .string s0, .string d0], .agg #[.bool n1, .string s1, .string d1], .pointer (some ⟨w.heap.size, 0, none⟩), .pointer (some ⟨w.heap.size + 1, 0, none⟩), .pointer (some ⟨w.heap.size + 1 + 1, 0, none⟩), .int .i64 0, .pointer (some ⟨gg, 0, none⟩), .pointer (some ⟨gp, 0, none⟩), .pointer (some ⟨gq, 0, none⟩), x9, u10, u11, u12, u13, u14, u15, u16, u17, u18, u19, u20, u21, u22, .pointer (some ⟨w.heap.size, 0, none⟩), .agg #[.bool n0, .string s0], .agg #[.bool bN, .string bS], x26, .pointer (some ⟨w.heap.size + 1, 0, none⟩), .agg #[.bool n1, .string s1], .agg #[.bool aN, .string aS], x30, x31, undef, undef, undef, undef, undef, undef, undef, undef, undef, undef, undef, undef, undef, undef], defers := [] }) := ⟨_, rfl⟩
  have L3_0 : Hid (∀ (g0 : Nat) (w' : World) (hS : SP w') (k0 : Cel w' g0 [.bool false, .string { data := #[] }] 24) (h0 : wc.heap.size ≤ g0), wpAnyH Tryz.prog .any ops q SP 1 (ls 11 [0, 1, 2, 3, 4, 5, 6, 7, 8, 9]) (fr (.pointer (some ⟨g0, 0, none⟩)) (.agg #[.bool xN, .string xS]) (.agg #[.bool yN, .string yS]) (.agg #[.bool zN, .string zS])) w') := by
   subst hops hq hSP hfr
   intro g0 w' hS k0 h0
   have bc := bcS.out _ hS
   dsimp only
   have e0_0 := cel2_0' k0
   have f0_0 := Cel.frozen k0 0
   have e0_1 := cel2_1' k0
   have f0_1 := Cel.frozen k0 1
   refine rdy [10] (by kernel_rfl) ?_
   refine AllReadyH.cons (o := _) rfl (fun K hK => ?_) AllReadyH.nil
   simp only [List.getElem_toArray, List.getElem_cons_succ, List.getElem_cons_zero]
   go_simp
   try go_wp2_with fail
   clear e0_0 f0_0 e0_1 f0_1
   refine hK.out _ _ (mkS.out _ (bset (bset bc h0 0 (.bool zN)) h0 1 (.string zS))) (fun hS => ?_)
   clear hK K
   replace k0 := (Cel.set (Cel.set k0 0 (.bool zN)) 1 (.string zS))
   replace bc := (bset (bset bc h0 0 (.bool zN)) h0 1 (.string zS))
   refine wpAnyH_done (by kernel_rfl) ?_ _
   go_wp2_with fail
   go_meet
   exact ⟨_, rfl, h0, k0, bc⟩
  have L3_ : Hid (∀ (w' : World) (hS : SP w'), wpAnyH Tryz.prog .any ops q SP 2 (ls 11 [0, 1, 2, 3, 4, 5, 6, 7, 8]) (fr undef (.agg #[.bool xN, .string xS]) (.agg #[.bool yN, .string yS]) (.agg #[.bool zN, .string zS])) w') := by
   subst hops hq hSP hfr
   intro w' hS
   have bc := bcS.out _ hS
   dsimp only
   refine rdy [9] (by kernel_rfl) ?_
   refine AllReadyH.cons (o := _) rfl (fun K hK => ?_) AllReadyH.nil
   ·simp only [List.getElem_toArray, List.getElem_cons_succ, List.getElem_cons_zero]
    go_simp
    try go_wp2_with fail
    refine hK.out _ _ (mkS.out _ (ba bc _)) (fun hS => ?_)
    clear hK K
    exact lst (L3_0.out _ _ hS (Cel.new w' _ _) bc.size) (by kernel_rfl)
  have L2_0 : Hid (∀ (g0 : Nat) (w' : World) (hS : SP w') (k0 : Cel w' g0 [.bool false, .string { data := #[] }] 24) (h0 : wc.heap.size ≤ g0), wpAnyH Tryz.prog .any ops q SP 2 (ls 11 [0, 1, 2, 3, 4, 5, 6, 7, 9]) (fr (.pointer (some ⟨g0, 0, none⟩)) (.agg #[.bool xN, .string xS]) (.agg #[.bool yN, .string yS]) undef) w') := by
   clear L3_
   subst hops hq hSP hfr
   intro g0 w' hS k0 h0
   have bc := bcS.out _ hS
   dsimp only
   refine rdy [8] (by kernel_rfl) ?_
   refine AllReadyH.cons (o := _) rfl (fun K hK => ?_) AllReadyH.nil
   ·simp only [List.getElem_toArray, List.getElem_cons_succ, List.getElem_cons_zero]
    go_simp
    go_fit (H6.out _)
    rintro e wn ⟨rfl, bn⟩
    have bcn := Below.after bc bn
    try go_wp2_with fail
    refine hK.out _ _ (mkS.out _ bcn) (fun hS => ?_)
    clear hK K
    exact lst (L3_0.out g0 wn hS (k0.below bn) h0) (by kernel_rfl)
  have L2_ : Hid (∀ (w' : World) (hS : SP w'), wpAnyH Tryz.prog .any ops q SP 3 (ls 11 [0, 1, 2, 3, 4, 5, 6, 7]) (fr undef (.agg #[.bool xN, .string xS]) (.agg #[.bool yN, .string yS]) undef) w') := by
   clear L3_0
   subst hops hq hSP hfr
   intro w' hS
   have bc := bcS.out _ hS
   dsimp only
   refine rdy [8, 9] (by kernel_rfl) ?_
   refine AllReadyH.cons (o := _) rfl (fun K hK => ?_) (AllReadyH.cons (o := _) rfl (fun K hK => ?_) AllReadyH.nil)
   ·simp only [List.getElem_toArray, List.getElem_cons_succ, List.getElem_cons_zero]
    go_simp
    go_fit (H6.out _)
    rintro e wn ⟨rfl, bn⟩
    have bcn := Below.after bc bn
    try go_wp2_with fail
    refine hK.out _ _ (mkS.out _ bcn) (fun hS => ?_)
    clear hK K
    exact lst (L3_.out wn hS) (by kernel_rfl)
   ·simp only [List.getElem_toArray, List.getElem_cons_succ, List.getElem_cons_zero]
    go_simp
    try go_wp2_with fail
    refine hK.out _ _ (mkS.out _ (ba bc _)) (fun hS => ?_)
    clear hK K
    exact lst (L2_0.out _ _ hS (Cel.new w' _ _) bc.size) (by kernel_rfl)
  have L1_0 : Hid (∀ (g0 : Nat) (w' : World) (hS : SP w') (k0 : Cel w' g0 [.bool false, .string { data := #[] }] 24) (h0 : wc.heap.size ≤ g0), wpAnyH Tryz.prog .any ops q SP 3 (ls 11 [0, 1, 2, 3, 4, 5, 6, 9]) (fr (.pointer (some ⟨g0, 0, none⟩)) (.agg #[.bool xN, .string xS]) undef undef) w') := by
   clear L3_0 L3_ L2_
   subst hops hq hSP hfr
   intro g0 w' hS k0 h0
   have bc := bcS.out _ hS
   dsimp only
   refine rdy [7] (by kernel_rfl) ?_
   refine AllReadyH.cons (o := _) rfl (fun K hK => ?_) AllReadyH.nil
   ·simp only [List.getElem_toArray, List.getElem_cons_succ, List.getElem_cons_zero]
    go_simp
    go_fit (H5.out _)
    rintro e wn ⟨rfl, bn⟩
    have bcn := Below.after bc bn
    try go_wp2_with fail
    refine hK.out _ _ (mkS.out _ bcn) (fun hS => ?_)
    clear hK K
    exact lst (L2_0.out g0 wn hS (k0.below bn) h0) (by kernel_rfl)
  have L1_ : Hid (∀ (w' : World) (hS : SP w'), wpAnyH Tryz.prog .any ops q SP 4 (ls 11 [0, 1, 2, 3, 4, 5, 6]) (fr undef (.agg #[.bool xN, .string xS]) undef undef) w') := by
   clear L3_0 L3_ L2_0
   subst hops hq hSP hfr
   intro w' hS
   have bc := bcS.out _ hS
   dsimp only
   refine rdy [7, 9] (by kernel_rfl) ?_
   refine AllReadyH.cons (o := _) rfl (fun K hK => ?_) (AllReadyH.cons (o := _) rfl (fun K hK => ?_) AllReadyH.nil)
   ·simp only [List.getElem_toArray, List.getElem_cons_succ, List.getElem_cons_zero]
    go_simp
    go_fit (H5.out _)
    rintro e wn ⟨rfl, bn⟩
    have bcn := Below.after bc bn
    try go_wp2_with fail
    refine hK.out _ _ (mkS.out _ bcn) (fun hS => ?_)
    clear hK K
    exact lst (L2_.out wn hS) (by kernel_rfl)
   ·simp only [List.getElem_toArray, List.getElem_cons_succ, List.getElem_cons_zero]
    go_simp
    try go_wp2_with fail
    refine hK.out _ _ (mkS.out _ (ba bc _)) (fun hS => ?_)
    clear hK K
    exact lst (L1_0.out _ _ hS (Cel.new w' _ _) bc.size) (by kernel_rfl)
  have L0_0 : Hid (∀ (g0 : Nat) (w' : World) (hS : SP w') (k0 : Cel w' g0 [.bool false, .string { data := #[] }] 24) (h0 : wc.heap.size ≤ g0), wpAnyH Tryz.prog .any ops q SP 4 (ls 11 [0, 1, 2, 4, 5, 6, 9]) (fr (.pointer (some ⟨g0, 0, none⟩)) undef undef undef) w') := by
   clear L3_0 L3_ L2_0 L2_ L1_
   subst hops hq hSP hfr
   intro g0 w' hS k0 h0
   have bc := bcS.out _ hS
   dsimp only
   refine rdy [3] (by kernel_rfl) ?_
   refine AllReadyH.cons (o := _) rfl (fun K hK => ?_) AllReadyH.nil
   ·simp only [List.getElem_toArray, List.getElem_cons_succ, List.getElem_cons_zero]
    go_simp
    go_fit (H4.out _)
    rintro e wn ⟨rfl, bn⟩
    have bcn := Below.after bc bn
    try go_wp2_with fail
    refine hK.out _ _ (mkS.out _ bcn) (fun hS => ?_)
    clear hK K
    exact lst (L1_0.out g0 wn hS (k0.below bn) h0) (by kernel_rfl)
  have L0_ : Hid (∀ (w' : World) (hS : SP w'), wpAnyH Tryz.prog .any ops q SP 5 (ls 11 [0, 1, 2, 4, 5, 6]) (fr undef undef undef undef) w') := by
   clear L3_0 L3_ L2_0 L2_ L1_0
   subst hops hq hSP hfr
   intro w' hS
   have bc := bcS.out _ hS
   dsimp only
   refine rdy [3, 9] (by kernel_rfl) ?_
   refine AllReadyH.cons (o := _) rfl (fun K hK => ?_) (AllReadyH.cons (o := _) rfl (fun K hK => ?_) AllReadyH.nil)
   ·simp only [List.getElem_toArray, List.getElem_cons_succ, List.getElem_cons_zero]
    go_simp
    go_fit (H4.out _)
    rintro e wn ⟨rfl, bn⟩
    have bcn := Below.after bc bn
    try go_wp2_with fail
    refine hK.out _ _ (mkS.out _ bcn) (fun hS => ?_)
    clear hK K
    exact lst (L1_.out wn hS) (by kernel_rfl)
   ·simp only [List.getElem_toArray, List.getElem_cons_succ, List.getElem_cons_zero]
    go_simp
    try go_wp2_with fail
    refine hK.out _ _ (mkS.out _ (ba bc _)) (fun hS => ?_)
    clear hK K
    exact lst (L0_0.out _ _ hS (Cel.new w' _ _) bc.size) (by kernel_rfl)
  clear L3_0 L3_ L2_0 L2_ L1_0 L1_ L0_0
  subst hops hq hSP hfr
  refine wpAnyH_take (i := 0) (oi := _) (v := ?_) rfl (by kernel_rfl) (by kernel_rfl) (by kernel_rfl) (fun _ _ _ h => h) (Or.inl ⟨by rfl, ?_⟩) (by assumption) ?_
  rotate_left
  ·(intro w hSw; (try dsimp only at hSw); go_simp; try with_reducible rfl)
  try simp only [Act.put, List.getElem_toArray, List.getElem_cons_zero, List.setIfInBounds_toArray, List.set_cons_zero, List.set_cons_succ]
  refine wpAnyH_take (i := 1) (oi := _) (v := ?_) rfl (by kernel_rfl) (by kernel_rfl) (by kernel_rfl) (fun _ _ _ h => h) (Or.inl ⟨by rfl, ?_⟩) (by assumption) ?_
  rotate_left
  ·(intro w hSw; (try dsimp only at hSw); go_simp; try with_reducible rfl)
  try simp only [Act.put, List.getElem_toArray, List.getElem_cons_succ, List.getElem_cons_zero, List.setIfInBounds_toArray, List.set_cons_zero, List.set_cons_succ]
  refine wpAnyH_take (i := 2) (oi := _) (v := ?_) rfl (by kernel_rfl) (by kernel_rfl) (by kernel_rfl) (fun _ _ _ h => h) (Or.inl ⟨by rfl, ?_⟩) (by assumption) ?_
  rotate_left
  ·(intro w hSw; (try dsimp only at hSw); go_simp; try with_reducible rfl)
  try simp only [Act.put, List.getElem_toArray, List.getElem_cons_succ, List.getElem_cons_zero, List.setIfInBounds_toArray, List.set_cons_zero, List.set_cons_succ]
  refine wpAnyH_take (i := 4) (oi := _) (v := ?_) rfl (by kernel_rfl) (by kernel_rfl) (by kernel_rfl) (fun _ _ _ h => h) (Or.inl ⟨by rfl, ?_⟩) (by assumption) ?_
  rotate_left
  ·(intro w hSw; (try dsimp only at hSw); go_simp; try with_reducible rfl)
  try simp only [Act.put, List.getElem_toArray, List.getElem_cons_succ, List.getElem_cons_zero, List.setIfInBounds_toArray, List.set_cons_zero, List.set_cons_succ]
  refine wpAnyH_take (i := 5) (oi := _) (v := ?_) rfl (by kernel_rfl) (by kernel_rfl) (by kernel_rfl) (fun _ _ _ h => h) (Or.inl ⟨by rfl, ?_⟩) (by assumption) ?_
  rotate_left
  ·(intro w hSw; (try dsimp only at hSw); go_simp; try with_reducible rfl)
  try simp only [Act.put, List.getElem_toArray, List.getElem_cons_succ, List.getElem_cons_zero, List.setIfInBounds_toArray, List.set_cons_zero, List.set_cons_succ]
  refine wpAnyH_take (i := 6) (oi := _) (v := ?_) rfl (by kernel_rfl) (by kernel_rfl) (by kernel_rfl) (fun _ _ _ h => h) (Or.inl ⟨by rfl, ?_⟩) (by assumption) ?_
  rotate_left
  ·(intro w hSw; (try dsimp only at hSw); go_simp; try with_reducible rfl)
  try simp only [Act.put, List.getElem_toArray, List.getElem_cons_succ, List.getElem_cons_zero, List.setIfInBounds_toArray, List.set_cons_zero, List.set_cons_succ]
  exact lst (L0_.out _ (mkS.out _ (bdrew _))) (by kernel_rfl)
 case rest =>
 obtain ⟨gz, rfl, lz, kz, b1⟩ := hcut
 clear mkS bcS
 have sz := b1.size
 replace ka := ka.below b1
 replace kb := kb.below b1
 replace kr := kr.below b1
 replace kg := kg.below b1
 replace kp := kp.below b1
 replace kq := kq.below b1
 replace bb := Below.after bb b1
 clear b1
 have tz := kz.lt
 have cz_0 := cel2_0' kz
 have cz_1 := cel2_1' kz
 have cg_2 := cel2_0' kg
 have cg_3 := cel2_1' kg
 go_wp2_with fail
 clear cz_0 cz_1 cg_2 cg_3
 go_fit (H7.out _ bb)
 rintro e w2 ⟨rfl, b1⟩
 have sz := b1.size
 replace ka := ka.below b1
 replace kb := kb.below b1
 replace kr := kr.below b1
 replace kg := kg.below b1
 replace kp := kp.below b1
 replace kq := kq.below b1
 replace kz := kz.below b1
 replace bb := Below.after bb b1
 clear b1
 have cg_0 := cel2_0' kg
 have fg_1 := Cel.frozen kg 0
 have cg_2 := cel2_1' kg
 have fg_3 := Cel.frozen kg 1
 go_wp2_with fail
 clear cg_0 fg_1 cg_2 fg_3
 obtain ⟨w3, hw⟩ : ∃ x, x = (w2.setCell ⟨gg, 0, none⟩ (.bool cN)).setCell ⟨gg, 1, none⟩ (.string cS) := ⟨_, rfl⟩
 rw [← hw]
 replace ka := (Cel.other (g' := gg) (Cel.other (g' := gg) ka (by omega) 0 (.bool cN)) (by omega) 1 (.string cS))
 rw [← hw] at ka
 replace kb := (Cel.other (g' := gg) (Cel.other (g' := gg) kb (by omega) 0 (.bool cN)) (by omega) 1 (.string cS))
 rw [← hw] at kb
 replace kr := (Cel.other (g' := gg) (Cel.other (g' := gg) kr (by omega) 0 (.bool cN)) (by omega) 1 (.string cS))
 rw [← hw] at kr
 replace kg := ((kg.set 0 (.bool cN)).set 1 (.string cS))
 rw [← hw] at kg
 replace kp := (Cel.other (g' := gg) (Cel.other (g' := gg) kp (by omega) 0 (.bool cN)) (by omega) 1 (.string cS))
 rw [← hw] at kp
 replace kq := (Cel.other (g' := gg) (Cel.other (g' := gg) kq (by omega) 0 (.bool cN)) (by omega) 1 (.string cS))
 rw [← hw] at kq
 replace kz := (Cel.other (g' := gg) (Cel.other (g' := gg) kz (by omega) 0 (.bool cN)) (by omega) 1 (.string cS))
 rw [← hw] at kz
 replace bb := (bset (g := gg) (bset (g := gg) bb (by omega) 0 (.bool cN)) (by omega) 1 (.string cS))
 rw [← hw] at bb
 clear hw
 have qb : w.heap.size + 1 ≠ w.heap.size + 1 + 1 := by omega
 have qp : gp ≠ w.heap.size + 1 + 1 := by omega
 have qz : gz ≠ w.heap.size + 1 + 1 := by omega
 have qg : gg ≠ w.heap.size + 1 + 1 := by omega
 have gf := fld1 rN rS
 go_region_held3 (fun w' => w'.cell? ⟨w.heap.size + 1, 0, none⟩ = some (.bool n1) ∧ w'.cell? ⟨w.heap.size + 1, 1, none⟩ = some (.string s1) ∧ w'.cell? ⟨w.heap.size + 1, 2, none⟩ = some (.string d1) ∧ w'.cell? ⟨gp, 0, none⟩ = some (.bool aN) ∧ w'.cell? ⟨gp, 1, none⟩ = some (.string aS) ∧ w'.cell? ⟨gz, 0, none⟩ = some (.bool zN) ∧ w'.cell? ⟨gz, 1, none⟩ = some (.string zS) ∧ w'.cell? ⟨gg, 0, none⟩ = some (.bool cN) ∧ w'.cell? ⟨gg, 1, none⟩ = some (.string cS)) (first | exact ⟨cel3_0 kb, cel3_1 kb, cel3_2 kb, cel2_0' kp, cel2_1' kp, cel2_0' kz, cel2_1' kz, cel2_0' kg, cel2_1' kg⟩ | exact ⟨cel3_0 (Cel.other (Cel.other (Cel.other kb qb 0 _) qb 1 _) qb 2 _), cel3_1 (Cel.other (Cel.other (Cel.other kb qb 0 _) qb 1 _) qb 2 _), cel3_2 (Cel.other (Cel.other (Cel.other kb qb 0 _) qb 1 _) qb 2 _), cel2_0' (Cel.other (Cel.other (Cel.other kp qp 0 _) qp 1 _) qp 2 _), cel2_1' (Cel.other (Cel.other (Cel.other kp qp 0 _) qp 1 _) qp 2 _), cel2_0' (Cel.other (Cel.other (Cel.other kz qz 0 _) qz 1 _) qz 2 _), cel2_1' (Cel.other (Cel.other (Cel.other kz qz 0 _) qz 1 _) qz 2 _), cel2_0' (Cel.other (Cel.other (Cel.other kg qg 0 _) qg 1 _) qg 2 _), cel2_1' (Cel.other (Cel.other (Cel.other kg qg 0 _) qg 1 _) qg 2 _)⟩) (first | (go_at_call 75; go_fit (H8.out _); rintro e wn ⟨rfl, bn⟩; replace ka := ka.below ⟨bn.os, bn.tape, bn.output, bn.size, bn.block⟩; replace kb := kb.below ⟨bn.os, bn.tape, bn.output, bn.size, bn.block⟩; replace kr := kr.below ⟨bn.os, bn.tape, bn.output, bn.size, bn.block⟩; replace kg := kg.below ⟨bn.os, bn.tape, bn.output, bn.size, bn.block⟩; replace kp := kp.below ⟨bn.os, bn.tape, bn.output, bn.size, bn.block⟩; replace kq := kq.below ⟨bn.os, bn.tape, bn.output, bn.size, bn.block⟩; replace kz := kz.below ⟨bn.os, bn.tape, bn.output, bn.size, bn.block⟩; replace bb := Below.after bb ⟨bn.os, bn.tape, bn.output, bn.size, bn.block⟩) | (go_at_call 42; go_fit (den_any n1 s1 d1 _); rintro e wn ⟨rfl, bn⟩; replace ka := ka.below ⟨bn.os, bn.tape, bn.output, bn.size, bn.block⟩; replace kb := kb.below ⟨bn.os, bn.tape, bn.output, bn.size, bn.block⟩; replace kr := kr.below ⟨bn.os, bn.tape, bn.output, bn.size, bn.block⟩; replace kg := kg.below ⟨bn.os, bn.tape, bn.output, bn.size, bn.block⟩; replace kp := kp.below ⟨bn.os, bn.tape, bn.output, bn.size, bn.block⟩; replace kq := kq.below ⟨bn.os, bn.tape, bn.output, bn.size, bn.block⟩; replace kz := kz.below ⟨bn.os, bn.tape, bn.output, bn.size, bn.block⟩; replace bb := Below.after bb ⟨bn.os, bn.tape, bn.output, bn.size, bn.block⟩) | (go_at_call 75; go_fit (H9.out _); rintro e wn ⟨rfl, bn⟩; replace ka := ka.below ⟨bn.os, bn.tape, bn.output, bn.size, bn.block⟩; replace kb := kb.below ⟨bn.os, bn.tape, bn.output, bn.size, bn.block⟩; replace kr := kr.below ⟨bn.os, bn.tape, bn.output, bn.size, bn.block⟩; replace kg := kg.below ⟨bn.os, bn.tape, bn.output, bn.size, bn.block⟩; replace kp := kp.below ⟨bn.os, bn.tape, bn.output, bn.size, bn.block⟩; replace kq := kq.below ⟨bn.os, bn.tape, bn.output, bn.size, bn.block⟩; replace kz := kz.below ⟨bn.os, bn.tape, bn.output, bn.size, bn.block⟩; replace bb := Below.after bb ⟨bn.os, bn.tape, bn.output, bn.size, bn.block⟩) | (go_at_call 41; go_fit (H10.out _); rintro e wn ⟨rfl, bn⟩; replace ka := ka.below ⟨bn.os, bn.tape, bn.output, bn.size, bn.block⟩; replace kb := kb.below ⟨bn.os, bn.tape, bn.output, bn.size, bn.block⟩; replace kr := kr.below ⟨bn.os, bn.tape, bn.output, bn.size, bn.block⟩; replace kg := kg.below ⟨bn.os, bn.tape, bn.output, bn.size, bn.block⟩; replace kp := kp.below ⟨bn.os, bn.tape, bn.output, bn.size, bn.block⟩; replace kq := kq.below ⟨bn.os, bn.tape, bn.output, bn.size, bn.block⟩; replace kz := kz.below ⟨bn.os, bn.tape, bn.output, bn.size, bn.block⟩; replace bb := Below.after bb ⟨bn.os, bn.tape, bn.output, bn.size, bn.block⟩; have e0 := cel3_0 kr; have f0 := Cel.frozen kr 0; have e1 := cel3_1 kr; have f1 := Cel.frozen kr 1; have e2 := cel3_2 kr; have f2 := Cel.frozen kr 2))
 go_wp2
 exact post_q1 (p := 4) (u := 5) (by kernel_rfl) rfl rfl rfl (((kr.set 0 _).set 1 _).set 2 _) ⟨rfl, bset (bset (bset bb (by omega) 0 _) (by omega) 1 _) (by omega) 2 _⟩
end Go.Proofs.YtdbnkcimcpnpdaaGreatDoor
