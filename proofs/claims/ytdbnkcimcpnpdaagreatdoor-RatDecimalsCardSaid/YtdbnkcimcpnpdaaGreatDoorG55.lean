/-
  gussetref03: Decimal, walked.
  gussetref03.Decimal, of any number; rounding does not hang on the sign.
-/
import Derived.Test.YtdbnkcimcpnpdaaGreatDoorG42
import Derived.Test.YtdbnkcimcpnpdaaGreatDoorG45
import Derived.Test.YtdbnkcimcpnpdaaGreatDoorG54
namespace Go.Proofs.YtdbnkcimcpnpdaaGreatDoor
open Go.RowKit Go.Shelf
theorem rem1 (x : UInt8) : (((x.toNat : Nat) : Int) % 2 == 1) = decide (x.toNat % 2 = 1) := by
 have := x.toNat_lt
 by_cases h : x.toNat % 2 = 1
 ·rw [decide_eq_true h]; simp; omega
 ·rw [decide_eq_false h]; simp; omega
set_option maxRecDepth 100000 in
set_option maxHeartbeats 8000000 in
theorem rdec_walk (n0 ob up : Bool) (s0 d0 tS qS rS xS oS mS t T R : ByteArray) (F G : Nat → ByteArray) (p k : Nat) (hp : p ≤ 100) (c : Int) (h0 : F 0 = s0) (hqs : qS.size ≤ 100000) (hob : ob = decide (natOf qS % 2 = 1)) (hc : c = 1 ∨ c = 0 ∨ c = -1) (hup : up = (decide (c = 1) || (decide (c = 0) && ob))) (w : World)
  (HF : Hid (∀ w1, Calls Tryz.prog 31 #[.int .i64 10] w1 fun e w' => e = .returned (.agg #[.bool false, .string tS]) ∧ Below w1.heap.size w1 w'))
  (HT : Hid (∀ (i : Nat) w1, i < p → Calls Tryz.prog 32 #[.agg #[.bool false, .string (F i)], .agg #[.bool false, .string tS]] w1 fun e w' => e = .returned (.agg #[.bool false, .string (F (i + 1))]) ∧ Below w1.heap.size w1 w'))
  (HQ : Hid (∀ w1, Calls Tryz.prog 63 #[.agg #[.bool false, .string (F p)], .agg #[.bool false, .string d0]] w1 fun e w' => e = .returned (.tuple #[.agg #[.bool false, .string qS], .agg #[.bool false, .string rS]]) ∧ Below w1.heap.size w1 w'))
  (HS : Hid (∀ w1, Calls Tryz.prog 49 #[.agg #[.bool false, .string rS], .agg #[.bool false, .string rS]] w1 fun e w' => e = .returned (.agg #[.bool false, .string xS]) ∧ Below w1.heap.size w1 w'))
  (HO : Hid (∀ w1, Calls Tryz.prog 47 #[.agg #[.bool false, .string xS], .agg #[.bool false, .string d0]] w1 fun e w' => e = .returned (.int .i64 c) ∧ Below w1.heap.size w1 w'))
  (HA : Hid (∀ w1, Calls Tryz.prog 31 #[.int .i64 1] w1 fun e w' => e = .returned (.agg #[.bool false, .string oS]) ∧ Below w1.heap.size w1 w'))
  (HM : Hid (up = true → ∀ w1, Calls Tryz.prog 49 #[.agg #[.bool false, .string qS], .agg #[.bool false, .string oS]] w1 fun e w' => e = .returned (.agg #[.bool false, .string mS]) ∧ Below w1.heap.size w1 w'))
  (hm0 : up = false → mS = qS)
  (hG0 : G 0 = t) (hG1 : ∀ j, G (j + 1) = ⟨#[48]⟩ ++ G j) (hGs : ∀ j, (G j).size = j + t.size) (ht : t.size ≤ 1201) (hk : k = p + 1 - t.size) (hGk : G k = T)
  (HR : Hid (R = if (n0 && decide (0 < mS.size)) = true then ⟨#[45]⟩ ++ dpoint T p else dpoint T p))
  (HX : Hid (∀ w1, Calls Tryz.prog 59 #[.agg #[.bool false, .string mS]] w1 fun e w' => e = .returned (.string t) ∧ Below w1.heap.size w1 w')) :
  Calls Tryz.prog 29 #[.agg #[.bool n0, .string s0, .string d0], .int .i64 (p : Int)] w fun e w' => e = .returned (.string R) ∧ Below w.heap.size w w' := by
 subst h0
 go_enter Tryz.func29, Tryz.ntmps29
 go_wp2_with fail
 obtain ⟨w1, hw, ka, kn, b1⟩ := mk2 w [.bool n0, .string (F 0), .string d0] [.bool false, .string (F 0)] 26 24
 rw [← hw]
 clear hw
 have sz := b1.size
 have ta := ka.lt
 have tn := kn.lt
 have bb := b1
 clear b1
 clear sz ta tn
 go_wp2
 go_loopw [6] (fun iv wr => ∃ i : Nat, iv = .int .i64 (i : Int) ∧ i ≤ p ∧ Cel wr w.heap.size [.bool n0, .string (F 0), .string d0] 26 ∧ Cel wr (w.heap.size + 1) [.bool false, .string (F i)] 24 ∧ Below w.heap.size w wr) (fun iv _ => p - (intOf iv).toNat)
 case atStart => exact ⟨0, rfl, by omega, ka, kn, bb⟩
 case round =>
  clear ka kn bb
  obtain ⟨i, rfl, hi, ka, kn, bb⟩ := hrel
  by_cases hlt : i < p
  ·have hlt' : (i : Int) < (p : Int) := by omega
   have HT' := shut (fun w1 => HT.out i w1 hlt)
   clear HT HQ HS HO HA HM HX
   have c0 := cel2_0' kn
   have c1 := cel2_1' kn
   go_wp2
   go_region_with (first | (go_at_call 31; go_fit (HF.out _); rintro e wa ⟨rfl, b1'⟩; have b1 : Below wr.heap.size wr wa := ⟨b1'.os, b1'.tape, b1'.output, b1'.size, b1'.block⟩; have d0 := cel2_0' (kn.below b1); have d1 := cel2_1' (kn.below b1)) | (go_at_call 32; go_fit (HT'.out _); rintro e wb ⟨rfl, b2⟩; have q2 := (kn.below b1).below b2; have qa := (ka.below b1).below b2; have bb2 := Below.after bb (Below.after b1 b2); have e0 := cel2_0' q2; have e1 := cel2_1' q2; have f0 := q2.frozen 0; have f1 := q2.frozen 1))
   all_goals (clear c0 c1; try clear d0 d1)
   all_goals (try clear e0 e1 f0 f1)
   all_goals have hsz := ka.lt
   all_goals have ne1 : ¬ w.heap.size = w.heap.size + 1 := by omega
   all_goals have q3 := (q2.set 0 (.bool false)).set 1 (.string (F (i + 1)))
   all_goals have qa3 := (qa.other ne1 0 (.bool false)).other ne1 1 (.string (F (i + 1)))
   all_goals have b3 := bset (g := w.heap.size + 1) (bset (g := w.heap.size + 1) bb2 (by omega) 0 (.bool false)) (by omega) 1 (.string (F (i + 1)))
   all_goals try go_wp2
   all_goals refine ⟨⟨i + 1, ?_, by omega, qa3, q3, b3⟩, ?_⟩
   all_goals first | rfl | (simp [intOf]; omega) | simp
  ·have hge : ¬ (i : Int) < (p : Int) := by omega
   obtain rfl : i = p := by omega
   clear HT HF hlt
   go_wp2_with fail
   have hwa := ka.lt
   have mkS : ∀ w', Below wr.heap.size wr w' → (Below wr.heap.size wr w' ∧ w'.cell? ⟨w.heap.size, 0, none⟩ = some (.bool n0) ∧ w'.cell? ⟨w.heap.size, 1, none⟩ = some (.string (F 0)) ∧ w'.cell? ⟨w.heap.size, 2, none⟩ = some (.string d0) ∧ w'.cell? ⟨w.heap.size + 1, 0, none⟩ = some (.bool false) ∧ w'.cell? ⟨w.heap.size + 1, 1, none⟩ = some (.string (F i))) := fun w' h => ⟨h, cel3_0 (ka.below h), cel3_1 (ka.below h), cel3_2 (ka.below h), cel2_0' (kn.below h), cel2_1' (kn.below h)⟩
   have bcS : ∀ w', (Below wr.heap.size wr w' ∧ w'.cell? ⟨w.heap.size, 0, none⟩ = some (.bool n0) ∧ w'.cell? ⟨w.heap.size, 1, none⟩ = some (.string (F 0)) ∧ w'.cell? ⟨w.heap.size, 2, none⟩ = some (.string d0) ∧ w'.cell? ⟨w.heap.size + 1, 0, none⟩ = some (.bool false) ∧ w'.cell? ⟨w.heap.size + 1, 1, none⟩ = some (.string (F i))) → Below wr.heap.size wr w' := fun w' h => h.1
   replace mkS := shut mkS
   replace bcS := shut bcS
   go_cut [7, 8] from 24 to 30 (fun v u wx => ∃ gc gd, v = .pointer (some ⟨gc, 0, none⟩) ∧ u = .pointer (some ⟨gd, 0, none⟩) ∧ wr.heap.size ≤ gc ∧ wr.heap.size ≤ gd ∧ Cel wx gc [.bool false, .string qS] 24 ∧ Cel wx gd [.bool false, .string rS] 24 ∧ Below wr.heap.size wr wx)
   case first =>
    clear HS HO HA HM HX
    refine wp_region_held_drew (S := (fun w' => Below wr.heap.size wr w' ∧ w'.cell? ⟨w.heap.size, 0, none⟩ = some (.bool n0) ∧ w'.cell? ⟨w.heap.size, 1, none⟩ = some (.string (F 0)) ∧ w'.cell? ⟨w.heap.size, 2, none⟩ = some (.string d0) ∧ w'.cell? ⟨w.heap.size + 1, 0, none⟩ = some (.bool false) ∧ w'.cell? ⟨w.heap.size + 1, 1, none⟩ = some (.string (F i)))) (by kernel_rfl) (mkS.out _ (bdrew _)) (fun _ => ?_)
    refine absO 11 (by kernel_rfl) (fun ops q SP hops hq hSP => ?_)
    obtain ⟨fr, hfr⟩ : ∃ fr : Value → Value → Value → Value → Value → Value → Value → Act, fr = (fun x7 x8 x24 x27 x28 x29 x30 => { tmps := #[.agg #[.bool n0, .string (F 0), .string d0], .int .i64 ↑i, .pointer (some ⟨w.heap.size, 0, none⟩), undef, .string { data := #[] }, .pointer (some ⟨w.heap.size + 1, 0, none⟩), .int .i64 ↑i, x7, x8, undef, undef, undef, .pointer (some ⟨w.heap.size, 0, none⟩), .pointer (some ⟨w.heap.size, 1, none⟩), .string (F 0), .agg #[.bool false, .string (F 0)], .int .i64 ↑i, .int .i64 ↑i, .bool false, u19, u20, u21, u22, u23, x24, .agg #[.bool false, .string (F i)], .agg #[.bool n0, .string (F 0), .string d0], x27, x28, x29, x30, undef, undef, undef, undef, undef, undef, undef, undef, undef, undef, undef, undef, undef, undef, undef, undef, undef, undef, undef, undef, undef, undef, undef, undef, undef, undef, undef, undef, undef, undef, undef, undef, undef, undef, undef, undef, undef, undef, undef, undef, undef, undef, undef, undef, undef, undef, undef, undef, undef, undef, undef, undef, undef, undef, undef, undef, undef, undef, undef, undef, undef, undef, undef, undef, undef, undef, undef], defers := [] }) := ⟨_, rfl⟩
    have L2_01 : Hid (∀ (g0 : Nat) (g1 : Nat) (w' : World) (hS : SP w') (k0 : Cel w' g0 [.bool false, .string { data := #[] }] 24) (h0 : wr.heap.size ≤ g0) (k1 : Cel w' g1 [.bool false, .string { data := #[] }] 24) (h1 : wr.heap.size ≤ g1) (n01 : ¬ g0 = g1), wpAnyH Tryz.prog .any ops q SP 2 (ls 11 [0, 1, 2, 3, 4, 5, 6, 7, 8]) (fr (.pointer (some ⟨g0, 0, none⟩)) (.pointer (some ⟨g1, 0, none⟩)) (.tuple #[.agg #[.bool false, .string qS], .agg #[.bool false, .string rS]]) (.agg #[.bool false, .string d0]) (.tuple #[.agg #[.bool false, .string qS], .agg #[.bool false, .string rS]]) (.agg #[.bool false, .string qS]) (.agg #[.bool false, .string rS])) w') := by
     subst hops hq hSP hfr
     intro g0 g1 w' hS k0 h0 k1 h1 n01
     have bc := bcS.out _ hS
     dsimp only
     have e0_0 := cel2_0' k0
     have f0_0 := Cel.frozen k0 0
     have e0_1 := cel2_1' k0
     have f0_1 := Cel.frozen k0 1
     refine rdy [9] (by kernel_rfl) ?_
     refine AllReadyH.cons (o := _) rfl (fun K hK => ?_) AllReadyH.nil
     simp only [List.getElem_toArray, List.getElem_cons_succ, List.getElem_cons_zero]
     go_simp
     try go_wp2_with fail
     clear e0_0 f0_0 e0_1 f0_1
     refine hK.out _ _ (mkS.out _ (bset (bset bc h0 0 (.bool false)) h0 1 (.string qS))) (fun hS => ?_)
     clear hK K
     replace k0 := (Cel.set (Cel.set k0 0 (.bool false)) 1 (.string qS))
     replace k1 := (Cel.other (Cel.other k1 (fun e => n01 e.symm) 0 (.bool false)) (fun e => n01 e.symm) 1 (.string qS))
     replace bc := (bset (bset bc h0 0 (.bool false)) h0 1 (.string qS))
     have e1_0 := cel2_0' k1
     have f1_0 := Cel.frozen k1 0
     have e1_1 := cel2_1' k1
     have f1_1 := Cel.frozen k1 1
     refine rdy [10] (by kernel_rfl) ?_
     refine AllReadyH.cons (o := _) rfl (fun K hK => ?_) AllReadyH.nil
     simp only [List.getElem_toArray, List.getElem_cons_succ, List.getElem_cons_zero]
     go_simp
     try go_wp2_with fail
     clear e1_0 f1_0 e1_1 f1_1
     refine hK.out _ _ (mkS.out _ (bset (bset bc h1 0 (.bool false)) h1 1 (.string rS))) (fun hS => ?_)
     clear hK K
     replace k0 := (Cel.other (Cel.other k0 n01 0 (.bool false)) n01 1 (.string rS))
     replace k1 := (Cel.set (Cel.set k1 0 (.bool false)) 1 (.string rS))
     replace bc := (bset (bset bc h1 0 (.bool false)) h1 1 (.string rS))
     refine wpAnyH_done (by kernel_rfl) ?_ _
     go_wp2_with fail
     go_meet
     exact ⟨_, _, rfl, rfl, h0, h1, k0, k1, bc⟩
    have L2_0 : Hid (∀ (g0 : Nat) (w' : World) (hS : SP w') (k0 : Cel w' g0 [.bool false, .string { data := #[] }] 24) (h0 : wr.heap.size ≤ g0), wpAnyH Tryz.prog .any ops q SP 3 (ls 11 [0, 1, 2, 3, 4, 5, 6, 7]) (fr (.pointer (some ⟨g0, 0, none⟩)) undef (.tuple #[.agg #[.bool false, .string qS], .agg #[.bool false, .string rS]]) (.agg #[.bool false, .string d0]) (.tuple #[.agg #[.bool false, .string qS], .agg #[.bool false, .string rS]]) (.agg #[.bool false, .string qS]) (.agg #[.bool false, .string rS])) w') := by
     subst hops hq hSP hfr
     intro g0 w' hS k0 h0
     have bc := bcS.out _ hS
     dsimp only
     refine rdy [8] (by kernel_rfl) ?_
     refine AllReadyH.cons (o := _) rfl (fun K hK => ?_) AllReadyH.nil
     ·simp only [List.getElem_toArray, List.getElem_cons_succ, List.getElem_cons_zero]
      go_simp
      try go_wp2_with fail
      refine hK.out _ _ (mkS.out _ (ba bc _)) (fun hS => ?_)
      clear hK K
      exact lst (L2_01.out g0 _ _ hS (k0.alloc _) h0 (Cel.new w' _ _) bc.size (by have := k0.lt; omega)) (by kernel_rfl)
    have L2_1 : Hid (∀ (g1 : Nat) (w' : World) (hS : SP w') (k1 : Cel w' g1 [.bool false, .string { data := #[] }] 24) (h1 : wr.heap.size ≤ g1), wpAnyH Tryz.prog .any ops q SP 3 (ls 11 [0, 1, 2, 3, 4, 5, 6, 8]) (fr undef (.pointer (some ⟨g1, 0, none⟩)) (.tuple #[.agg #[.bool false, .string qS], .agg #[.bool false, .string rS]]) (.agg #[.bool false, .string d0]) (.tuple #[.agg #[.bool false, .string qS], .agg #[.bool false, .string rS]]) (.agg #[.bool false, .string qS]) (.agg #[.bool false, .string rS])) w') := by
     clear L2_0
     subst hops hq hSP hfr
     intro g1 w' hS k1 h1
     have bc := bcS.out _ hS
     dsimp only
     refine rdy [7] (by kernel_rfl) ?_
     refine AllReadyH.cons (o := _) rfl (fun K hK => ?_) AllReadyH.nil
     ·simp only [List.getElem_toArray, List.getElem_cons_succ, List.getElem_cons_zero]
      go_simp
      try go_wp2_with fail
      refine hK.out _ _ (mkS.out _ (ba bc _)) (fun hS => ?_)
      clear hK K
      exact lst (L2_01.out _ g1 _ hS (Cel.new w' _ _) bc.size (k1.alloc _) h1 (by have := k1.lt; omega)) (by kernel_rfl)
    have L2_ : Hid (∀ (w' : World) (hS : SP w'), wpAnyH Tryz.prog .any ops q SP 4 (ls 11 [0, 1, 2, 3, 4, 5, 6]) (fr undef undef (.tuple #[.agg #[.bool false, .string qS], .agg #[.bool false, .string rS]]) (.agg #[.bool false, .string d0]) (.tuple #[.agg #[.bool false, .string qS], .agg #[.bool false, .string rS]]) (.agg #[.bool false, .string qS]) (.agg #[.bool false, .string rS])) w') := by
     clear L2_01
     subst hops hq hSP hfr
     intro w' hS
     have bc := bcS.out _ hS
     dsimp only
     refine rdy [7, 8] (by kernel_rfl) ?_
     refine AllReadyH.cons (o := _) rfl (fun K hK => ?_) (AllReadyH.cons (o := _) rfl (fun K hK => ?_) AllReadyH.nil)
     ·simp only [List.getElem_toArray, List.getElem_cons_succ, List.getElem_cons_zero]
      go_simp
      try go_wp2_with fail
      refine hK.out _ _ (mkS.out _ (ba bc _)) (fun hS => ?_)
      clear hK K
      exact lst (L2_0.out _ _ hS (Cel.new w' _ _) bc.size) (by kernel_rfl)
     ·simp only [List.getElem_toArray, List.getElem_cons_succ, List.getElem_cons_zero]
      go_simp
      try go_wp2_with fail
      refine hK.out _ _ (mkS.out _ (ba bc _)) (fun hS => ?_)
      clear hK K
      exact lst (L2_1.out _ _ hS (Cel.new w' _ _) bc.size) (by kernel_rfl)
    have L1_01 : Hid (∀ (g0 : Nat) (g1 : Nat) (w' : World) (hS : SP w') (k0 : Cel w' g0 [.bool false, .string { data := #[] }] 24) (h0 : wr.heap.size ≤ g0) (k1 : Cel w' g1 [.bool false, .string { data := #[] }] 24) (h1 : wr.heap.size ≤ g1) (n01 : ¬ g0 = g1), wpAnyH Tryz.prog .any ops q SP 6 (ls 11 [0, 1, 2, 7, 8]) (fr (.pointer (some ⟨g0, 0, none⟩)) (.pointer (some ⟨g1, 0, none⟩)) undef (.agg #[.bool false, .string d0]) undef undef undef) w') := by
     clear L2_0 L2_1 L2_
     subst hops hq hSP hfr
     intro g0 g1 w' hS k0 h0 k1 h1 n01
     have bc := bcS.out _ hS
     dsimp only
     refine rdy [3] (by kernel_rfl) ?_
     refine AllReadyH.cons (o := _) rfl (fun K hK => ?_) AllReadyH.nil
     ·simp only [List.getElem_toArray, List.getElem_cons_succ, List.getElem_cons_zero]
      go_simp
      go_fit (HQ.out _)
      rintro e wn ⟨rfl, bn⟩
      have bcn := Below.after bc bn
      try go_wp2_with fail
      refine hK.out _ _ (mkS.out _ bcn) (fun hS => ?_)
      clear hK K
      refine wpAnyH_take (i := 4) (oi := _) (v := ?_) rfl (by kernel_rfl) (by kernel_rfl) (by kernel_rfl) (fun _ _ _ h => h) (Or.inl ⟨by rfl, ?_⟩) (by assumption) ?_
      rotate_left
      ·(intro w hSw; (try dsimp only at hSw); go_simp; try with_reducible rfl)
      try simp only [Act.put, List.getElem_toArray, List.getElem_cons_succ, List.getElem_cons_zero, List.setIfInBounds_toArray, List.set_cons_zero, List.set_cons_succ]
      refine wpAnyH_take (i := 5) (oi := _) (v := ?_) rfl (by kernel_rfl) (by kernel_rfl) (by kernel_rfl) (fun _ _ _ h => h) (Or.inl ⟨by rfl, ?_⟩) (by assumption) ?_
      rotate_left
      ·(intro w hSw; (try dsimp only at hSw); go_simp; try with_reducible rfl)
      try simp only [Act.put, List.getElem_toArray, List.getElem_cons_succ, List.getElem_cons_zero, List.setIfInBounds_toArray, List.set_cons_zero, List.set_cons_succ]
      refine wpAnyH_take (i := 6) (oi := _) (v := ?_) rfl (by kernel_rfl) (by kernel_rfl) (by kernel_rfl) (fun _ _ _ h => h) (Or.inl ⟨by rfl, ?_⟩) (by assumption) ?_
      rotate_left
      ·(intro w hSw; (try dsimp only at hSw); go_simp; try with_reducible rfl)
      try simp only [Act.put, List.getElem_toArray, List.getElem_cons_succ, List.getElem_cons_zero, List.setIfInBounds_toArray, List.set_cons_zero, List.set_cons_succ]
      exact lst (L2_01.out g0 g1 wn hS (k0.below bn) h0 (k1.below bn) h1 n01) (by kernel_rfl)
    have L1_0 : Hid (∀ (g0 : Nat) (w' : World) (hS : SP w') (k0 : Cel w' g0 [.bool false, .string { data := #[] }] 24) (h0 : wr.heap.size ≤ g0), wpAnyH Tryz.prog .any ops q SP 7 (ls 11 [0, 1, 2, 7]) (fr (.pointer (some ⟨g0, 0, none⟩)) undef undef (.agg #[.bool false, .string d0]) undef undef undef) w') := by
     clear L2_01 L2_1 L2_
     subst hops hq hSP hfr
     intro g0 w' hS k0 h0
     have bc := bcS.out _ hS
     dsimp only
     refine rdy [3, 8] (by kernel_rfl) ?_
     refine AllReadyH.cons (o := _) rfl (fun K hK => ?_) (AllReadyH.cons (o := _) rfl (fun K hK => ?_) AllReadyH.nil)
     ·simp only [List.getElem_toArray, List.getElem_cons_succ, List.getElem_cons_zero]
      go_simp
      go_fit (HQ.out _)
      rintro e wn ⟨rfl, bn⟩
      have bcn := Below.after bc bn
      try go_wp2_with fail
      refine hK.out _ _ (mkS.out _ bcn) (fun hS => ?_)
      clear hK K
      refine wpAnyH_take (i := 4) (oi := _) (v := ?_) rfl (by kernel_rfl) (by kernel_rfl) (by kernel_rfl) (fun _ _ _ h => h) (Or.inl ⟨by rfl, ?_⟩) (by assumption) ?_
      rotate_left
      ·(intro w hSw; (try dsimp only at hSw); go_simp; try with_reducible rfl)
      try simp only [Act.put, List.getElem_toArray, List.getElem_cons_succ, List.getElem_cons_zero, List.setIfInBounds_toArray, List.set_cons_zero, List.set_cons_succ]
      refine wpAnyH_take (i := 5) (oi := _) (v := ?_) rfl (by kernel_rfl) (by kernel_rfl) (by kernel_rfl) (fun _ _ _ h => h) (Or.inl ⟨by rfl, ?_⟩) (by assumption) ?_
      rotate_left
      ·(intro w hSw; (try dsimp only at hSw); go_simp; try with_reducible rfl)
      try simp only [Act.put, List.getElem_toArray, List.getElem_cons_succ, List.getElem_cons_zero, List.setIfInBounds_toArray, List.set_cons_zero, List.set_cons_succ]
      refine wpAnyH_take (i := 6) (oi := _) (v := ?_) rfl (by kernel_rfl) (by kernel_rfl) (by kernel_rfl) (fun _ _ _ h => h) (Or.inl ⟨by rfl, ?_⟩) (by assumption) ?_
      rotate_left
      ·(intro w hSw; (try dsimp only at hSw); go_simp; try with_reducible rfl)
      try simp only [Act.put, List.getElem_toArray, List.getElem_cons_succ, List.getElem_cons_zero, List.setIfInBounds_toArray, List.set_cons_zero, List.set_cons_succ]
      exact lst (L2_0.out g0 wn hS (k0.below bn) h0) (by kernel_rfl)
     ·simp only [List.getElem_toArray, List.getElem_cons_succ, List.getElem_cons_zero]
      go_simp
      try go_wp2_with fail
      refine hK.out _ _ (mkS.out _ (ba bc _)) (fun hS => ?_)
      clear hK K
      exact lst (L1_01.out g0 _ _ hS (k0.alloc _) h0 (Cel.new w' _ _) bc.size (by have := k0.lt; omega)) (by kernel_rfl)
    have L1_1 : Hid (∀ (g1 : Nat) (w' : World) (hS : SP w') (k1 : Cel w' g1 [.bool false, .string { data := #[] }] 24) (h1 : wr.heap.size ≤ g1), wpAnyH Tryz.prog .any ops q SP 7 (ls 11 [0, 1, 2, 8]) (fr undef (.pointer (some ⟨g1, 0, none⟩)) undef (.agg #[.bool false, .string d0]) undef undef undef) w') := by
     clear L2_01 L2_0 L2_ L1_0
     subst hops hq hSP hfr
     intro g1 w' hS k1 h1
     have bc := bcS.out _ hS
     dsimp only
     refine rdy [3, 7] (by kernel_rfl) ?_
     refine AllReadyH.cons (o := _) rfl (fun K hK => ?_) (AllReadyH.cons (o := _) rfl (fun K hK => ?_) AllReadyH.nil)
     ·simp only [List.getElem_toArray, List.getElem_cons_succ, List.getElem_cons_zero]
      go_simp
      go_fit (HQ.out _)
      rintro e wn ⟨rfl, bn⟩
      have bcn := Below.after bc bn
      try go_wp2_with fail
      refine hK.out _ _ (mkS.out _ bcn) (fun hS => ?_)
      clear hK K
      refine wpAnyH_take (i := 4) (oi := _) (v := ?_) rfl (by kernel_rfl) (by kernel_rfl) (by kernel_rfl) (fun _ _ _ h => h) (Or.inl ⟨by rfl, ?_⟩) (by assumption) ?_
      rotate_left
      ·(intro w hSw; (try dsimp only at hSw); go_simp; try with_reducible rfl)
      try simp only [Act.put, List.getElem_toArray, List.getElem_cons_succ, List.getElem_cons_zero, List.setIfInBounds_toArray, List.set_cons_zero, List.set_cons_succ]
      refine wpAnyH_take (i := 5) (oi := _) (v := ?_) rfl (by kernel_rfl) (by kernel_rfl) (by kernel_rfl) (fun _ _ _ h => h) (Or.inl ⟨by rfl, ?_⟩) (by assumption) ?_
      rotate_left
      ·(intro w hSw; (try dsimp only at hSw); go_simp; try with_reducible rfl)
      try simp only [Act.put, List.getElem_toArray, List.getElem_cons_succ, List.getElem_cons_zero, List.setIfInBounds_toArray, List.set_cons_zero, List.set_cons_succ]
      refine wpAnyH_take (i := 6) (oi := _) (v := ?_) rfl (by kernel_rfl) (by kernel_rfl) (by kernel_rfl) (fun _ _ _ h => h) (Or.inl ⟨by rfl, ?_⟩) (by assumption) ?_
      rotate_left
      ·(intro w hSw; (try dsimp only at hSw); go_simp; try with_reducible rfl)
      try simp only [Act.put, List.getElem_toArray, List.getElem_cons_succ, List.getElem_cons_zero, List.setIfInBounds_toArray, List.set_cons_zero, List.set_cons_succ]
      exact lst (L2_1.out g1 wn hS (k1.below bn) h1) (by kernel_rfl)
     ·simp only [List.getElem_toArray, List.getElem_cons_succ, List.getElem_cons_zero]
      go_simp
      try go_wp2_with fail
      refine hK.out _ _ (mkS.out _ (ba bc _)) (fun hS => ?_)
      clear hK K
      exact lst (L1_01.out _ g1 _ hS (Cel.new w' _ _) bc.size (k1.alloc _) h1 (by have := k1.lt; omega)) (by kernel_rfl)
    have L1_ : Hid (∀ (w' : World) (hS : SP w'), wpAnyH Tryz.prog .any ops q SP 8 (ls 11 [0, 1, 2]) (fr undef undef undef (.agg #[.bool false, .string d0]) undef undef undef) w') := by
     clear L2_01 L2_0 L2_1 L1_01
     subst hops hq hSP hfr
     intro w' hS
     have bc := bcS.out _ hS
     dsimp only
     refine rdy [3, 7, 8] (by kernel_rfl) ?_
     refine AllReadyH.cons (o := _) rfl (fun K hK => ?_) (AllReadyH.cons (o := _) rfl (fun K hK => ?_) (AllReadyH.cons (o := _) rfl (fun K hK => ?_) AllReadyH.nil))
     ·simp only [List.getElem_toArray, List.getElem_cons_succ, List.getElem_cons_zero]
      go_simp
      go_fit (HQ.out _)
      rintro e wn ⟨rfl, bn⟩
      have bcn := Below.after bc bn
      try go_wp2_with fail
      refine hK.out _ _ (mkS.out _ bcn) (fun hS => ?_)
      clear hK K
      refine wpAnyH_take (i := 4) (oi := _) (v := ?_) rfl (by kernel_rfl) (by kernel_rfl) (by kernel_rfl) (fun _ _ _ h => h) (Or.inl ⟨by rfl, ?_⟩) (by assumption) ?_
      rotate_left
      ·(intro w hSw; (try dsimp only at hSw); go_simp; try with_reducible rfl)
      try simp only [Act.put, List.getElem_toArray, List.getElem_cons_succ, List.getElem_cons_zero, List.setIfInBounds_toArray, List.set_cons_zero, List.set_cons_succ]
      refine wpAnyH_take (i := 5) (oi := _) (v := ?_) rfl (by kernel_rfl) (by kernel_rfl) (by kernel_rfl) (fun _ _ _ h => h) (Or.inl ⟨by rfl, ?_⟩) (by assumption) ?_
      rotate_left
      ·(intro w hSw; (try dsimp only at hSw); go_simp; try with_reducible rfl)
      try simp only [Act.put, List.getElem_toArray, List.getElem_cons_succ, List.getElem_cons_zero, List.setIfInBounds_toArray, List.set_cons_zero, List.set_cons_succ]
      refine wpAnyH_take (i := 6) (oi := _) (v := ?_) rfl (by kernel_rfl) (by kernel_rfl) (by kernel_rfl) (fun _ _ _ h => h) (Or.inl ⟨by rfl, ?_⟩) (by assumption) ?_
      rotate_left
      ·(intro w hSw; (try dsimp only at hSw); go_simp; try with_reducible rfl)
      try simp only [Act.put, List.getElem_toArray, List.getElem_cons_succ, List.getElem_cons_zero, List.setIfInBounds_toArray, List.set_cons_zero, List.set_cons_succ]
      exact lst (L2_.out wn hS) (by kernel_rfl)
     ·simp only [List.getElem_toArray, List.getElem_cons_succ, List.getElem_cons_zero]
      go_simp
      try go_wp2_with fail
      refine hK.out _ _ (mkS.out _ (ba bc _)) (fun hS => ?_)
      clear hK K
      exact lst (L1_0.out _ _ hS (Cel.new w' _ _) bc.size) (by kernel_rfl)
     ·simp only [List.getElem_toArray, List.getElem_cons_succ, List.getElem_cons_zero]
      go_simp
      try go_wp2_with fail
      refine hK.out _ _ (mkS.out _ (ba bc _)) (fun hS => ?_)
      clear hK K
      exact lst (L1_1.out _ _ hS (Cel.new w' _ _) bc.size) (by kernel_rfl)
    have L0_01 : Hid (∀ (g0 : Nat) (g1 : Nat) (w' : World) (hS : SP w') (k0 : Cel w' g0 [.bool false, .string { data := #[] }] 24) (h0 : wr.heap.size ≤ g0) (k1 : Cel w' g1 [.bool false, .string { data := #[] }] 24) (h1 : wr.heap.size ≤ g1) (n01 : ¬ g0 = g1), wpAnyH Tryz.prog .any ops q SP 7 (ls 11 [0, 1, 7, 8]) (fr (.pointer (some ⟨g0, 0, none⟩)) (.pointer (some ⟨g1, 0, none⟩)) undef undef undef undef undef) w') := by
     clear L2_01 L2_0 L2_1 L2_ L1_0 L1_1 L1_
     subst hops hq hSP hfr
     intro g0 g1 w' hS k0 h0 k1 h1 n01
     have bc := bcS.out _ hS
     dsimp only
     refine rdy [2] (by kernel_rfl) ?_
     refine AllReadyH.cons (o := _) rfl (fun K hK => ?_) AllReadyH.nil
     ·simp only [List.getElem_toArray, List.getElem_cons_succ, List.getElem_cons_zero]
      go_simp
      go_fit (rden_any _ _ _ _)
      rintro e wn ⟨rfl, bn⟩
      have bcn := Below.after bc bn
      try go_wp2_with fail
      refine hK.out _ _ (mkS.out _ bcn) (fun hS => ?_)
      clear hK K
      exact lst (L1_01.out g0 g1 wn hS (k0.below bn) h0 (k1.below bn) h1 n01) (by kernel_rfl)
    have L0_0 : Hid (∀ (g0 : Nat) (w' : World) (hS : SP w') (k0 : Cel w' g0 [.bool false, .string { data := #[] }] 24) (h0 : wr.heap.size ≤ g0), wpAnyH Tryz.prog .any ops q SP 8 (ls 11 [0, 1, 7]) (fr (.pointer (some ⟨g0, 0, none⟩)) undef undef undef undef undef undef) w') := by
     clear L2_01 L2_0 L2_1 L2_ L1_01 L1_1 L1_
     subst hops hq hSP hfr
     intro g0 w' hS k0 h0
     have bc := bcS.out _ hS
     dsimp only
     refine rdy [2, 8] (by kernel_rfl) ?_
     refine AllReadyH.cons (o := _) rfl (fun K hK => ?_) (AllReadyH.cons (o := _) rfl (fun K hK => ?_) AllReadyH.nil)
     ·simp only [List.getElem_toArray, List.getElem_cons_succ, List.getElem_cons_zero]
      go_simp
      go_fit (rden_any _ _ _ _)
      rintro e wn ⟨rfl, bn⟩
      have bcn := Below.after bc bn
      try go_wp2_with fail
      refine hK.out _ _ (mkS.out _ bcn) (fun hS => ?_)
      clear hK K
      exact lst (L1_0.out g0 wn hS (k0.below bn) h0) (by kernel_rfl)
     ·simp only [List.getElem_toArray, List.getElem_cons_succ, List.getElem_cons_zero]
      go_simp
      try go_wp2_with fail
      refine hK.out _ _ (mkS.out _ (ba bc _)) (fun hS => ?_)
      clear hK K
      exact lst (L0_01.out g0 _ _ hS (k0.alloc _) h0 (Cel.new w' _ _) bc.size (by have := k0.lt; omega)) (by kernel_rfl)
    have L0_1 : Hid (∀ (g1 : Nat) (w' : World) (hS : SP w') (k1 : Cel w' g1 [.bool false, .string { data := #[] }] 24) (h1 : wr.heap.size ≤ g1), wpAnyH Tryz.prog .any ops q SP 8 (ls 11 [0, 1, 8]) (fr undef (.pointer (some ⟨g1, 0, none⟩)) undef undef undef undef undef) w') := by
     clear L2_01 L2_0 L2_1 L2_ L1_01 L1_0 L1_ L0_0
     subst hops hq hSP hfr
     intro g1 w' hS k1 h1
     have bc := bcS.out _ hS
     dsimp only
     refine rdy [2, 7] (by kernel_rfl) ?_
     refine AllReadyH.cons (o := _) rfl (fun K hK => ?_) (AllReadyH.cons (o := _) rfl (fun K hK => ?_) AllReadyH.nil)
     ·simp only [List.getElem_toArray, List.getElem_cons_succ, List.getElem_cons_zero]
      go_simp
      go_fit (rden_any _ _ _ _)
      rintro e wn ⟨rfl, bn⟩
      have bcn := Below.after bc bn
      try go_wp2_with fail
      refine hK.out _ _ (mkS.out _ bcn) (fun hS => ?_)
      clear hK K
      exact lst (L1_1.out g1 wn hS (k1.below bn) h1) (by kernel_rfl)
     ·simp only [List.getElem_toArray, List.getElem_cons_succ, List.getElem_cons_zero]
      go_simp
      try go_wp2_with fail
      refine hK.out _ _ (mkS.out _ (ba bc _)) (fun hS => ?_)
      clear hK K
      exact lst (L0_01.out _ g1 _ hS (Cel.new w' _ _) bc.size (k1.alloc _) h1 (by have := k1.lt; omega)) (by kernel_rfl)
    have L0_ : Hid (∀ (w' : World) (hS : SP w'), wpAnyH Tryz.prog .any ops q SP 9 (ls 11 [0, 1]) (fr undef undef undef undef undef undef undef) w') := by
     clear L2_01 L2_0 L2_1 L2_ L1_01 L1_0 L1_1 L0_01
     subst hops hq hSP hfr
     intro w' hS
     have bc := bcS.out _ hS
     dsimp only
     refine rdy [2, 7, 8] (by kernel_rfl) ?_
     refine AllReadyH.cons (o := _) rfl (fun K hK => ?_) (AllReadyH.cons (o := _) rfl (fun K hK => ?_) (AllReadyH.cons (o := _) rfl (fun K hK => ?_) AllReadyH.nil))
     ·simp only [List.getElem_toArray, List.getElem_cons_succ, List.getElem_cons_zero]
      go_simp
      go_fit (rden_any _ _ _ _)
      rintro e wn ⟨rfl, bn⟩
      have bcn := Below.after bc bn
      try go_wp2_with fail
      refine hK.out _ _ (mkS.out _ bcn) (fun hS => ?_)
      clear hK K
      exact lst (L1_.out wn hS) (by kernel_rfl)
     ·simp only [List.getElem_toArray, List.getElem_cons_succ, List.getElem_cons_zero]
      go_simp
      try go_wp2_with fail
      refine hK.out _ _ (mkS.out _ (ba bc _)) (fun hS => ?_)
      clear hK K
      exact lst (L0_0.out _ _ hS (Cel.new w' _ _) bc.size) (by kernel_rfl)
     ·simp only [List.getElem_toArray, List.getElem_cons_succ, List.getElem_cons_zero]
      go_simp
      try go_wp2_with fail
      refine hK.out _ _ (mkS.out _ (ba bc _)) (fun hS => ?_)
      clear hK K
      exact lst (L0_1.out _ _ hS (Cel.new w' _ _) bc.size) (by kernel_rfl)
    clear L2_01 L2_0 L2_1 L2_ L1_01 L1_0 L1_1 L1_ L0_01 L0_0 L0_1
    subst hops hq hSP hfr
    refine wpAnyH_take (i := 0) (oi := _) (v := ?_) rfl (by kernel_rfl) (by kernel_rfl) (by kernel_rfl) (fun _ _ _ h => h) (Or.inl ⟨by rfl, ?_⟩) (by assumption) ?_
    rotate_left
    ·(intro w hSw; (try dsimp only at hSw); go_simp; try with_reducible rfl)
    try simp only [Act.put, List.getElem_toArray, List.getElem_cons_zero, List.setIfInBounds_toArray, List.set_cons_zero, List.set_cons_succ]
    refine wpAnyH_take (i := 1) (oi := _) (v := ?_) rfl (by kernel_rfl) (by kernel_rfl) (by kernel_rfl) (fun _ _ _ h => h) (Or.inl ⟨by rfl, ?_⟩) (by assumption) ?_
    rotate_left
    ·(intro w hSw; (try dsimp only at hSw); go_simp; try with_reducible rfl)
    try simp only [Act.put, List.getElem_toArray, List.getElem_cons_succ, List.getElem_cons_zero, List.setIfInBounds_toArray, List.set_cons_zero, List.set_cons_succ]
    exact lst (L0_.out _ (mkS.out _ (bdrew _))) (by kernel_rfl)
   case rest =>
   obtain ⟨gq, gr, rfl, rfl, lq, lr, kq, kr, b1⟩ := hcut
   clear mkS bcS
   have sz := b1.size
   replace ka := ka.below b1
   replace kn := kn.below b1
   replace bb := Below.after bb b1
   clear b1
   have tq := kq.lt
   have tr := kr.lt
   clear kn
   go_wp2_with fail
   go_region_held3 (fun w' => w'.cell? ⟨w.heap.size, 0, none⟩ = some (.bool n0) ∧ w'.cell? ⟨w.heap.size, 1, none⟩ = some (.string (F 0)) ∧ w'.cell? ⟨w.heap.size, 2, none⟩ = some (.string d0) ∧ w'.cell? ⟨gr, 0, none⟩ = some (.bool false) ∧ w'.cell? ⟨gr, 1, none⟩ = some (.string rS)) (exact ⟨cel3_0 ka, cel3_1 ka, cel3_2 ka, cel2_0' kr, cel2_1' kr⟩) (first | (go_at_call 49; go_fit (HS.out _); rintro e wn ⟨rfl, bn⟩; replace ka := ka.below ⟨bn.os, bn.tape, bn.output, bn.size, bn.block⟩; replace kq := kq.below ⟨bn.os, bn.tape, bn.output, bn.size, bn.block⟩; replace kr := kr.below ⟨bn.os, bn.tape, bn.output, bn.size, bn.block⟩; replace bb := Below.after bb ⟨bn.os, bn.tape, bn.output, bn.size, bn.block⟩) | (go_at_call 48; go_fit (rden_any _ _ _ _); rintro e wn ⟨rfl, bn⟩; replace ka := ka.below ⟨bn.os, bn.tape, bn.output, bn.size, bn.block⟩; replace kq := kq.below ⟨bn.os, bn.tape, bn.output, bn.size, bn.block⟩; replace kr := kr.below ⟨bn.os, bn.tape, bn.output, bn.size, bn.block⟩; replace bb := Below.after bb ⟨bn.os, bn.tape, bn.output, bn.size, bn.block⟩) | (go_at_call 47; go_fit (HO.out _); rintro e wn ⟨rfl, bn⟩; replace ka := ka.below ⟨bn.os, bn.tape, bn.output, bn.size, bn.block⟩; replace kq := kq.below ⟨bn.os, bn.tape, bn.output, bn.size, bn.block⟩; replace kr := kr.below ⟨bn.os, bn.tape, bn.output, bn.size, bn.block⟩; replace bb := Below.after bb ⟨bn.os, bn.tape, bn.output, bn.size, bn.block⟩))
   clear HS HO kr
   go_upto_region 8 with fail
   go_cut [10] from 37 to 50 (fun y wx => y = .bool ob ∧ wx = wn)
   case first =>
    have c0 := cel2_0' kq
    have c1 := cel2_1' kq
    by_cases hq0 : 0 < qS.size
    ·have h : qS.toList.isEmpty = false := by simpa using toList_ne hq0
     have HV : Hid (∀ hh : qS.size - 1 < qS.size, (((qS[qS.size - 1]'hh).toNat : Int) % 2 == 1) = ob) := by
      intro hh
      rw [hob, ← last_odd qS hq0, ← byts_at qS (qS.size - 1) hh]
      exact rem1 _
     clear hob hup hc
     go_wp2
     go_meet
     exact ⟨congrArg Value.bool (HV.out _), rfl⟩
    ·have g3 : qS = ByteArray.empty := ByteArray.size_eq_zero_iff.1 (by omega)
     subst g3
     have hob' : ob = false := by rw [hob]; rfl
     clear hob hup hc
     go_wp2
     go_meet
     exact ⟨congrArg Value.bool hob'.symm, rfl⟩
   case rest =>
   obtain ⟨rfl, rfl⟩ := hcut
   clear hob
   go_upto_region 9 with fail
   go_cut [59] from 51 to 59 (fun y wx => y = .bool up ∧ wx = wc)
   case first =>
    rcases hc with rfl | rfl | rfl
    ·(go_wp2; go_meet; exact ⟨by rw [hup]; rfl, rfl⟩)
    ·(cases ob <;> (go_wp2; go_meet; exact ⟨by rw [hup]; rfl, rfl⟩))
    ·(go_wp2; go_meet; exact ⟨by rw [hup]; rfl, rfl⟩)
   case rest =>
   obtain ⟨rfl, rfl⟩ := hcut
   clear hup hc
   go_upto_if 59 with fail
   go_cut [] from 60 to 62 (fun wx => Cel wx gq [.bool false, .string mS] 24 ∧ Cel wx w.heap.size [.bool n0, .string (F 0), .string d0] 26 ∧ Below w.heap.size w wx)
   case first =>
    clear HX
    cases up with
    | false =>
     obtain rfl := hm0 rfl
     clear HM HA
     go_wp2
     go_meet
     exact ⟨kq, ka, bb⟩
    | true =>
     have HM' := shut (HM.out rfl)
     clear HM hm0
     have c0 := cel2_0' kq
     have c1 := cel2_1' kq
     go_wp2
     go_region_with (first | (go_at_call 31; go_fit (HA.out _); rintro e wa ⟨rfl, b1'⟩; have b1 : Below wc.heap.size wc wa := ⟨b1'.os, b1'.tape, b1'.output, b1'.size, b1'.block⟩; have d0 := cel2_0' (kq.below b1); have d1 := cel2_1' (kq.below b1)) | (go_at_call 49; go_fit (HM'.out _); rintro e wb ⟨rfl, b2⟩; have q2 := (kq.below b1).below b2; have qa := (ka.below b1).below b2; have bb2 := Below.after bb (Below.after b1 b2); have e0 := cel2_0' q2; have e1 := cel2_1' q2; have f0 := q2.frozen 0; have f1 := q2.frozen 1))
     all_goals (clear c0 c1; try clear d0 d1)
     all_goals (try clear e0 e1 f0 f1)
     all_goals have ne1 : ¬ w.heap.size = gq := by omega
     all_goals (try go_wp2_with fail)
     all_goals go_meet
     all_goals exact ⟨(q2.set 0 (.bool false)).set 1 (.string mS), (qa.other ne1 0 (.bool false)).other ne1 1 (.string mS), bset (g := gq) (bset (g := gq) bb2 (by omega) 0 (.bool false)) (by omega) 1 (.string mS)⟩
   case rest =>
   clear kq ka bb HM HA hm0
   obtain ⟨kq, ka, bb⟩ := hcut
   have cq_0 := cel2_0' kq
   have cq_1 := cel2_1' kq
   go_wp2_with fail
   clear cq_0 cq_1
   go_fit (HX.out _)
   rintro e w2 ⟨rfl, b1⟩
   have sz := b1.size
   replace ka := ka.below b1
   replace kq := kq.below b1
   replace bb := Below.after bb b1
   clear b1
   clear HX
   go_wp2_with fail
   go_loopw [11] (fun sv wx => ∃ j : Nat, sv = .string (G j) ∧ j ≤ k ∧ wx = w2) (fun sv _ => k - (strSz sv - (G 0).size))
   case atStart => exact ⟨0, by rw [hG0], by omega, rfl⟩
   case round =>
    obtain ⟨j, rfl, hj, rfl⟩ := hrel
    have hs1 := hGs j
    have hs2 := hGs (j + 1)
    have hs3 := hGs 0
    by_cases hlt : (G j).size ≤ i
    ·have hlt' : ((G j).size : Int) ≤ (i : Int) := by omega
     have hg1 := hG1 j
     clear kq ka bb
     go_wp2
     refine ⟨⟨j + 1, by rw [hg1], by omega, by first | rfl | trivial⟩, ?_⟩
     show k - ((⟨#[48]⟩ ++ G j : ByteArray).size - (G 0).size) < k - ((G j).size - (G 0).size)
     rw [← hg1]
     omega
    ·have hlt' : ¬ ((G j).size : Int) ≤ (i : Int) := by omega
     obtain rfl : j = k := by omega
     obtain rfl : G j = T := hGk
     have hT1 : i + 1 ≤ (G j).size := by omega
     have hT2 : (G j).size ≤ 1401 := by omega
     clear hs1 hs2 hs3 hG1 hGs hG0 hk hj
     go_upto_region 14 with fail
     by_cases hi0 : i = 0
     ·have hip : ¬ ((i : Int) > 0) := by omega
      go_upto_region 16 with fail
      have c0 := cel2_0' kq
      have c1 := cel2_1' kq
      have a0 := cel3_0 ka
      cases n0 with
      | false =>
       go_wp2
       go_ret
       exact ⟨by rw [HR.out]; simp [dpoint, hi0], bb⟩
      | true =>
       by_cases hms : 0 < mS.size
       ·have hme : mS.toList.isEmpty = false := by simpa using toList_ne hms
        go_wp2
        go_ret
        exact ⟨by rw [HR.out]; simp [dpoint, hi0, hms], bb⟩
       ·obtain rfl : mS = ByteArray.empty := ByteArray.size_eq_zero_iff.1 (by omega)
        go_wp2
        go_ret
        exact ⟨by rw [HR.out]; simp [dpoint, hi0], bb⟩
     ·have hip : ((i : Int) > 0) := by omega
      go_upto_region 15 with fail
      go_quiet (fail)
      have bq := below_drewN bb nq
      go_upto_region 16 with fail
      have c0 := cel2_0' kq
      have c1 := cel2_1' kq
      have a0 := cel3_0 ka
      cases n0 with
      | false =>
       go_wp2
       go_ret
       exact ⟨by rw [HR.out]; simp [dpoint, hi0], bq⟩
      | true =>
       by_cases hms : 0 < mS.size
       ·have hme : mS.toList.isEmpty = false := by simpa using toList_ne hms
        go_wp2
        go_ret
        exact ⟨by rw [HR.out]; simp [dpoint, hi0, hms], bq⟩
       ·obtain rfl : mS = ByteArray.empty := ByteArray.size_eq_zero_iff.1 (by omega)
        go_wp2
        go_ret
        exact ⟨by rw [HR.out]; simp [dpoint, hi0], bq⟩
end Go.Proofs.YtdbnkcimcpnpdaaGreatDoor
namespace Go.Proofs.YtdbnkcimcpnpdaaGreatDoor
open Go.RowKit Go.Shelf

theorem nat_zI (m : Nat) : zI ((m : Nat) : Int) = .agg #[.bool false, .string (strOf m)] := by
 obtain ⟨nf, sf, hf, hok, hsz, hz, hnat, hneg, hstr, hnn, hfn⟩ := named0
 rw [hfn, hstr]
theorem nat_zOf (m : Nat) : zOf false (strOf m) = ((m : Nat) : Int) := by rw [zOf_false, natOf_strOf]
theorem okz_nat (m : Nat) : OkZ false (strOf m) := ⟨okS_strOf m, fun h => by cases h⟩
/-- Rounded to the nearest, of two the even one, above 0. -/
def rup (N D : Nat) : Bool := decide (D < N % D + N % D) || (decide (N % D + N % D = D) && decide (N / D % 2 = 1))
def rnat (N D : Nat) : Nat := if rup N D = true then N / D + 1 else N / D
theorem rnd_nat (N D : Nat) : rnd ((N : Nat) : Int) D = ((rnat N D : Nat) : Int) := by
 unfold rnd rnat rup
 rw [← Int.natCast_emod, ← Int.natCast_ediv]
 generalize N % D = r
 generalize N / D = q
 by_cases h : D < r + r ∨ (r + r = D ∧ q % 2 = 1)
 ·rw [if_pos (by omega), if_pos (by simpa using h)]
  omega
 ·rw [if_neg (by omega), if_neg (by simpa using h)]
theorem rnd_neg (N D : Nat) (hD : 0 < D) : rnd (-((N : Nat) : Int)) D = -((rnat N D : Nat) : Int) := by
 have e := Nat.div_add_mod N D
 have hr := Nat.mod_lt N hD
 have key : (-((N : Nat) : Int)) / (D : Int) = (if N % D = 0 then -((N / D : Nat) : Int) else -((N / D : Nat) : Int) - 1) ∧ (-((N : Nat) : Int)) % (D : Int) = (if N % D = 0 then 0 else (D : Int) - ((N % D : Nat) : Int)) := by
  have e2 : ((D : Nat) : Int) * ((N / D : Nat) : Int) + ((N % D : Nat) : Int) = ((N : Nat) : Int) := by
   rw [← Int.natCast_mul, ← Int.natCast_add, e]
  refine (Int.ediv_emod_unique (by omega)).2 ?_
  generalize N / D = q at *
  generalize N % D = r at *
  by_cases h : r = 0
  ·rw [if_pos h, if_pos h, Int.mul_neg]
   generalize ((D : Nat) : Int) * ((q : Nat) : Int) = P at *
   omega
  ·rw [if_neg h, if_neg h, Int.mul_sub, Int.mul_neg, Int.mul_one]
   generalize ((D : Nat) : Int) * ((q : Nat) : Int) = P at *
   omega
 unfold rnd rnat rup
 rw [key.1, key.2]
 generalize N / D = q at *
 generalize N % D = r at *
 by_cases h : r = 0
 ·rw [if_pos h, if_pos h]
  subst h
  rw [if_neg (by omega), if_neg (by simp; omega)]
 ·rw [if_neg h, if_neg h]
  by_cases h2 : D < r + r ∨ (r + r = D ∧ q % 2 = 1)
  ·rw [if_neg (by omega), if_pos (by simpa using h2)]
   omega
  ·rw [if_pos (by omega), if_neg (by simpa using h2)]
   omega
theorem rnd_zOf (n : Bool) (s : ByteArray) (p D : Nat) (hD : 0 < D) : rnd (zOf n s * ((10 ^ p : Nat) : Int)) D = sgn n (rnat (natOf s * 10 ^ p) D) := by
 cases n with
 | false => rw [zOf_false, ← Int.natCast_mul, rnd_nat]; rfl
 | true =>
  have : zOf true s = -((natOf s : Nat) : Int) := rfl
  rw [this, Int.neg_mul, ← Int.natCast_mul, rnd_neg _ _ hD]
  rfl
theorem dtxt_sgn (n : Bool) (M p : Nat) : dtxt (sgn n M) p = if (n && decide (0 < (strOf M).size)) = true then ⟨#[45]⟩ ++ dpoint (dfull M p) p else dpoint (dfull M p) p := by
 have hs : 0 < (strOf M).size ↔ 0 < M := by
  have := okS_nil (okS_strOf M)
  rw [natOf_strOf] at this
  omega
 have ha : (sgn n M).natAbs = M := by cases n <;> simp [sgn]
 unfold dtxt
 rw [ha]
 cases n with
 | false =>
  rw [if_neg (by simp [sgn]), if_neg (by simp)]
 | true =>
  by_cases h : 0 < M
  ·rw [if_pos (by simp [sgn]; omega), if_pos (by simp [hs, h])]
  ·rw [if_neg (by simp [sgn]; omega), if_neg (by simp [hs, h])]
theorem rep_zero (t : ByteArray) : (⟨(Lib.repeatL [48] 0).toArray⟩ : ByteArray) ++ t = t := by
 apply ByteArray.ext
 simp [Lib.repeatL]
theorem rep_succ (j : Nat) (t : ByteArray) : (⟨(Lib.repeatL [48] (j + 1)).toArray⟩ : ByteArray) ++ t = ⟨#[48]⟩ ++ ((⟨(Lib.repeatL [48] j).toArray⟩ : ByteArray) ++ t) := by
 rw [← ByteArray.append_assoc]
 congr 1
theorem rdecq_any (n : Bool) (s d : ByteArray) (p : Nat) (w : World) (o : OkQ n s d) (hp : p ≤ 100) (zs : s.size ≤ 60) (zd : d.size ≤ 60) :
  Calls Tryz.prog 29 #[.agg #[.bool n, .string s, .string d], .int .i64 (p : Int)] w fun e w' => e = .returned (.string (dtxt (rnd (zOf n s * ((10 ^ p : Nat) : Int)) (natOf d)) p)) ∧ Below w.heap.size w w' := by
 obtain ⟨X, hX⟩ : ∃ X, X = natOf s := ⟨_, rfl⟩
 obtain ⟨D, hD⟩ : ∃ D, D = natOf d := ⟨_, rfl⟩
 have hDp : 0 < D := by rw [hD]; exact o.2.2.1
 have ed : zOf false d = ((D : Nat) : Int) := by rw [zOf_false, hD]
 rw [rnd_zOf n s p (natOf d) o.2.2.1, dtxt_sgn, ← hX, ← hD]
 have hXs : X < 256 ^ 60 := by rw [hX]; exact Nat.lt_of_lt_of_le (natOf_lt s) (Nat.pow_le_pow_right (by omega) zs)
 have hXi : ∀ i, X * 10 ^ i < 256 ^ (60 + i) := fun i => by
  rw [Nat.pow_add]
  refine Nat.lt_of_le_of_lt (Nat.mul_le_mul_left X (Nat.pow_le_pow_left (show 10 ≤ 256 by omega) i)) (Nat.mul_lt_mul_of_pos_right hXs (Nat.pow_pos (by omega)))
 have zF : ∀ i, i ≤ p → (strOf (X * 10 ^ i)).size ≤ 160 := fun i hi => Nat.le_trans (strOf_lt (hXi i)) (by omega)
 obtain ⟨N, hN⟩ : ∃ N, N = X * 10 ^ p := ⟨_, rfl⟩
 have hNs : N < 256 ^ 160 := by rw [hN]; exact Nat.lt_of_lt_of_le (hXi p) (Nat.pow_le_pow_right (by omega) (by omega))
 have hDs : D < 256 ^ 60 := by rw [hD]; exact Nat.lt_of_lt_of_le (natOf_lt d) (Nat.pow_le_pow_right (by omega) zd)
 obtain ⟨Q, hQ⟩ : ∃ Q, Q = N / D := ⟨_, rfl⟩
 obtain ⟨r, hr⟩ : ∃ r, r = N % D := ⟨_, rfl⟩
 have hQs : Q < 256 ^ 160 := by rw [hQ]; exact Nat.lt_of_le_of_lt (Nat.div_le_self _ _) hNs
 have hrs : r < 256 ^ 60 := by rw [hr]; exact Nat.lt_trans (Nat.mod_lt _ hDp) hDs
 have hM : rnat N D = if rup N D = true then Q + 1 else Q := by unfold rnat; rw [← hQ]
 have hMs : rnat N D < 256 ^ 161 := by
  rw [hM, Nat.pow_succ]
  generalize 256 ^ 160 = b at hQs
  split <;> omega
 have zM : (strOf (rnat N D)).size ≤ 161 := strOf_lt hMs
 have r2 : r + r < 256 ^ 61 := by
  rw [Nat.pow_succ]
  generalize 256 ^ 60 = b at hrs
  omega
 have HF : Hid (∀ w1, Calls Tryz.prog 31 #[.int .i64 10] w1 fun e w' => e = .returned (.agg #[.bool false, .string (strOf 10)]) ∧ Below w1.heap.size w1 w') := fun w1 => by
  have := rof_any 10 (by omega) (by omega) w1
  rwa [show (10 : Int) = ((10 : Nat) : Int) from rfl, nat_zI] at this
 have HT : Hid (∀ (i : Nat) w1, i < p → Calls Tryz.prog 32 #[.agg #[.bool false, .string (strOf (X * 10 ^ i))], .agg #[.bool false, .string (strOf 10)]] w1 fun e w' => e = .returned (.agg #[.bool false, .string (strOf (X * 10 ^ (i + 1)))]) ∧ Below w1.heap.size w1 w') := fun i w1 hi => by
  have := rtimes_any false false (strOf (X * 10 ^ i)) (strOf 10) w1 (Nat.le_trans (zF i (by omega)) (by omega)) (Nat.le_trans (strOf_lt (k := 1) (by omega)) (by omega))
  have e : ((X * 10 ^ i : Nat) : Int) * ((10 : Nat) : Int) = ((X * 10 ^ (i + 1) : Nat) : Int) := by rw [Nat.pow_succ, ← Nat.mul_assoc, Int.natCast_mul (X * 10 ^ i) 10]
  rw [nat_zOf (X * 10 ^ i), nat_zOf 10, e, nat_zI] at this
  exact this
 have HQ : Hid (∀ w1, Calls Tryz.prog 63 #[.agg #[.bool false, .string (strOf (X * 10 ^ p))], .agg #[.bool false, .string d]] w1 fun e w' => e = .returned (.tuple #[.agg #[.bool false, .string (strOf Q)], .agg #[.bool false, .string (strOf r)]]) ∧ Below w1.heap.size w1 w') := fun w1 => by
  have := rquo_any false false (strOf (X * 10 ^ p)) d w1 (Nat.le_trans (zF p (by omega)) (by omega)) (by omega) o.2.2.1
  rw [← hN] at this ⊢
  rw [nat_zOf, ed, ← Int.natCast_ediv, ← Int.natCast_emod, nat_zI, nat_zI, ← hQ, ← hr] at this
  exact this
 have HS : Hid (∀ w1, Calls Tryz.prog 49 #[.agg #[.bool false, .string (strOf r)], .agg #[.bool false, .string (strOf r)]] w1 fun e w' => e = .returned (.agg #[.bool false, .string (strOf (r + r))]) ∧ Below w1.heap.size w1 w') := fun w1 => by
  have := rsum_any false false (strOf r) (strOf r) w1 (Nat.le_trans (strOf_lt hrs) (by omega)) (Nat.le_trans (strOf_lt hrs) (by omega))
  rwa [nat_zOf, ← Int.natCast_add, nat_zI] at this
 have HO : Hid (∀ w1, Calls Tryz.prog 47 #[.agg #[.bool false, .string (strOf (r + r))], .agg #[.bool false, .string d]] w1 fun e w' => e = .returned (.int .i64 (cmpZ ((r + r : Nat) : Int) (D : Int))) ∧ Below w1.heap.size w1 w') := fun w1 => by
  have := rorder_any false false (strOf (r + r)) d w1 (okz_nat _) ⟨o.2.1, fun h => by cases h⟩ (Nat.le_trans (strOf_lt r2) (by omega)) (by omega)
  rwa [nat_zOf, ed] at this
 have HA : Hid (∀ w1, Calls Tryz.prog 31 #[.int .i64 1] w1 fun e w' => e = .returned (.agg #[.bool false, .string (strOf 1)]) ∧ Below w1.heap.size w1 w') := fun w1 => by
  have := rof_any 1 (by omega) (by omega) w1
  rwa [show (1 : Int) = ((1 : Nat) : Int) from rfl, nat_zI] at this
 have HM : Hid (rup N D = true → ∀ w1, Calls Tryz.prog 49 #[.agg #[.bool false, .string (strOf Q)], .agg #[.bool false, .string (strOf 1)]] w1 fun e w' => e = .returned (.agg #[.bool false, .string (strOf (rnat N D))]) ∧ Below w1.heap.size w1 w') := fun hu w1 => by
  have := rsum_any false false (strOf Q) (strOf 1) w1 (Nat.le_trans (strOf_lt hQs) (by omega)) (Nat.le_trans (strOf_lt (k := 1) (by omega)) (by omega))
  rw [nat_zOf, nat_zOf, ← Int.natCast_add, nat_zI] at this
  rwa [hM, if_pos hu]
 have HX : Hid (∀ w1, Calls Tryz.prog 59 #[.agg #[.bool false, .string (strOf (rnat N D))]] w1 fun e w' => e = .returned (.string (ptxt false (strOf (rnat N D)))) ∧ Below w1.heap.size w1 w') := fun w1 => rtext_loop false (strOf (rnat N D)) w1 (by omega) _ rfl
 have hc3 : cmpZ ((r + r : Nat) : Int) (D : Int) = 1 ∨ cmpZ ((r + r : Nat) : Int) (D : Int) = 0 ∨ cmpZ ((r + r : Nat) : Int) (D : Int) = -1 := by
  unfold cmpZ
  split
  ·exact Or.inr (Or.inr rfl)
  ·split
   ·exact Or.inl rfl
   ·exact Or.inr (Or.inl rfl)
 have hup : rup N D = (decide (cmpZ ((r + r : Nat) : Int) (D : Int) = 1) || (decide (cmpZ ((r + r : Nat) : Int) (D : Int) = 0) && decide (natOf (strOf Q) % 2 = 1))) := by
  unfold rup
  rw [← hr, ← hQ, natOf_strOf]
  congr 1
  ·rw [decide_eq_decide]
   unfold cmpZ
   split
   ·omega
   ·split <;> omega
  ·congr 1
   rw [decide_eq_decide]
   unfold cmpZ
   split
   ·omega
   ·split <;> omega
 exact rdec_walk n _ (rup N D) s d (strOf 10) (strOf Q) (strOf r) (strOf (r + r)) (strOf 1) (strOf (rnat N D)) (ptxt false (strOf (rnat N D))) (dfull (rnat N D) p) _ (fun i => strOf (X * 10 ^ i)) (fun j => (⟨(Lib.repeatL [48] j).toArray⟩ : ByteArray) ++ ptxt false (strOf (rnat N D))) p (p + 1 - (ptxt false (strOf (rnat N D))).size) hp _
  (by show strOf (X * 10 ^ 0) = s; rw [Nat.pow_zero, Nat.mul_one, hX, strOf_natOf o.1.1]) (Nat.le_trans (strOf_lt hQs) (by omega)) rfl hc3 hup w HF HT HQ HS HO HA HM (fun hu => by rw [hM, if_neg (by rw [hu]; decide)])
  (rep_zero _) (fun j => rep_succ j _) (fun j => by show _ = _; rw [app_size, rep_size]) (ptxt_size false _ (by omega)) rfl rfl (shut (by rw [hN])) HX
end Go.Proofs.YtdbnkcimcpnpdaaGreatDoor
