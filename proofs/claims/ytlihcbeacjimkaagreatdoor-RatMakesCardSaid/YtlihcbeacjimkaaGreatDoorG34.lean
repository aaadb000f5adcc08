/-
  Package rat: Print.
  Package rat: Decimal, walked.
  Package rat: Decimal without places, walked; its errors.
  Package rat: Decimal.
  gussetref03: Lowest where nothing is to be cut; Frac.
  gussetlaw03: live.
  gussetlaw03: small; how many bytes sums, differences, products and quotients have; what the calls tell, whatever they are handed.
-/
import Derived.Test.YtlihcbeacjimkaaGreatDoorG31
import Derived.Test.YtlihcbeacjimkaaGreatDoorG33
import Derived.Test.YtlihcbeacjimkaaGreatDoorG21
import Derived.Test.YtlihcbeacjimkaaGreatDoorG24
namespace Go.Proofs.YtlihcbeacjimkaaGreatDoor
open Go.RowKit Go.Shelf

set_option maxRecDepth 100000 in
set_option maxHeartbeats 4000000 in
theorem print_bad (n : Bool) (s d : ByteArray) (c : Int) (hc : ¬ c = 0) (w : World)
    (HC : Hid (∀ w1, Below w.heap.size w w1 → Calls Tryz.prog 21 #[.agg #[.bool n, .string s, .string d]] w1 fun e w' => e = .returned (.int .i64 c) ∧ Below w1.heap.size w1 w')) :
    Calls Tryz.prog 18 #[.agg #[.bool n, .string s, .string d]] w fun e w' => e = .returned (.tuple #[.string { data := #[] }, .int .i64 c]) ∧ Below w.heap.size w w' := by
  go_enter Tryz.func18, Tryz.ntmps18
  go_wp2_with fail
  go_fit (HC.out _ (ba (Below.refl _ _) _))
  rintro e w1 ⟨rfl, b1⟩
  obtain ⟨ka, b1⟩ := al1 b1
  have sz := b1.size
  have bb := b1
  clear b1
  have ta := ka.lt
  go_wp2
  go_ret2
  exact ⟨rfl, bb⟩
set_option maxRecDepth 100000 in
set_option maxHeartbeats 4000000 in
theorem print_one (n : Bool) (s d t : ByteArray) (w : World) (hd : (d.toList == [1]) = true)
    (HC : Hid (∀ w1, Below w.heap.size w w1 → Calls Tryz.prog 21 #[.agg #[.bool n, .string s, .string d]] w1 fun e w' => e = .returned (.int .i64 0) ∧ Below w1.heap.size w1 w'))
    (H1 : Hid (∀ w1, Below w.heap.size w w1 → Calls Tryz.prog 45 #[.agg #[.bool n, .string s]] w1 fun e w' => e = .returned (.tuple #[.string t, .int .i64 0]) ∧ Below w1.heap.size w1 w')) :
    Calls Tryz.prog 18 #[.agg #[.bool n, .string s, .string d]] w fun e w' => e = .returned (.tuple #[.string t, .int .i64 0]) ∧ Below w.heap.size w w' := by
  go_enter Tryz.func18, Tryz.ntmps18
  go_wp2_with fail
  go_fit (HC.out _ (ba (Below.refl _ _) _))
  rintro e w1 ⟨rfl, b1⟩
  obtain ⟨ka, b1⟩ := al1 b1
  have sz := b1.size
  have bb := b1
  clear b1
  have ta := ka.lt
  have ca_0 := cel3_0 ka
  have ca_1 := cel3_1 ka
  have ca_2 := cel3_2 ka
  go_wp2_with fail
  clear ca_0 ca_1 ca_2
  go_fit (H1.out _ bb)
  rintro e w2 ⟨rfl, b1⟩
  have sz := b1.size
  replace ka := ka.below b1
  replace bb := Below.after bb b1
  clear b1
  have ca_0 := cel3_0 ka
  have ca_1 := cel3_1 ka
  have ca_2 := cel3_2 ka
  go_wp2
  go_ret2
  exact ⟨rfl, bb⟩
set_option maxRecDepth 100000 in
set_option maxHeartbeats 4000000 in
theorem print_two (n : Bool) (s d t u : ByteArray) (w : World) (hd : (d.toList == [1]) = false) (ht : t.size ≤ 10000) (hu : u.size ≤ 10000)
    (HC : Hid (∀ w1, Below w.heap.size w w1 → Calls Tryz.prog 21 #[.agg #[.bool n, .string s, .string d]] w1 fun e w' => e = .returned (.int .i64 0) ∧ Below w1.heap.size w1 w'))
    (H1 : Hid (∀ w1, Below w.heap.size w w1 → Calls Tryz.prog 45 #[.agg #[.bool n, .string s]] w1 fun e w' => e = .returned (.tuple #[.string t, .int .i64 0]) ∧ Below w1.heap.size w1 w'))
    (H2 : Hid (∀ w1, Below w.heap.size w w1 → Calls Tryz.prog 45 #[.agg #[.bool false, .string d]] w1 fun e w' => e = .returned (.tuple #[.string u, .int .i64 0]) ∧ Below w1.heap.size w1 w')) :
    Calls Tryz.prog 18 #[.agg #[.bool n, .string s, .string d]] w fun e w' => e = .returned (.tuple #[.string ((t ++ ⟨#[47]⟩) ++ u), .int .i64 0]) ∧ Below w.heap.size w w' := by
  go_enter Tryz.func18, Tryz.ntmps18
  go_wp2_with fail
  go_fit (HC.out _ (ba (Below.refl _ _) _))
  rintro e w1 ⟨rfl, b1⟩
  obtain ⟨ka, b1⟩ := al1 b1
  have sz := b1.size
  have bb := b1
  clear b1
  have ta := ka.lt
  have ca_0 := cel3_0 ka
  have ca_1 := cel3_1 ka
  have ca_2 := cel3_2 ka
  go_wp2_with fail
  clear ca_0 ca_1 ca_2
  go_fit (H1.out _ bb)
  rintro e w2 ⟨rfl, b1⟩
  have sz := b1.size
  replace ka := ka.below b1
  replace bb := Below.after bb b1
  clear b1
  have ca_0 := cel3_0 ka
  have ca_1 := cel3_1 ka
  have ca_2 := cel3_2 ka
  go_wp2_with fail
  clear ca_0 ca_1 ca_2
  go_fit (den_any _ _ _ _)
  rintro e w3 ⟨rfl, b1⟩
  have sz := b1.size
  replace ka := ka.below b1
  replace bb := Below.after bb b1
  clear b1
  go_wp2_with fail
  go_fit (H2.out _ bb)
  rintro e w4 ⟨rfl, b1⟩
  have sz := b1.size
  replace ka := ka.below b1
  replace bb := Below.after bb b1
  clear b1
  go_wp2
  go_ret2
  exact ⟨rfl, bb⟩

/-- A whole number's text. -/
def ptxt (n : Bool) (s : ByteArray) : ByteArray := if dt (natOf s) = [] then ⟨#[48]⟩ else if n then strB (45 :: dt (natOf s)) else strB (dt (natOf s))
theorem ptxt_size (n : Bool) (s : ByteArray) (h : s.size ≤ 400) : (ptxt n s).size ≤ 1201 := by
  have := dt_size s 400 h
  unfold ptxt
  split
  · decide
  · split
    · rw [strB_size, List.length_cons]; omega
    · rw [strB_size]; omega
theorem pint (n : Bool) (s : ByteArray) (w : World) (hT : TabP w) (o : OkZ n s) (z : s.size ≤ 400) :
    Calls Tryz.prog 45 #[.agg #[.bool n, .string s]] w fun e w' => e = .returned (.tuple #[.string (ptxt n s), .int .i64 0]) ∧ Below w.heap.size w w' := print_any n s w hT o z _ rfl
theorem TabP.bel {w w' : World} (h : TabP w) (b : Below w.heap.size w w') : TabP w' := h.below b h.lt
/-- A rational number's text. -/
def qtxt (n : Bool) (s d : ByteArray) : ByteArray := if natOf d = 1 then ptxt n s else (ptxt n s ++ ⟨#[47]⟩) ++ ptxt false d
theorem qprint_ok (n : Bool) (s d : ByteArray) (w : World) (hT : Tab w) (hP : TabP w) (h : chkq n s d = 0) (zs : s.size ≤ 400) (zd : d.size ≤ 400) :
    Calls Tryz.prog 18 #[.agg #[.bool n, .string s, .string d]] w fun e w' => e = .returned (.tuple #[.string (qtxt n s d), .int .i64 0]) ∧ Below w.heap.size w w' := by
  obtain ⟨o, -, -⟩ := chkq_zero h
  have HC : Hid (∀ w1, Below w.heap.size w w1 → Calls Tryz.prog 21 #[.agg #[.bool n, .string s, .string d]] w1 fun e w' => e = .returned (.int .i64 0) ∧ Below w1.heap.size w1 w') := by
    intro w1 b
    have := rchk_any n s d w1 (hT.below b)
    rwa [h] at this
  unfold qtxt
  by_cases h1 : natOf d = 1
  · rw [if_pos h1]
    exact print_one n s d _ w (eq1 ((okS_one o.2.1).2 h1)) HC (fun w1 b => pint n s w1 (hP.bel b) o.1 zs)
  · rw [if_neg h1]
    exact print_two n s d _ _ w (ne1 fun e => h1 ((okS_one o.2.1).1 e)) (Nat.le_trans (ptxt_size n s zs) (by omega)) (Nat.le_trans (ptxt_size false d zd) (by omega)) HC (fun w1 b => pint n s w1 (hP.bel b) o.1 zs) (fun w1 b => pint false d w1 (hP.bel b) ⟨o.2.1, fun h => by cases h⟩ zd)
theorem qprint_bad (n : Bool) (s d : ByteArray) (w : World) (hT : Tab w) (h : chkq n s d ≠ 0) :
    Calls Tryz.prog 18 #[.agg #[.bool n, .string s, .string d]] w fun e w' => e = .returned (.tuple #[.string { data := #[] }, .int .i64 (chkq n s d : Nat)]) ∧ Below w.heap.size w w' :=
  print_bad n s d _ (by omega) w (fun w1 b => rchk_any n s d w1 (hT.below b))

end Go.Proofs.YtlihcbeacjimkaaGreatDoor
namespace Go.Proofs.YtlihcbeacjimkaaGreatDoor
open Go.RowKit Go.Shelf
set_option maxRecDepth 100000 in
set_option maxHeartbeats 8000000 in
theorem dec_pos (n pN xN : Bool) (s d pS xS mS t z T U V : ByteArray) (p k : Int) (q : Nat) (w : World) (hp0 : 0 < p) (hp1 : p ≤ 100) (hk : max (p + 1 - (t.size : Int)) 0 = k) (hz : z.size ≤ 10000) (ht : t.size ≤ 10000) (hTs : T.size ≤ 20000) (hq : (T.size : Int) - p = q) (hq1 : (q : Int) ≤ T.size) (hUs : U.size ≤ 20000) (hVs : V.size ≤ 20000)
    (HC : Hid (∀ w1, Below w.heap.size w w1 → Calls Tryz.prog 21 #[.agg #[.bool n, .string s, .string d]] w1 fun e w' => e = .returned (.int .i64 0) ∧ Below w1.heap.size w1 w'))
    (H1 : Hid (∀ w1, Calls Tryz.prog 47 #[.int .i64 p] w1 fun e w' => e = .returned (.agg #[.bool pN, .string pS]) ∧ Below w1.heap.size w1 w'))
    (H2 : Hid (∀ w1, Calls Tryz.prog 38 #[.agg #[.bool n, .string s], .agg #[.bool pN, .string pS]] w1 fun e w' => e = .returned (.agg #[.bool xN, .string xS]) ∧ Below w1.heap.size w1 w'))
    (H3 : Hid (∀ w1, Calls Tryz.prog 46 #[.agg #[.bool xN, .string xS], .agg #[.bool false, .string d]] w1 fun e w' => e = .returned (.agg #[.bool false, .string mS]) ∧ Below w1.heap.size w1 w'))
    (H4 : Hid (∀ w1, Below w.heap.size w w1 → Calls Tryz.prog 45 #[.agg #[.bool false, .string mS]] w1 fun e w' => e = .returned (.tuple #[.string t, .int .i64 0]) ∧ Below w1.heap.size w1 w'))
    (H5 : Hid (∀ w1, Calls Tryz.prog 48 #[.string ⟨#[48]⟩, .int .i64 k] w1 fun e w' => e = .returned (.string z) ∧ Below w1.heap.size w1 w'))
    (HT : Hid (z ++ t = T)) (HU : Hid (T.extract 0 q = U)) (HV : Hid (T.extract q T.size = V)) :
    Calls Tryz.prog 19 #[.agg #[.bool n, .string s, .string d], .int .i64 p] w fun e w' => e = .returned (.tuple #[.string ((U ++ ⟨#[46]⟩) ++ V), .int .i64 0]) ∧ Below w.heap.size w w' := by
  go_enter Tryz.func19, Tryz.ntmps19
  go_wp2_with fail
  go_fit (HC.out _ (ba (Below.refl _ _) _))
  rintro e w1 ⟨rfl, b1⟩
  obtain ⟨ka, b1⟩ := al1 b1
  have sz := b1.size
  have bb := b1
  clear b1
  have ta := ka.lt
  have ca_0 := cel3_0 ka
  have ca_1 := cel3_1 ka
  have ca_2 := cel3_2 ka
  go_wp2_with fail
  clear ca_0 ca_1 ca_2
  have mkS : ∀ w', Below w1.heap.size w1 w' → (Below w1.heap.size w1 w' ∧ w'.cell? ⟨w.heap.size, 0, none⟩ = some (.bool n) ∧ w'.cell? ⟨w.heap.size, 1, none⟩ = some (.string s) ∧ w'.cell? ⟨w.heap.size, 2, none⟩ = some (.string d)) := fun w' h => ⟨h, cel3_0 (ka.below h), cel3_1 (ka.below h), cel3_2 (ka.below h)⟩
  have bcS : ∀ w', (Below w1.heap.size w1 w' ∧ w'.cell? ⟨w.heap.size, 0, none⟩ = some (.bool n) ∧ w'.cell? ⟨w.heap.size, 1, none⟩ = some (.string s) ∧ w'.cell? ⟨w.heap.size, 2, none⟩ = some (.string d)) → Below w1.heap.size w1 w' := fun w' h => h.1
  replace mkS := shut mkS
  replace bcS := shut bcS
  go_cut [7] from 22 to 29 (fun v wx => ∃ gc, v = .pointer (some ⟨gc, 0, none⟩) ∧ w1.heap.size ≤ gc ∧ Cel wx gc [.bool false, .string mS] 24 ∧ Below w1.heap.size w1 wx)
  case first =>
    clear HC H4 H5
    refine wp_region_held_drew (S := (fun w' => Below w1.heap.size w1 w' ∧ w'.cell? ⟨w.heap.size, 0, none⟩ = some (.bool n) ∧ w'.cell? ⟨w.heap.size, 1, none⟩ = some (.string s) ∧ w'.cell? ⟨w.heap.size, 2, none⟩ = some (.string d))) (by kernel_rfl) (mkS.out _ (bdrew _)) (fun _ => ?_)
    refine absO 10 (by kernel_rfl) (fun ops q SP hops hq hSP => ?_)
    obtain ⟨fr, hfr⟩ : ∃ fr : Value → Value → Value → Value → Value → Act, fr = (fun x7 x25 x26 x28 x29 => { tmps := #[.agg #[.bool n, .string s, .string d], .int .i64 p, .pointer (some ⟨w.heap.size, 0, none⟩), undef, .string { data := #[] }, .int .i64 0, .int .i64 0, x7, undef, undef, undef, .agg #[.bool n, .string s, .string d], .int .i64 0, .int .i64 0, .bool false, undef, .int .i64 p, .bool (decide (p < 0)), .bool (decide (p < 0)), .int .i64 p, .bool (decide (100 < p)), .bool (decide (p < 0) || decide (100 < p)), .pointer (some ⟨w.heap.size, 0, none⟩), .agg #[.bool n, .string s], .int .i64 p, x25, x26, .agg #[.bool n, .string s, .string d], x28, x29, undef, undef, undef, undef, undef, undef, undef, undef, undef, undef, undef, undef, undef, undef, undef, undef, undef, undef, undef, undef, undef, undef, undef, undef, undef, undef, undef, undef, undef, undef, undef, undef, undef, undef, undef], defers := [] }) := ⟨_, rfl⟩
    have L4_0 : Hid (∀ (g0 : Nat) (w' : World) (hS : SP w') (k0 : Cel w' g0 [.bool false, .string { data := #[] }] 24) (h0 : w1.heap.size ≤ g0), wpAnyH Tryz.prog .any ops q SP 1 (ls 10 [0, 1, 2, 3, 4, 5, 6, 7, 8]) (fr (.pointer (some ⟨g0, 0, none⟩)) (.agg #[.bool pN, .string pS]) (.agg #[.bool xN, .string xS]) (.agg #[.bool false, .string d]) (.agg #[.bool false, .string mS])) w') := by
      subst hops hq hSP hfr
      intro g0 w' hS k0 h0
      have bc := bcS.out _ hS
      dsimp only
      have e0_0 := cel2_0' k0
      have f0_0 := Cel.frozen k0 0
      have e0_1 := cel2_1' k0
      have f0_1 := Cel.frozen k0 1
      refine rdy [9] (by kernel_rfl) ?_
      refine AllReadyH.cons (o := _) rfl (fun K hK => ?_) AllReadyH.nil
      simp only [List.getElem_toArray, List.getElem_cons_succ, List.getElem_cons_zero]
      go_simp
      try go_wp2_with fail
      clear e0_0 f0_0 e0_1 f0_1
      refine hK.out _ _ (mkS.out _ (bset (bset bc h0 0 (.bool false)) h0 1 (.string mS))) (fun hS => ?_)
      clear hK K
      replace k0 := (Cel.set (Cel.set k0 0 (.bool false)) 1 (.string mS))
      replace bc := (bset (bset bc h0 0 (.bool false)) h0 1 (.string mS))
      refine wpAnyH_done (by kernel_rfl) ?_ _
      go_wp2_with fail
      go_meet
      exact ⟨_, rfl, h0, k0, bc⟩
    have L4_ : Hid (∀ (w' : World) (hS : SP w'), wpAnyH Tryz.prog .any ops q SP 2 (ls 10 [0, 1, 2, 3, 4, 5, 6, 7]) (fr undef (.agg #[.bool pN, .string pS]) (.agg #[.bool xN, .string xS]) (.agg #[.bool false, .string d]) (.agg #[.bool false, .string mS])) w') := by
      subst hops hq hSP hfr
      intro w' hS
      have bc := bcS.out _ hS
      dsimp only
      refine rdy [8] (by kernel_rfl) ?_
      refine AllReadyH.cons (o := _) rfl (fun K hK => ?_) AllReadyH.nil
      · simp only [List.getElem_toArray, List.getElem_cons_succ, List.getElem_cons_zero]
        go_simp
        try go_wp2_with fail
        refine hK.out _ _ (mkS.out _ (ba bc _)) (fun hS => ?_)
        clear hK K
        exact lst (L4_0.out _ _ hS (Cel.new w' _ _) bc.size) (by kernel_rfl)
    have L3_0 : Hid (∀ (g0 : Nat) (w' : World) (hS : SP w') (k0 : Cel w' g0 [.bool false, .string { data := #[] }] 24) (h0 : w1.heap.size ≤ g0), wpAnyH Tryz.prog .any ops q SP 2 (ls 10 [0, 1, 2, 3, 4, 5, 6, 8]) (fr (.pointer (some ⟨g0, 0, none⟩)) (.agg #[.bool pN, .string pS]) (.agg #[.bool xN, .string xS]) (.agg #[.bool false, .string d]) undef) w') := by
      clear L4_
      subst hops hq hSP hfr
      intro g0 w' hS k0 h0
      have bc := bcS.out _ hS
      dsimp only
      refine rdy [7] (by kernel_rfl) ?_
      refine AllReadyH.cons (o := _) rfl (fun K hK => ?_) AllReadyH.nil
      · simp only [List.getElem_toArray, List.getElem_cons_succ, List.getElem_cons_zero]
        go_simp
        go_fit (H3.out _)
        rintro e wn ⟨rfl, bn⟩
        have bcn := Below.after bc bn
        try go_wp2_with fail
        refine hK.out _ _ (mkS.out _ bcn) (fun hS => ?_)
        clear hK K
        exact lst (L4_0.out g0 wn hS (k0.below bn) h0) (by kernel_rfl)
    have L3_ : Hid (∀ (w' : World) (hS : SP w'), wpAnyH Tryz.prog .any ops q SP 3 (ls 10 [0, 1, 2, 3, 4, 5, 6]) (fr undef (.agg #[.bool pN, .string pS]) (.agg #[.bool xN, .string xS]) (.agg #[.bool false, .string d]) undef) w') := by
      clear L4_0
      subst hops hq hSP hfr
      intro w' hS
      have bc := bcS.out _ hS
      dsimp only
      refine rdy [7, 8] (by kernel_rfl) ?_
      refine AllReadyH.cons (o := _) rfl (fun K hK => ?_) (AllReadyH.cons (o := _) rfl (fun K hK => ?_) AllReadyH.nil)
      · simp only [List.getElem_toArray, List.getElem_cons_succ, List.getElem_cons_zero]
        go_simp
        go_fit (H3.out _)
        rintro e wn ⟨rfl, bn⟩
        have bcn := Below.after bc bn
        try go_wp2_with fail
        refine hK.out _ _ (mkS.out _ bcn) (fun hS => ?_)
        clear hK K
        exact lst (L4_.out wn hS) (by kernel_rfl)
      · simp only [List.getElem_toArray, List.getElem_cons_succ, List.getElem_cons_zero]
        go_simp
        try go_wp2_with fail
        refine hK.out _ _ (mkS.out _ (ba bc _)) (fun hS => ?_)
        clear hK K
        exact lst (L3_0.out _ _ hS (Cel.new w' _ _) bc.size) (by kernel_rfl)
    have L2_0 : Hid (∀ (g0 : Nat) (w' : World) (hS : SP w') (k0 : Cel w' g0 [.bool false, .string { data := #[] }] 24) (h0 : w1.heap.size ≤ g0), wpAnyH Tryz.prog .any ops q SP 3 (ls 10 [0, 1, 2, 3, 4, 5, 8]) (fr (.pointer (some ⟨g0, 0, none⟩)) (.agg #[.bool pN, .string pS]) (.agg #[.bool xN, .string xS]) undef undef) w') := by
      clear L4_0 L4_ L3_
      subst hops hq hSP hfr
      intro g0 w' hS k0 h0
      have bc := bcS.out _ hS
      dsimp only
      refine rdy [6] (by kernel_rfl) ?_
      refine AllReadyH.cons (o := _) rfl (fun K hK => ?_) AllReadyH.nil
      · simp only [List.getElem_toArray, List.getElem_cons_succ, List.getElem_cons_zero]
        go_simp
        go_fit (den_any n s d _)
        rintro e wn ⟨rfl, bn⟩
        have bcn := Below.after bc bn
        try go_wp2_with fail
        refine hK.out _ _ (mkS.out _ bcn) (fun hS => ?_)
        clear hK K
        exact lst (L3_0.out g0 wn hS (k0.below bn) h0) (by kernel_rfl)
    have L2_ : Hid (∀ (w' : World) (hS : SP w'), wpAnyH Tryz.prog .any ops q SP 4 (ls 10 [0, 1, 2, 3, 4, 5]) (fr undef (.agg #[.bool pN, .string pS]) (.agg #[.bool xN, .string xS]) undef undef) w') := by
      clear L4_0 L4_ L3_0
      subst hops hq hSP hfr
      intro w' hS
      have bc := bcS.out _ hS
      dsimp only
      refine rdy [6, 8] (by kernel_rfl) ?_
      refine AllReadyH.cons (o := _) rfl (fun K hK => ?_) (AllReadyH.cons (o := _) rfl (fun K hK => ?_) AllReadyH.nil)
      · simp only [List.getElem_toArray, List.getElem_cons_succ, List.getElem_cons_zero]
        go_simp
        go_fit (den_any n s d _)
        rintro e wn ⟨rfl, bn⟩
        have bcn := Below.after bc bn
        try go_wp2_with fail
        refine hK.out _ _ (mkS.out _ bcn) (fun hS => ?_)
        clear hK K
        exact lst (L3_.out wn hS) (by kernel_rfl)
      · simp only [List.getElem_toArray, List.getElem_cons_succ, List.getElem_cons_zero]
        go_simp
        try go_wp2_with fail
        refine hK.out _ _ (mkS.out _ (ba bc _)) (fun hS => ?_)
        clear hK K
        exact lst (L2_0.out _ _ hS (Cel.new w' _ _) bc.size) (by kernel_rfl)
    have L1_0 : Hid (∀ (g0 : Nat) (w' : World) (hS : SP w') (k0 : Cel w' g0 [.bool false, .string { data := #[] }] 24) (h0 : w1.heap.size ≤ g0), wpAnyH Tryz.prog .any ops q SP 4 (ls 10 [0, 1, 2, 3, 5, 8]) (fr (.pointer (some ⟨g0, 0, none⟩)) (.agg #[.bool pN, .string pS]) undef undef undef) w') := by
      clear L4_0 L4_ L3_0 L3_ L2_
      subst hops hq hSP hfr
      intro g0 w' hS k0 h0
      have bc := bcS.out _ hS
      dsimp only
      refine rdy [4] (by kernel_rfl) ?_
      refine AllReadyH.cons (o := _) rfl (fun K hK => ?_) AllReadyH.nil
      · simp only [List.getElem_toArray, List.getElem_cons_succ, List.getElem_cons_zero]
        go_simp
        go_fit (H2.out _)
        rintro e wn ⟨rfl, bn⟩
        have bcn := Below.after bc bn
        try go_wp2_with fail
        refine hK.out _ _ (mkS.out _ bcn) (fun hS => ?_)
        clear hK K
        exact lst (L2_0.out g0 wn hS (k0.below bn) h0) (by kernel_rfl)
    have L1_ : Hid (∀ (w' : World) (hS : SP w'), wpAnyH Tryz.prog .any ops q SP 5 (ls 10 [0, 1, 2, 3, 5]) (fr undef (.agg #[.bool pN, .string pS]) undef undef undef) w') := by
      clear L4_0 L4_ L3_0 L3_ L2_0
      subst hops hq hSP hfr
      intro w' hS
      have bc := bcS.out _ hS
      dsimp only
      refine rdy [4, 8] (by kernel_rfl) ?_
      refine AllReadyH.cons (o := _) rfl (fun K hK => ?_) (AllReadyH.cons (o := _) rfl (fun K hK => ?_) AllReadyH.nil)
      · simp only [List.getElem_toArray, List.getElem_cons_succ, List.getElem_cons_zero]
        go_simp
        go_fit (H2.out _)
        rintro e wn ⟨rfl, bn⟩
        have bcn := Below.after bc bn
        try go_wp2_with fail
        refine hK.out _ _ (mkS.out _ bcn) (fun hS => ?_)
        clear hK K
        exact lst (L2_.out wn hS) (by kernel_rfl)
      · simp only [List.getElem_toArray, List.getElem_cons_succ, List.getElem_cons_zero]
        go_simp
        try go_wp2_with fail
        refine hK.out _ _ (mkS.out _ (ba bc _)) (fun hS => ?_)
        clear hK K
        exact lst (L1_0.out _ _ hS (Cel.new w' _ _) bc.size) (by kernel_rfl)
    have L0_0 : Hid (∀ (g0 : Nat) (w' : World) (hS : SP w') (k0 : Cel w' g0 [.bool false, .string { data := #[] }] 24) (h0 : w1.heap.size ≤ g0), wpAnyH Tryz.prog .any ops q SP 5 (ls 10 [0, 1, 2, 5, 8]) (fr (.pointer (some ⟨g0, 0, none⟩)) undef undef undef undef) w') := by
      clear L4_0 L4_ L3_0 L3_ L2_0 L2_ L1_
      subst hops hq hSP hfr
      intro g0 w' hS k0 h0
      have bc := bcS.out _ hS
      dsimp only
      refine rdy [3] (by kernel_rfl) ?_
      refine AllReadyH.cons (o := _) rfl (fun K hK => ?_) AllReadyH.nil
      · simp only [List.getElem_toArray, List.getElem_cons_succ, List.getElem_cons_zero]
        go_simp
        go_fit (H1.out _)
        rintro e wn ⟨rfl, bn⟩
        have bcn := Below.after bc bn
        try go_wp2_with fail
        refine hK.out _ _ (mkS.out _ bcn) (fun hS => ?_)
        clear hK K
        exact lst (L1_0.out g0 wn hS (k0.below bn) h0) (by kernel_rfl)
    have L0_ : Hid (∀ (w' : World) (hS : SP w'), wpAnyH Tryz.prog .any ops q SP 6 (ls 10 [0, 1, 2, 5]) (fr undef undef undef undef undef) w') := by
      clear L4_0 L4_ L3_0 L3_ L2_0 L2_ L1_0
      subst hops hq hSP hfr
      intro w' hS
      have bc := bcS.out _ hS
      dsimp only
      refine rdy [3, 8] (by kernel_rfl) ?_
      refine AllReadyH.cons (o := _) rfl (fun K hK => ?_) (AllReadyH.cons (o := _) rfl (fun K hK => ?_) AllReadyH.nil)
      · simp only [List.getElem_toArray, List.getElem_cons_succ, List.getElem_cons_zero]
        go_simp
        go_fit (H1.out _)
        rintro e wn ⟨rfl, bn⟩
        have bcn := Below.after bc bn
        try go_wp2_with fail
        refine hK.out _ _ (mkS.out _ bcn) (fun hS => ?_)
        clear hK K
        exact lst (L1_.out wn hS) (by kernel_rfl)
      · simp only [List.getElem_toArray, List.getElem_cons_succ, List.getElem_cons_zero]
        go_simp
        try go_wp2_with fail
        refine hK.out _ _ (mkS.out _ (ba bc _)) (fun hS => ?_)
        clear hK K
        exact lst (L0_0.out _ _ hS (Cel.new w' _ _) bc.size) (by kernel_rfl)
    clear L4_0 L4_ L3_0 L3_ L2_0 L2_ L1_0 L1_ L0_0
    subst hops hq hSP hfr
    refine wpAnyH_take (i := 0) (oi := _) (v := ?_) rfl (by kernel_rfl) (by kernel_rfl) (by kernel_rfl) (fun _ _ _ h => h) (Or.inl ⟨by rfl, ?_⟩) (by assumption) ?_
    rotate_left
    · (intro w hSw; (try dsimp only at hSw); go_simp; try with_reducible rfl)
    try simp only [Act.put, List.getElem_toArray, List.getElem_cons_zero, List.setIfInBounds_toArray, List.set_cons_zero, List.set_cons_succ]
    refine wpAnyH_take (i := 1) (oi := _) (v := ?_) rfl (by kernel_rfl) (by kernel_rfl) (by kernel_rfl) (fun _ _ _ h => h) (Or.inl ⟨by rfl, ?_⟩) (by assumption) ?_
    rotate_left
    · (intro w hSw; (try dsimp only at hSw); go_simp; try with_reducible rfl)
    try simp only [Act.put, List.getElem_toArray, List.getElem_cons_succ, List.getElem_cons_zero, List.setIfInBounds_toArray, List.set_cons_zero, List.set_cons_succ]
    refine wpAnyH_take (i := 2) (oi := _) (v := ?_) rfl (by kernel_rfl) (by kernel_rfl) (by kernel_rfl) (fun _ _ _ h => h) (Or.inl ⟨by rfl, ?_⟩) (by assumption) ?_
    rotate_left
    · (intro w hSw; (try dsimp only at hSw); go_simp; try with_reducible rfl)
    try simp only [Act.put, List.getElem_toArray, List.getElem_cons_succ, List.getElem_cons_zero, List.setIfInBounds_toArray, List.set_cons_zero, List.set_cons_succ]
    refine wpAnyH_take (i := 5) (oi := _) (v := ?_) rfl (by kernel_rfl) (by kernel_rfl) (by kernel_rfl) (fun _ _ _ h => h) (Or.inl ⟨by rfl, ?_⟩) (by assumption) ?_
    rotate_left
    · (intro w hSw; (try dsimp only at hSw); go_simp; try with_reducible rfl)
    try simp only [Act.put, List.getElem_toArray, List.getElem_cons_succ, List.getElem_cons_zero, List.setIfInBounds_toArray, List.set_cons_zero, List.set_cons_succ]
    exact lst (L0_.out _ (mkS.out _ (bdrew _))) (by kernel_rfl)
  case rest =>
  obtain ⟨gm, rfl, lm, km, b1⟩ := hcut
  clear mkS bcS
  have sz := b1.size
  replace ka := ka.below b1
  replace bb := Below.after bb b1
  clear b1
  have tm := km.lt
  have cm_0 := cel2_0' km
  have cm_1 := cel2_1' km
  go_wp2_with fail
  clear cm_0 cm_1
  go_fit (H4.out _ bb)
  rintro e w2 ⟨rfl, b1⟩
  have sz := b1.size
  replace ka := ka.below b1
  replace km := km.below b1
  replace bb := Below.after bb b1
  clear b1
  go_wp2_with fail
  go_fit (H5.out _)
  rintro e w3 ⟨rfl, b1⟩
  have sz := b1.size
  replace ka := ka.below b1
  replace km := km.below b1
  replace bb := Below.after bb b1
  clear b1
  have hT := HT.out
  have hU := HU.out
  have hV := HV.out
  have cm_0 := cel2_0' km
  have cm_1 := cel2_1' km
  go_wp2
  clear cm_0 cm_1
  clear hT
  refine wp_region_held_drew (S := (fun w' => True)) (by kernel_rfl) ?_ (fun hHeld => ?_)
  · trivial
  refine wpAnyH_take (i := 0) (oi := _) (v := ?_) rfl (by kernel_rfl) (by kernel_rfl) (by kernel_rfl) (fun _ _ _ h => h) (Or.inl ⟨by rfl, ?_⟩) (by assumption) ?_
  rotate_left
  · (intro w hSw; (try dsimp only at hSw); go_simp; try with_reducible rfl)
  try simp only [Act.put, List.getElem_toArray, List.getElem_cons_zero, List.setIfInBounds_toArray, List.set_cons_zero, List.set_cons_succ]
  refine wpAnyH_take (i := 1) (oi := _) (v := ?_) rfl (by kernel_rfl) (by kernel_rfl) (by kernel_rfl) (fun _ _ _ h => h) (Or.inl ⟨by rfl, ?_⟩) (by assumption) ?_
  rotate_left
  · (intro w hSw; (try dsimp only at hSw); go_simp; try with_reducible rfl)
  try simp only [Act.put, List.getElem_toArray, List.getElem_cons_succ, List.getElem_cons_zero, List.setIfInBounds_toArray, List.set_cons_zero, List.set_cons_succ]
  refine wpAnyH_take (i := 2) (oi := _) (v := ?_) rfl (by kernel_rfl) (by kernel_rfl) (by kernel_rfl) (fun _ _ _ h => h) (Or.inl ⟨by rfl, ?_⟩) (by assumption) ?_
  rotate_left
  · (intro w hSw; (try dsimp only at hSw); go_simp; try with_reducible rfl)
  try simp only [Act.put, List.getElem_toArray, List.getElem_cons_succ, List.getElem_cons_zero, List.setIfInBounds_toArray, List.set_cons_zero, List.set_cons_succ]
  refine wpAnyH_take (i := 4) (oi := _) (v := ?_) rfl (by kernel_rfl) (by kernel_rfl) (by kernel_rfl) (fun _ _ _ h => h) (Or.inl ⟨by rfl, ?_⟩) (by assumption) ?_
  rotate_left
  · (intro w hSw; (try dsimp only at hSw); go_simp; try with_reducible rfl)
  try simp only [Act.put, List.getElem_toArray, List.getElem_cons_succ, List.getElem_cons_zero, List.setIfInBounds_toArray, List.set_cons_zero, List.set_cons_succ]
  refine wpAnyH_take (i := 5) (oi := _) (v := ?_) rfl (by kernel_rfl) (by kernel_rfl) (by kernel_rfl) (fun _ _ _ h => h) (Or.inl ⟨by rfl, ?_⟩) (by assumption) ?_
  rotate_left
  · (intro w hSw; (try dsimp only at hSw); go_simp; try with_reducible rfl)
  try simp only [Act.put, List.getElem_toArray, List.getElem_cons_succ, List.getElem_cons_zero, List.setIfInBounds_toArray, List.set_cons_zero, List.set_cons_succ]
  refine wpAnyH_take (i := 6) (oi := _) (v := ?_) rfl (by kernel_rfl) (by kernel_rfl) (by kernel_rfl) (fun _ _ _ h => h) (Or.inl ⟨by rfl, ?_⟩) (by assumption) ?_
  rotate_left
  · (intro w hSw; (try dsimp only at hSw); go_simp; try with_reducible rfl)
  try simp only [Act.put, List.getElem_toArray, List.getElem_cons_succ, List.getElem_cons_zero, List.setIfInBounds_toArray, List.set_cons_zero, List.set_cons_succ]
  refine wpAnyH_ready (rs := [3]) (by kernel_rfl) (by simp) ?_
  refine AllReadyH.cons (o := _) rfl (fun K hK => ?_) AllReadyH.nil
  simp only [List.getElem_toArray, List.getElem_cons_succ, List.getElem_cons_zero]
  go_simp
  try go_wp2_with fail
  refine hK.out _ _ ?_ (fun hHeld => ?_)
  · trivial
  clear hK K
  refine wpAnyH_ready (rs := [7]) (by kernel_rfl) (by simp) ?_
  refine AllReadyH.cons (o := _) rfl (fun K hK => ?_) AllReadyH.nil
  simp only [List.getElem_toArray, List.getElem_cons_succ, List.getElem_cons_zero]
  go_simp
  try go_wp2_with fail
  refine hK.out _ _ ?_ (fun hHeld => ?_)
  · trivial
  clear hK K
  refine wpAnyH_take (i := 8) (oi := _) (v := ?_) rfl (by kernel_rfl) (by kernel_rfl) (by kernel_rfl) (fun _ _ _ h => h) (Or.inl ⟨by rfl, ?_⟩) (by assumption) ?_
  rotate_left
  · (intro w hSw; (try dsimp only at hSw); go_simp; try with_reducible rfl)
  try simp only [Act.put, List.getElem_toArray, List.getElem_cons_succ, List.getElem_cons_zero, List.setIfInBounds_toArray, List.set_cons_zero, List.set_cons_succ]
  refine wpAnyH_done (by kernel_rfl) ?_ _
  clear hU hV
  replace km := km.drew
  have cm_0 := cel2_0' km
  have cm_1 := cel2_1' km
  go_wp2
  go_ret2
  exact ⟨rfl, bb.drew⟩
set_option maxRecDepth 100000 in
set_option maxHeartbeats 8000000 in
theorem dec_neg (n pN xN : Bool) (s d pS xS mS t z T U V : ByteArray) (p k : Int) (q : Nat) (w : World) (hp0 : 0 < p) (hp1 : p ≤ 100) (hk : max (p + 1 - (t.size : Int)) 0 = k) (hz : z.size ≤ 10000) (ht : t.size ≤ 10000) (hTs : T.size ≤ 20000) (hq : (T.size : Int) - p = q) (hq1 : (q : Int) ≤ T.size) (hUs : U.size ≤ 20000) (hVs : V.size ≤ 20000)
    (HC : Hid (∀ w1, Below w.heap.size w w1 → Calls Tryz.prog 21 #[.agg #[.bool n, .string s, .string d]] w1 fun e w' => e = .returned (.int .i64 0) ∧ Below w1.heap.size w1 w'))
    (H1 : Hid (∀ w1, Calls Tryz.prog 47 #[.int .i64 p] w1 fun e w' => e = .returned (.agg #[.bool pN, .string pS]) ∧ Below w1.heap.size w1 w'))
    (H2 : Hid (∀ w1, Calls Tryz.prog 38 #[.agg #[.bool n, .string s], .agg #[.bool pN, .string pS]] w1 fun e w' => e = .returned (.agg #[.bool xN, .string xS]) ∧ Below w1.heap.size w1 w'))
    (H3 : Hid (∀ w1, Calls Tryz.prog 46 #[.agg #[.bool xN, .string xS], .agg #[.bool false, .string d]] w1 fun e w' => e = .returned (.agg #[.bool true, .string mS]) ∧ Below w1.heap.size w1 w'))
    (H4 : Hid (∀ w1, Below w.heap.size w w1 → Calls Tryz.prog 45 #[.agg #[.bool false, .string mS]] w1 fun e w' => e = .returned (.tuple #[.string t, .int .i64 0]) ∧ Below w1.heap.size w1 w'))
    (H5 : Hid (∀ w1, Calls Tryz.prog 48 #[.string ⟨#[48]⟩, .int .i64 k] w1 fun e w' => e = .returned (.string z) ∧ Below w1.heap.size w1 w'))
    (HT : Hid (z ++ t = T)) (HU : Hid (T.extract 0 q = U)) (HV : Hid (T.extract q T.size = V)) :
    Calls Tryz.prog 19 #[.agg #[.bool n, .string s, .string d], .int .i64 p] w fun e w' => e = .returned (.tuple #[.string (⟨#[45]⟩ ++ ((U ++ ⟨#[46]⟩) ++ V)), .int .i64 0]) ∧ Below w.heap.size w w' := by
  go_enter Tryz.func19, Tryz.ntmps19
  go_wp2_with fail
  go_fit (HC.out _ (ba (Below.refl _ _) _))
  rintro e w1 ⟨rfl, b1⟩
  obtain ⟨ka, b1⟩ := al1 b1
  have sz := b1.size
  have bb := b1
  clear b1
  have ta := ka.lt
  have ca_0 := cel3_0 ka
  have ca_1 := cel3_1 ka
  have ca_2 := cel3_2 ka
  go_wp2_with fail
  clear ca_0 ca_1 ca_2
  have mkS : ∀ w', Below w1.heap.size w1 w' → (Below w1.heap.size w1 w' ∧ w'.cell? ⟨w.heap.size, 0, none⟩ = some (.bool n) ∧ w'.cell? ⟨w.heap.size, 1, none⟩ = some (.string s) ∧ w'.cell? ⟨w.heap.size, 2, none⟩ = some (.string d)) := fun w' h => ⟨h, cel3_0 (ka.below h), cel3_1 (ka.below h), cel3_2 (ka.below h)⟩
  have bcS : ∀ w', (Below w1.heap.size w1 w' ∧ w'.cell? ⟨w.heap.size, 0, none⟩ = some (.bool n) ∧ w'.cell? ⟨w.heap.size, 1, none⟩ = some (.string s) ∧ w'.cell? ⟨w.heap.size, 2, none⟩ = some (.string d)) → Below w1.heap.size w1 w' := fun w' h => h.1
  replace mkS := shut mkS
  replace bcS := shut bcS
  go_cut [7] from 22 to 29 (fun v wx => ∃ gc, v = .pointer (some ⟨gc, 0, none⟩) ∧ w1.heap.size ≤ gc ∧ Cel wx gc [.bool true, .string mS] 24 ∧ Below w1.heap.size w1 wx)
  case first =>
    clear HC H4 H5
    refine wp_region_held_drew (S := (fun w' => Below w1.heap.size w1 w' ∧ w'.cell? ⟨w.heap.size, 0, none⟩ = some (.bool n) ∧ w'.cell? ⟨w.heap.size, 1, none⟩ = some (.string s) ∧ w'.cell? ⟨w.heap.size, 2, none⟩ = some (.string d))) (by kernel_rfl) (mkS.out _ (bdrew _)) (fun _ => ?_)
    refine absO 10 (by kernel_rfl) (fun ops q SP hops hq hSP => ?_)
    obtain ⟨fr, hfr⟩ : ∃ fr : Value → Value → Value → Value → Value → Act, fr = (fun x7 x25 x26 x28 x29 => { tmps := #[.agg #[.bool n, .string s, .string d], .int .i64 p, .pointer (some ⟨w.heap.size, 0, none⟩), undef, .string { data := #[] }, .int .i64 0, .int .i64 0, x7, undef, undef, undef, .agg #[.bool n, .string s, .string d], .int .i64 0, .int .i64 0, .bool false, undef, .int .i64 p, .bool (decide (p < 0)), .bool (decide (p < 0)), .int .i64 p, .bool (decide (100 < p)), .bool (decide (p < 0) || decide (100 < p)), .pointer (some ⟨w.heap.size, 0, none⟩), .agg #[.bool n, .string s], .int .i64 p, x25, x26, .agg #[.bool n, .string s, .string d], x28, x29, undef, undef, undef, undef, undef, undef, undef, undef, undef, undef, undef, undef, undef, undef, undef, undef, undef, undef, undef, undef, undef, undef, undef, undef, undef, undef, undef, undef, undef, undef, undef, undef, undef, undef, undef], defers := [] }) := ⟨_, rfl⟩
    have L4_0 : Hid (∀ (g0 : Nat) (w' : World) (hS : SP w') (k0 : Cel w' g0 [.bool false, .string { data := #[] }] 24) (h0 : w1.heap.size ≤ g0), wpAnyH Tryz.prog .any ops q SP 1 (ls 10 [0, 1, 2, 3, 4, 5, 6, 7, 8]) (fr (.pointer (some ⟨g0, 0, none⟩)) (.agg #[.bool pN, .string pS]) (.agg #[.bool xN, .string xS]) (.agg #[.bool false, .string d]) (.agg #[.bool true, .string mS])) w') := by
      subst hops hq hSP hfr
      intro g0 w' hS k0 h0
      have bc := bcS.out _ hS
      dsimp only
      have e0_0 := cel2_0' k0
      have f0_0 := Cel.frozen k0 0
      have e0_1 := cel2_1' k0
      have f0_1 := Cel.frozen k0 1
      refine rdy [9] (by kernel_rfl) ?_
      refine AllReadyH.cons (o := _) rfl (fun K hK => ?_) AllReadyH.nil
      simp only [List.getElem_toArray, List.getElem_cons_succ, List.getElem_cons_zero]
      go_simp
      try go_wp2_with fail
      clear e0_0 f0_0 e0_1 f0_1
      refine hK.out _ _ (mkS.out _ (bset (bset bc h0 0 (.bool true)) h0 1 (.string mS))) (fun hS => ?_)
      clear hK K
      replace k0 := (Cel.set (Cel.set k0 0 (.bool true)) 1 (.string mS))
      replace bc := (bset (bset bc h0 0 (.bool true)) h0 1 (.string mS))
      refine wpAnyH_done (by kernel_rfl) ?_ _
      go_wp2_with fail
      go_meet
      exact ⟨_, rfl, h0, k0, bc⟩
    have L4_ : Hid (∀ (w' : World) (hS : SP w'), wpAnyH Tryz.prog .any ops q SP 2 (ls 10 [0, 1, 2, 3, 4, 5, 6, 7]) (fr undef (.agg #[.bool pN, .string pS]) (.agg #[.bool xN, .string xS]) (.agg #[.bool false, .string d]) (.agg #[.bool true, .string mS])) w') := by
      subst hops hq hSP hfr
      intro w' hS
      have bc := bcS.out _ hS
      dsimp only
      refine rdy [8] (by kernel_rfl) ?_
      refine AllReadyH.cons (o := _) rfl (fun K hK => ?_) AllReadyH.nil
      · simp only [List.getElem_toArray, List.getElem_cons_succ, List.getElem_cons_zero]
        go_simp
        try go_wp2_with fail
        refine hK.out _ _ (mkS.out _ (ba bc _)) (fun hS => ?_)
        clear hK K
        exact lst (L4_0.out _ _ hS (Cel.new w' _ _) bc.size) (by kernel_rfl)
    have L3_0 : Hid (∀ (g0 : Nat) (w' : World) (hS : SP w') (k0 : Cel w' g0 [.bool false, .string { data := #[] }] 24) (h0 : w1.heap.size ≤ g0), wpAnyH Tryz.prog .any ops q SP 2 (ls 10 [0, 1, 2, 3, 4, 5, 6, 8]) (fr (.pointer (some ⟨g0, 0, none⟩)) (.agg #[.bool pN, .string pS]) (.agg #[.bool xN, .string xS]) (.agg #[.bool false, .string d]) undef) w') := by
      clear L4_
      subst hops hq hSP hfr
      intro g0 w' hS k0 h0
      have bc := bcS.out _ hS
      dsimp only
      refine rdy [7] (by kernel_rfl) ?_
      refine AllReadyH.cons (o := _) rfl (fun K hK => ?_) AllReadyH.nil
      · simp only [List.getElem_toArray, List.getElem_cons_succ, List.getElem_cons_zero]
        go_simp
        go_fit (H3.out _)
        rintro e wn ⟨rfl, bn⟩
        have bcn := Below.after bc bn
        try go_wp2_with fail
        refine hK.out _ _ (mkS.out _ bcn) (fun hS => ?_)
        clear hK K
        exact lst (L4_0.out g0 wn hS (k0.below bn) h0) (by kernel_rfl)
    have L3_ : Hid (∀ (w' : World) (hS : SP w'), wpAnyH Tryz.prog .any ops q SP 3 (ls 10 [0, 1, 2, 3, 4, 5, 6]) (fr undef (.agg #[.bool pN, .string pS]) (.agg #[.bool xN, .string xS]) (.agg #[.bool false, .string d]) undef) w') := by
      clear L4_0
      subst hops hq hSP hfr
      intro w' hS
      have bc := bcS.out _ hS
      dsimp only
      refine rdy [7, 8] (by kernel_rfl) ?_
      refine AllReadyH.cons (o := _) rfl (fun K hK => ?_) (AllReadyH.cons (o := _) rfl (fun K hK => ?_) AllReadyH.nil)
      · simp only [List.getElem_toArray, List.getElem_cons_succ, List.getElem_cons_zero]
        go_simp
        go_fit (H3.out _)
        rintro e wn ⟨rfl, bn⟩
        have bcn := Below.after bc bn
        try go_wp2_with fail
        refine hK.out _ _ (mkS.out _ bcn) (fun hS => ?_)
        clear hK K
        exact lst (L4_.out wn hS) (by kernel_rfl)
      · simp only [List.getElem_toArray, List.getElem_cons_succ, List.getElem_cons_zero]
        go_simp
        try go_wp2_with fail
        refine hK.out _ _ (mkS.out _ (ba bc _)) (fun hS => ?_)
        clear hK K
        exact lst (L3_0.out _ _ hS (Cel.new w' _ _) bc.size) (by kernel_rfl)
    have L2_0 : Hid (∀ (g0 : Nat) (w' : World) (hS : SP w') (k0 : Cel w' g0 [.bool false, .string { data := #[] }] 24) (h0 : w1.heap.size ≤ g0), wpAnyH Tryz.prog .any ops q SP 3 (ls 10 [0, 1, 2, 3, 4, 5, 8]) (fr (.pointer (some ⟨g0, 0, none⟩)) (.agg #[.bool pN, .string pS]) (.agg #[.bool xN, .string xS]) undef undef) w') := by
      clear L4_0 L4_ L3_
      subst hops hq hSP hfr
      intro g0 w' hS k0 h0
      have bc := bcS.out _ hS
      dsimp only
      refine rdy [6] (by kernel_rfl) ?_
      refine AllReadyH.cons (o := _) rfl (fun K hK => ?_) AllReadyH.nil
      · simp only [List.getElem_toArray, List.getElem_cons_succ, List.getElem_cons_zero]
        go_simp
        go_fit (den_any n s d _)
        rintro e wn ⟨rfl, bn⟩
        have bcn := Below.after bc bn
        try go_wp2_with fail
        refine hK.out _ _ (mkS.out _ bcn) (fun hS => ?_)
        clear hK K
        exact lst (L3_0.out g0 wn hS (k0.below bn) h0) (by kernel_rfl)
    have L2_ : Hid (∀ (w' : World) (hS : SP w'), wpAnyH Tryz.prog .any ops q SP 4 (ls 10 [0, 1, 2, 3, 4, 5]) (fr undef (.agg #[.bool pN, .string pS]) (.agg #[.bool xN, .string xS]) undef undef) w') := by
      clear L4_0 L4_ L3_0
      subst hops hq hSP hfr
      intro w' hS
      have bc := bcS.out _ hS
      dsimp only
      refine rdy [6, 8] (by kernel_rfl) ?_
      refine AllReadyH.cons (o := _) rfl (fun K hK => ?_) (AllReadyH.cons (o := _) rfl (fun K hK => ?_) AllReadyH.nil)
      · simp only [List.getElem_toArray, List.getElem_cons_succ, List.getElem_cons_zero]
        go_simp
        go_fit (den_any n s d _)
        rintro e wn ⟨rfl, bn⟩
        have bcn := Below.after bc bn
        try go_wp2_with fail
        refine hK.out _ _ (mkS.out _ bcn) (fun hS => ?_)
        clear hK K
        exact lst (L3_.out wn hS) (by kernel_rfl)
      · simp only [List.getElem_toArray, List.getElem_cons_succ, List.getElem_cons_zero]
        go_simp
        try go_wp2_with fail
        refine hK.out _ _ (mkS.out _ (ba bc _)) (fun hS => ?_)
        clear hK K
        exact lst (L2_0.out _ _ hS (Cel.new w' _ _) bc.size) (by kernel_rfl)
    have L1_0 : Hid (∀ (g0 : Nat) (w' : World) (hS : SP w') (k0 : Cel w' g0 [.bool false, .string { data := #[] }] 24) (h0 : w1.heap.size ≤ g0), wpAnyH Tryz.prog .any ops q SP 4 (ls 10 [0, 1, 2, 3, 5, 8]) (fr (.pointer (some ⟨g0, 0, none⟩)) (.agg #[.bool pN, .string pS]) undef undef undef) w') := by
      clear L4_0 L4_ L3_0 L3_ L2_
      subst hops hq hSP hfr
      intro g0 w' hS k0 h0
      have bc := bcS.out _ hS
      dsimp only
      refine rdy [4] (by kernel_rfl) ?_
      refine AllReadyH.cons (o := _) rfl (fun K hK => ?_) AllReadyH.nil
      · simp only [List.getElem_toArray, List.getElem_cons_succ, List.getElem_cons_zero]
        go_simp
        go_fit (H2.out _)
        rintro e wn ⟨rfl, bn⟩
        have bcn := Below.after bc bn
        try go_wp2_with fail
        refine hK.out _ _ (mkS.out _ bcn) (fun hS => ?_)
        clear hK K
        exact lst (L2_0.out g0 wn hS (k0.below bn) h0) (by kernel_rfl)
    have L1_ : Hid (∀ (w' : World) (hS : SP w'), wpAnyH Tryz.prog .any ops q SP 5 (ls 10 [0, 1, 2, 3, 5]) (fr undef (.agg #[.bool pN, .string pS]) undef undef undef) w') := by
      clear L4_0 L4_ L3_0 L3_ L2_0
      subst hops hq hSP hfr
      intro w' hS
      have bc := bcS.out _ hS
      dsimp only
      refine rdy [4, 8] (by kernel_rfl) ?_
      refine AllReadyH.cons (o := _) rfl (fun K hK => ?_) (AllReadyH.cons (o := _) rfl (fun K hK => ?_) AllReadyH.nil)
      · simp only [List.getElem_toArray, List.getElem_cons_succ, List.getElem_cons_zero]
        go_simp
        go_fit (H2.out _)
        rintro e wn ⟨rfl, bn⟩
        have bcn := Below.after bc bn
        try go_wp2_with fail
        refine hK.out _ _ (mkS.out _ bcn) (fun hS => ?_)
        clear hK K
        exact lst (L2_.out wn hS) (by kernel_rfl)
      · simp only [List.getElem_toArray, List.getElem_cons_succ, List.getElem_cons_zero]
        go_simp
        try go_wp2_with fail
        refine hK.out _ _ (mkS.out _ (ba bc _)) (fun hS => ?_)
        clear hK K
        exact lst (L1_0.out _ _ hS (Cel.new w' _ _) bc.size) (by kernel_rfl)
    have L0_0 : Hid (∀ (g0 : Nat) (w' : World) (hS : SP w') (k0 : Cel w' g0 [.bool false, .string { data := #[] }] 24) (h0 : w1.heap.size ≤ g0), wpAnyH Tryz.prog .any ops q SP 5 (ls 10 [0, 1, 2, 5, 8]) (fr (.pointer (some ⟨g0, 0, none⟩)) undef undef undef undef) w') := by
      clear L4_0 L4_ L3_0 L3_ L2_0 L2_ L1_
      subst hops hq hSP hfr
      intro g0 w' hS k0 h0
      have bc := bcS.out _ hS
      dsimp only
      refine rdy [3] (by kernel_rfl) ?_
      refine AllReadyH.cons (o := _) rfl (fun K hK => ?_) AllReadyH.nil
      · simp only [List.getElem_toArray, List.getElem_cons_succ, List.getElem_cons_zero]
        go_simp
        go_fit (H1.out _)
        rintro e wn ⟨rfl, bn⟩
        have bcn := Below.after bc bn
        try go_wp2_with fail
        refine hK.out _ _ (mkS.out _ bcn) (fun hS => ?_)
        clear hK K
        exact lst (L1_0.out g0 wn hS (k0.below bn) h0) (by kernel_rfl)
    have L0_ : Hid (∀ (w' : World) (hS : SP w'), wpAnyH Tryz.prog .any ops q SP 6 (ls 10 [0, 1, 2, 5]) (fr undef undef undef undef undef) w') := by
      clear L4_0 L4_ L3_0 L3_ L2_0 L2_ L1_0
      subst hops hq hSP hfr
      intro w' hS
      have bc := bcS.out _ hS
      dsimp only
      refine rdy [3, 8] (by kernel_rfl) ?_
      refine AllReadyH.cons (o := _) rfl (fun K hK => ?_) (AllReadyH.cons (o := _) rfl (fun K hK => ?_) AllReadyH.nil)
      · simp only [List.getElem_toArray, List.getElem_cons_succ, List.getElem_cons_zero]
        go_simp
        go_fit (H1.out _)
        rintro e wn ⟨rfl, bn⟩
        have bcn := Below.after bc bn
        try go_wp2_with fail
        refine hK.out _ _ (mkS.out _ bcn) (fun hS => ?_)
        clear hK K
        exact lst (L1_.out wn hS) (by kernel_rfl)
      · simp only [List.getElem_toArray, List.getElem_cons_succ, List.getElem_cons_zero]
        go_simp
        try go_wp2_with fail
        refine hK.out _ _ (mkS.out _ (ba bc _)) (fun hS => ?_)
        clear hK K
        exact lst (L0_0.out _ _ hS (Cel.new w' _ _) bc.size) (by kernel_rfl)
    clear L4_0 L4_ L3_0 L3_ L2_0 L2_ L1_0 L1_ L0_0
    subst hops hq hSP hfr
    refine wpAnyH_take (i := 0) (oi := _) (v := ?_) rfl (by kernel_rfl) (by kernel_rfl) (by kernel_rfl) (fun _ _ _ h => h) (Or.inl ⟨by rfl, ?_⟩) (by assumption) ?_
    rotate_left
    · (intro w hSw; (try dsimp only at hSw); go_simp; try with_reducible rfl)
    try simp only [Act.put, List.getElem_toArray, List.getElem_cons_zero, List.setIfInBounds_toArray, List.set_cons_zero, List.set_cons_succ]
    refine wpAnyH_take (i := 1) (oi := _) (v := ?_) rfl (by kernel_rfl) (by kernel_rfl) (by kernel_rfl) (fun _ _ _ h => h) (Or.inl ⟨by rfl, ?_⟩) (by assumption) ?_
    rotate_left
    · (intro w hSw; (try dsimp only at hSw); go_simp; try with_reducible rfl)
    try simp only [Act.put, List.getElem_toArray, List.getElem_cons_succ, List.getElem_cons_zero, List.setIfInBounds_toArray, List.set_cons_zero, List.set_cons_succ]
    refine wpAnyH_take (i := 2) (oi := _) (v := ?_) rfl (by kernel_rfl) (by kernel_rfl) (by kernel_rfl) (fun _ _ _ h => h) (Or.inl ⟨by rfl, ?_⟩) (by assumption) ?_
    rotate_left
    · (intro w hSw; (try dsimp only at hSw); go_simp; try with_reducible rfl)
    try simp only [Act.put, List.getElem_toArray, List.getElem_cons_succ, List.getElem_cons_zero, List.setIfInBounds_toArray, List.set_cons_zero, List.set_cons_succ]
    refine wpAnyH_take (i := 5) (oi := _) (v := ?_) rfl (by kernel_rfl) (by kernel_rfl) (by kernel_rfl) (fun _ _ _ h => h) (Or.inl ⟨by rfl, ?_⟩) (by assumption) ?_
    rotate_left
    · (intro w hSw; (try dsimp only at hSw); go_simp; try with_reducible rfl)
    try simp only [Act.put, List.getElem_toArray, List.getElem_cons_succ, List.getElem_cons_zero, List.setIfInBounds_toArray, List.set_cons_zero, List.set_cons_succ]
    exact lst (L0_.out _ (mkS.out _ (bdrew _))) (by kernel_rfl)
  case rest =>
  obtain ⟨gm, rfl, lm, km, b1⟩ := hcut
  clear mkS bcS
  have sz := b1.size
  replace ka := ka.below b1
  replace bb := Below.after bb b1
  clear b1
  have tm := km.lt
  have cm_0 := cel2_0' km
  have cm_1 := cel2_1' km
  go_wp2_with fail
  clear cm_0 cm_1
  go_fit (H4.out _ bb)
  rintro e w2 ⟨rfl, b1⟩
  have sz := b1.size
  replace ka := ka.below b1
  replace km := km.below b1
  replace bb := Below.after bb b1
  clear b1
  go_wp2_with fail
  go_fit (H5.out _)
  rintro e w3 ⟨rfl, b1⟩
  have sz := b1.size
  replace ka := ka.below b1
  replace km := km.below b1
  replace bb := Below.after bb b1
  clear b1
  have hT := HT.out
  have hU := HU.out
  have hV := HV.out
  have cm_0 := cel2_0' km
  have cm_1 := cel2_1' km
  go_wp2
  clear cm_0 cm_1
  clear hT
  refine wp_region_held_drew (S := (fun w' => True)) (by kernel_rfl) ?_ (fun hHeld => ?_)
  · trivial
  refine wpAnyH_take (i := 0) (oi := _) (v := ?_) rfl (by kernel_rfl) (by kernel_rfl) (by kernel_rfl) (fun _ _ _ h => h) (Or.inl ⟨by rfl, ?_⟩) (by assumption) ?_
  rotate_left
  · (intro w hSw; (try dsimp only at hSw); go_simp; try with_reducible rfl)
  try simp only [Act.put, List.getElem_toArray, List.getElem_cons_zero, List.setIfInBounds_toArray, List.set_cons_zero, List.set_cons_succ]
  refine wpAnyH_take (i := 1) (oi := _) (v := ?_) rfl (by kernel_rfl) (by kernel_rfl) (by kernel_rfl) (fun _ _ _ h => h) (Or.inl ⟨by rfl, ?_⟩) (by assumption) ?_
  rotate_left
  · (intro w hSw; (try dsimp only at hSw); go_simp; try with_reducible rfl)
  try simp only [Act.put, List.getElem_toArray, List.getElem_cons_succ, List.getElem_cons_zero, List.setIfInBounds_toArray, List.set_cons_zero, List.set_cons_succ]
  refine wpAnyH_take (i := 2) (oi := _) (v := ?_) rfl (by kernel_rfl) (by kernel_rfl) (by kernel_rfl) (fun _ _ _ h => h) (Or.inl ⟨by rfl, ?_⟩) (by assumption) ?_
  rotate_left
  · (intro w hSw; (try dsimp only at hSw); go_simp; try with_reducible rfl)
  try simp only [Act.put, List.getElem_toArray, List.getElem_cons_succ, List.getElem_cons_zero, List.setIfInBounds_toArray, List.set_cons_zero, List.set_cons_succ]
  refine wpAnyH_take (i := 4) (oi := _) (v := ?_) rfl (by kernel_rfl) (by kernel_rfl) (by kernel_rfl) (fun _ _ _ h => h) (Or.inl ⟨by rfl, ?_⟩) (by assumption) ?_
  rotate_left
  · (intro w hSw; (try dsimp only at hSw); go_simp; try with_reducible rfl)
  try simp only [Act.put, List.getElem_toArray, List.getElem_cons_succ, List.getElem_cons_zero, List.setIfInBounds_toArray, List.set_cons_zero, List.set_cons_succ]
  refine wpAnyH_take (i := 5) (oi := _) (v := ?_) rfl (by kernel_rfl) (by kernel_rfl) (by kernel_rfl) (fun _ _ _ h => h) (Or.inl ⟨by rfl, ?_⟩) (by assumption) ?_
  rotate_left
  · (intro w hSw; (try dsimp only at hSw); go_simp; try with_reducible rfl)
  try simp only [Act.put, List.getElem_toArray, List.getElem_cons_succ, List.getElem_cons_zero, List.setIfInBounds_toArray, List.set_cons_zero, List.set_cons_succ]
  refine wpAnyH_take (i := 6) (oi := _) (v := ?_) rfl (by kernel_rfl) (by kernel_rfl) (by kernel_rfl) (fun _ _ _ h => h) (Or.inl ⟨by rfl, ?_⟩) (by assumption) ?_
  rotate_left
  · (intro w hSw; (try dsimp only at hSw); go_simp; try with_reducible rfl)
  try simp only [Act.put, List.getElem_toArray, List.getElem_cons_succ, List.getElem_cons_zero, List.setIfInBounds_toArray, List.set_cons_zero, List.set_cons_succ]
  refine wpAnyH_ready (rs := [3]) (by kernel_rfl) (by simp) ?_
  refine AllReadyH.cons (o := _) rfl (fun K hK => ?_) AllReadyH.nil
  simp only [List.getElem_toArray, List.getElem_cons_succ, List.getElem_cons_zero]
  go_simp
  try go_wp2_with fail
  refine hK.out _ _ ?_ (fun hHeld => ?_)
  · trivial
  clear hK K
  refine wpAnyH_ready (rs := [7]) (by kernel_rfl) (by simp) ?_
  refine AllReadyH.cons (o := _) rfl (fun K hK => ?_) AllReadyH.nil
  simp only [List.getElem_toArray, List.getElem_cons_succ, List.getElem_cons_zero]
  go_simp
  try go_wp2_with fail
  refine hK.out _ _ ?_ (fun hHeld => ?_)
  · trivial
  clear hK K
  refine wpAnyH_take (i := 8) (oi := _) (v := ?_) rfl (by kernel_rfl) (by kernel_rfl) (by kernel_rfl) (fun _ _ _ h => h) (Or.inl ⟨by rfl, ?_⟩) (by assumption) ?_
  rotate_left
  · (intro w hSw; (try dsimp only at hSw); go_simp; try with_reducible rfl)
  try simp only [Act.put, List.getElem_toArray, List.getElem_cons_succ, List.getElem_cons_zero, List.setIfInBounds_toArray, List.set_cons_zero, List.set_cons_succ]
  refine wpAnyH_done (by kernel_rfl) ?_ _
  clear hU hV
  replace km := km.drew
  have cm_0 := cel2_0' km
  have cm_1 := cel2_1' km
  go_wp2
  go_ret2
  exact ⟨rfl, bb.drew⟩
end Go.Proofs.YtlihcbeacjimkaaGreatDoor
namespace Go.Proofs.YtlihcbeacjimkaaGreatDoor
open Go.RowKit Go.Shelf
set_option maxRecDepth 100000 in
set_option maxHeartbeats 8000000 in
theorem dec0_pos (n pN xN : Bool) (s d pS xS mS t z T : ByteArray) (k : Int) (w : World) (hk : max (1 - (t.size : Int)) 0 = k) (hz : z.size ≤ 10000) (ht : t.size ≤ 10000) (hTs : T.size ≤ 20000)
    (HC : Hid (∀ w1, Below w.heap.size w w1 → Calls Tryz.prog 21 #[.agg #[.bool n, .string s, .string d]] w1 fun e w' => e = .returned (.int .i64 0) ∧ Below w1.heap.size w1 w'))
    (H1 : Hid (∀ w1, Calls Tryz.prog 47 #[.int .i64 0] w1 fun e w' => e = .returned (.agg #[.bool pN, .string pS]) ∧ Below w1.heap.size w1 w'))
    (H2 : Hid (∀ w1, Calls Tryz.prog 38 #[.agg #[.bool n, .string s], .agg #[.bool pN, .string pS]] w1 fun e w' => e = .returned (.agg #[.bool xN, .string xS]) ∧ Below w1.heap.size w1 w'))
    (H3 : Hid (∀ w1, Calls Tryz.prog 46 #[.agg #[.bool xN, .string xS], .agg #[.bool false, .string d]] w1 fun e w' => e = .returned (.agg #[.bool false, .string mS]) ∧ Below w1.heap.size w1 w'))
    (H4 : Hid (∀ w1, Below w.heap.size w w1 → Calls Tryz.prog 45 #[.agg #[.bool false, .string mS]] w1 fun e w' => e = .returned (.tuple #[.string t, .int .i64 0]) ∧ Below w1.heap.size w1 w'))
    (H5 : Hid (∀ w1, Calls Tryz.prog 48 #[.string ⟨#[48]⟩, .int .i64 k] w1 fun e w' => e = .returned (.string z) ∧ Below w1.heap.size w1 w'))
    (HT : Hid (z ++ t = T)) :
    Calls Tryz.prog 19 #[.agg #[.bool n, .string s, .string d], .int .i64 0] w fun e w' => e = .returned (.tuple #[.string (T), .int .i64 0]) ∧ Below w.heap.size w w' := by
  go_enter Tryz.func19, Tryz.ntmps19
  go_wp2_with fail
  go_fit (HC.out _ (ba (Below.refl _ _) _))
  rintro e w1 ⟨rfl, b1⟩
  obtain ⟨ka, b1⟩ := al1 b1
  have sz := b1.size
  have bb := b1
  clear b1
  have ta := ka.lt
  have ca_0 := cel3_0 ka
  have ca_1 := cel3_1 ka
  have ca_2 := cel3_2 ka
  go_wp2_with fail
  clear ca_0 ca_1 ca_2
  have mkS : ∀ w', Below w1.heap.size w1 w' → (Below w1.heap.size w1 w' ∧ w'.cell? ⟨w.heap.size, 0, none⟩ = some (.bool n) ∧ w'.cell? ⟨w.heap.size, 1, none⟩ = some (.string s) ∧ w'.cell? ⟨w.heap.size, 2, none⟩ = some (.string d)) := fun w' h => ⟨h, cel3_0 (ka.below h), cel3_1 (ka.below h), cel3_2 (ka.below h)⟩
  have bcS : ∀ w', (Below w1.heap.size w1 w' ∧ w'.cell? ⟨w.heap.size, 0, none⟩ = some (.bool n) ∧ w'.cell? ⟨w.heap.size, 1, none⟩ = some (.string s) ∧ w'.cell? ⟨w.heap.size, 2, none⟩ = some (.string d)) → Below w1.heap.size w1 w' := fun w' h => h.1
  replace mkS := shut mkS
  replace bcS := shut bcS
  go_cut [7] from 22 to 29 (fun v wx => ∃ gc, v = .pointer (some ⟨gc, 0, none⟩) ∧ w1.heap.size ≤ gc ∧ Cel wx gc [.bool false, .string mS] 24 ∧ Below w1.heap.size w1 wx)
  case first =>
    clear HC H4 H5
    refine wp_region_held_drew (S := (fun w' => Below w1.heap.size w1 w' ∧ w'.cell? ⟨w.heap.size, 0, none⟩ = some (.bool n) ∧ w'.cell? ⟨w.heap.size, 1, none⟩ = some (.string s) ∧ w'.cell? ⟨w.heap.size, 2, none⟩ = some (.string d))) (by kernel_rfl) (mkS.out _ (bdrew _)) (fun _ => ?_)
    refine absO 10 (by kernel_rfl) (fun ops q SP hops hq hSP => ?_)
    obtain ⟨fr, hfr⟩ : ∃ fr : Value → Value → Value → Value → Value → Act, fr = (fun x7 x25 x26 x28 x29 => { tmps := #[.agg #[.bool n, .string s, .string d], .int .i64 0, .pointer (some ⟨w.heap.size, 0, none⟩), undef, .string { data := #[] }, .int .i64 0, .int .i64 0, x7, undef, undef, undef, .agg #[.bool n, .string s, .string d], .int .i64 0, .int .i64 0, .bool false, undef, .int .i64 0, .bool false, .bool false, .int .i64 0, .bool false, .bool false, .pointer (some ⟨w.heap.size, 0, none⟩), .agg #[.bool n, .string s], .int .i64 0, x25, x26, .agg #[.bool n, .string s, .string d], x28, x29, undef, undef, undef, undef, undef, undef, undef, undef, undef, undef, undef, undef, undef, undef, undef, undef, undef, undef, undef, undef, undef, undef, undef, undef, undef, undef, undef, undef, undef, undef, undef, undef, undef, undef, undef], defers := [] }) := ⟨_, rfl⟩
    have L4_0 : Hid (∀ (g0 : Nat) (w' : World) (hS : SP w') (k0 : Cel w' g0 [.bool false, .string { data := #[] }] 24) (h0 : w1.heap.size ≤ g0), wpAnyH Tryz.prog .any ops q SP 1 (ls 10 [0, 1, 2, 3, 4, 5, 6, 7, 8]) (fr (.pointer (some ⟨g0, 0, none⟩)) (.agg #[.bool pN, .string pS]) (.agg #[.bool xN, .string xS]) (.agg #[.bool false, .string d]) (.agg #[.bool false, .string mS])) w') := by
      subst hops hq hSP hfr
      intro g0 w' hS k0 h0
      have bc := bcS.out _ hS
      dsimp only
      have e0_0 := cel2_0' k0
      have f0_0 := Cel.frozen k0 0
      have e0_1 := cel2_1' k0
      have f0_1 := Cel.frozen k0 1
      refine rdy [9] (by kernel_rfl) ?_
      refine AllReadyH.cons (o := _) rfl (fun K hK => ?_) AllReadyH.nil
      simp only [List.getElem_toArray, List.getElem_cons_succ, List.getElem_cons_zero]
      go_simp
      try go_wp2_with fail
      clear e0_0 f0_0 e0_1 f0_1
      refine hK.out _ _ (mkS.out _ (bset (bset bc h0 0 (.bool false)) h0 1 (.string mS))) (fun hS => ?_)
      clear hK K
      replace k0 := (Cel.set (Cel.set k0 0 (.bool false)) 1 (.string mS))
      replace bc := (bset (bset bc h0 0 (.bool false)) h0 1 (.string mS))
      refine wpAnyH_done (by kernel_rfl) ?_ _
      go_wp2_with fail
      go_meet
      exact ⟨_, rfl, h0, k0, bc⟩
    have L4_ : Hid (∀ (w' : World) (hS : SP w'), wpAnyH Tryz.prog .any ops q SP 2 (ls 10 [0, 1, 2, 3, 4, 5, 6, 7]) (fr undef (.agg #[.bool pN, .string pS]) (.agg #[.bool xN, .string xS]) (.agg #[.bool false, .string d]) (.agg #[.bool false, .string mS])) w') := by
      subst hops hq hSP hfr
      intro w' hS
      have bc := bcS.out _ hS
      dsimp only
      refine rdy [8] (by kernel_rfl) ?_
      refine AllReadyH.cons (o := _) rfl (fun K hK => ?_) AllReadyH.nil
      · simp only [List.getElem_toArray, List.getElem_cons_succ, List.getElem_cons_zero]
        go_simp
        try go_wp2_with fail
        refine hK.out _ _ (mkS.out _ (ba bc _)) (fun hS => ?_)
        clear hK K
        exact lst (L4_0.out _ _ hS (Cel.new w' _ _) bc.size) (by kernel_rfl)
    have L3_0 : Hid (∀ (g0 : Nat) (w' : World) (hS : SP w') (k0 : Cel w' g0 [.bool false, .string { data := #[] }] 24) (h0 : w1.heap.size ≤ g0), wpAnyH Tryz.prog .any ops q SP 2 (ls 10 [0, 1, 2, 3, 4, 5, 6, 8]) (fr (.pointer (some ⟨g0, 0, none⟩)) (.agg #[.bool pN, .string pS]) (.agg #[.bool xN, .string xS]) (.agg #[.bool false, .string d]) undef) w') := by
      clear L4_
      subst hops hq hSP hfr
      intro g0 w' hS k0 h0
      have bc := bcS.out _ hS
      dsimp only
      refine rdy [7] (by kernel_rfl) ?_
      refine AllReadyH.cons (o := _) rfl (fun K hK => ?_) AllReadyH.nil
      · simp only [List.getElem_toArray, List.getElem_cons_succ, List.getElem_cons_zero]
        go_simp
        go_fit (H3.out _)
        rintro e wn ⟨rfl, bn⟩
        have bcn := Below.after bc bn
        try go_wp2_with fail
        refine hK.out _ _ (mkS.out _ bcn) (fun hS => ?_)
        clear hK K
        exact lst (L4_0.out g0 wn hS (k0.below bn) h0) (by kernel_rfl)
    have L3_ : Hid (∀ (w' : World) (hS : SP w'), wpAnyH Tryz.prog .any ops q SP 3 (ls 10 [0, 1, 2, 3, 4, 5, 6]) (fr undef (.agg #[.bool pN, .string pS]) (.agg #[.bool xN, .string xS]) (.agg #[.bool false, .string d]) undef) w') := by
      clear L4_0
      subst hops hq hSP hfr
      intro w' hS
      have bc := bcS.out _ hS
      dsimp only
      refine rdy [7, 8] (by kernel_rfl) ?_
      refine AllReadyH.cons (o := _) rfl (fun K hK => ?_) (AllReadyH.cons (o := _) rfl (fun K hK => ?_) AllReadyH.nil)
      · simp only [List.getElem_toArray, List.getElem_cons_succ, List.getElem_cons_zero]
        go_simp
        go_fit (H3.out _)
        rintro e wn ⟨rfl, bn⟩
        have bcn := Below.after bc bn
        try go_wp2_with fail
        refine hK.out _ _ (mkS.out _ bcn) (fun hS => ?_)
        clear hK K
        exact lst (L4_.out wn hS) (by kernel_rfl)
      · simp only [List.getElem_toArray, List.getElem_cons_succ, List.getElem_cons_zero]
        go_simp
        try go_wp2_with fail
        refine hK.out _ _ (mkS.out _ (ba bc _)) (fun hS => ?_)
        clear hK K
        exact lst (L3_0.out _ _ hS (Cel.new w' _ _) bc.size) (by kernel_rfl)
    have L2_0 : Hid (∀ (g0 : Nat) (w' : World) (hS : SP w') (k0 : Cel w' g0 [.bool false, .string { data := #[] }] 24) (h0 : w1.heap.size ≤ g0), wpAnyH Tryz.prog .any ops q SP 3 (ls 10 [0, 1, 2, 3, 4, 5, 8]) (fr (.pointer (some ⟨g0, 0, none⟩)) (.agg #[.bool pN, .string pS]) (.agg #[.bool xN, .string xS]) undef undef) w') := by
      clear L4_0 L4_ L3_
      subst hops hq hSP hfr
      intro g0 w' hS k0 h0
      have bc := bcS.out _ hS
      dsimp only
      refine rdy [6] (by kernel_rfl) ?_
      refine AllReadyH.cons (o := _) rfl (fun K hK => ?_) AllReadyH.nil
      · simp only [List.getElem_toArray, List.getElem_cons_succ, List.getElem_cons_zero]
        go_simp
        go_fit (den_any n s d _)
        rintro e wn ⟨rfl, bn⟩
        have bcn := Below.after bc bn
        try go_wp2_with fail
        refine hK.out _ _ (mkS.out _ bcn) (fun hS => ?_)
        clear hK K
        exact lst (L3_0.out g0 wn hS (k0.below bn) h0) (by kernel_rfl)
    have L2_ : Hid (∀ (w' : World) (hS : SP w'), wpAnyH Tryz.prog .any ops q SP 4 (ls 10 [0, 1, 2, 3, 4, 5]) (fr undef (.agg #[.bool pN, .string pS]) (.agg #[.bool xN, .string xS]) undef undef) w') := by
      clear L4_0 L4_ L3_0
      subst hops hq hSP hfr
      intro w' hS
      have bc := bcS.out _ hS
      dsimp only
      refine rdy [6, 8] (by kernel_rfl) ?_
      refine AllReadyH.cons (o := _) rfl (fun K hK => ?_) (AllReadyH.cons (o := _) rfl (fun K hK => ?_) AllReadyH.nil)
      · simp only [List.getElem_toArray, List.getElem_cons_succ, List.getElem_cons_zero]
        go_simp
        go_fit (den_any n s d _)
        rintro e wn ⟨rfl, bn⟩
        have bcn := Below.after bc bn
        try go_wp2_with fail
        refine hK.out _ _ (mkS.out _ bcn) (fun hS => ?_)
        clear hK K
        exact lst (L3_.out wn hS) (by kernel_rfl)
      · simp only [List.getElem_toArray, List.getElem_cons_succ, List.getElem_cons_zero]
        go_simp
        try go_wp2_with fail
        refine hK.out _ _ (mkS.out _ (ba bc _)) (fun hS => ?_)
        clear hK K
        exact lst (L2_0.out _ _ hS (Cel.new w' _ _) bc.size) (by kernel_rfl)
    have L1_0 : Hid (∀ (g0 : Nat) (w' : World) (hS : SP w') (k0 : Cel w' g0 [.bool false, .string { data := #[] }] 24) (h0 : w1.heap.size ≤ g0), wpAnyH Tryz.prog .any ops q SP 4 (ls 10 [0, 1, 2, 3, 5, 8]) (fr (.pointer (some ⟨g0, 0, none⟩)) (.agg #[.bool pN, .string pS]) undef undef undef) w') := by
      clear L4_0 L4_ L3_0 L3_ L2_
      subst hops hq hSP hfr
      intro g0 w' hS k0 h0
      have bc := bcS.out _ hS
      dsimp only
      refine rdy [4] (by kernel_rfl) ?_
      refine AllReadyH.cons (o := _) rfl (fun K hK => ?_) AllReadyH.nil
      · simp only [List.getElem_toArray, List.getElem_cons_succ, List.getElem_cons_zero]
        go_simp
        go_fit (H2.out _)
        rintro e wn ⟨rfl, bn⟩
        have bcn := Below.after bc bn
        try go_wp2_with fail
        refine hK.out _ _ (mkS.out _ bcn) (fun hS => ?_)
        clear hK K
        exact lst (L2_0.out g0 wn hS (k0.below bn) h0) (by kernel_rfl)
    have L1_ : Hid (∀ (w' : World) (hS : SP w'), wpAnyH Tryz.prog .any ops q SP 5 (ls 10 [0, 1, 2, 3, 5]) (fr undef (.agg #[.bool pN, .string pS]) undef undef undef) w') := by
      clear L4_0 L4_ L3_0 L3_ L2_0
      subst hops hq hSP hfr
      intro w' hS
      have bc := bcS.out _ hS
      dsimp only
      refine rdy [4, 8] (by kernel_rfl) ?_
      refine AllReadyH.cons (o := _) rfl (fun K hK => ?_) (AllReadyH.cons (o := _) rfl (fun K hK => ?_) AllReadyH.nil)
      · simp only [List.getElem_toArray, List.getElem_cons_succ, List.getElem_cons_zero]
        go_simp
        go_fit (H2.out _)
        rintro e wn ⟨rfl, bn⟩
        have bcn := Below.after bc bn
        try go_wp2_with fail
        refine hK.out _ _ (mkS.out _ bcn) (fun hS => ?_)
        clear hK K
        exact lst (L2_.out wn hS) (by kernel_rfl)
      · simp only [List.getElem_toArray, List.getElem_cons_succ, List.getElem_cons_zero]
        go_simp
        try go_wp2_with fail
        refine hK.out _ _ (mkS.out _ (ba bc _)) (fun hS => ?_)
        clear hK K
        exact lst (L1_0.out _ _ hS (Cel.new w' _ _) bc.size) (by kernel_rfl)
    have L0_0 : Hid (∀ (g0 : Nat) (w' : World) (hS : SP w') (k0 : Cel w' g0 [.bool false, .string { data := #[] }] 24) (h0 : w1.heap.size ≤ g0), wpAnyH Tryz.prog .any ops q SP 5 (ls 10 [0, 1, 2, 5, 8]) (fr (.pointer (some ⟨g0, 0, none⟩)) undef undef undef undef) w') := by
      clear L4_0 L4_ L3_0 L3_ L2_0 L2_ L1_
      subst hops hq hSP hfr
      intro g0 w' hS k0 h0
      have bc := bcS.out _ hS
      dsimp only
      refine rdy [3] (by kernel_rfl) ?_
      refine AllReadyH.cons (o := _) rfl (fun K hK => ?_) AllReadyH.nil
      · simp only [List.getElem_toArray, List.getElem_cons_succ, List.getElem_cons_zero]
        go_simp
        go_fit (H1.out _)
        rintro e wn ⟨rfl, bn⟩
        have bcn := Below.after bc bn
        try go_wp2_with fail
        refine hK.out _ _ (mkS.out _ bcn) (fun hS => ?_)
        clear hK K
        exact lst (L1_0.out g0 wn hS (k0.below bn) h0) (by kernel_rfl)
    have L0_ : Hid (∀ (w' : World) (hS : SP w'), wpAnyH Tryz.prog .any ops q SP 6 (ls 10 [0, 1, 2, 5]) (fr undef undef undef undef undef) w') := by
      clear L4_0 L4_ L3_0 L3_ L2_0 L2_ L1_0
      subst hops hq hSP hfr
      intro w' hS
      have bc := bcS.out _ hS
      dsimp only
      refine rdy [3, 8] (by kernel_rfl) ?_
      refine AllReadyH.cons (o := _) rfl (fun K hK => ?_) (AllReadyH.cons (o := _) rfl (fun K hK => ?_) AllReadyH.nil)
      · simp only [List.getElem_toArray, List.getElem_cons_succ, List.getElem_cons_zero]
        go_simp
        go_fit (H1.out _)
        rintro e wn ⟨rfl, bn⟩
        have bcn := Below.after bc bn
        try go_wp2_with fail
        refine hK.out _ _ (mkS.out _ bcn) (fun hS => ?_)
        clear hK K
        exact lst (L1_.out wn hS) (by kernel_rfl)
      · simp only [List.getElem_toArray, List.getElem_cons_succ, List.getElem_cons_zero]
        go_simp
        try go_wp2_with fail
        refine hK.out _ _ (mkS.out _ (ba bc _)) (fun hS => ?_)
        clear hK K
        exact lst (L0_0.out _ _ hS (Cel.new w' _ _) bc.size) (by kernel_rfl)
    clear L4_0 L4_ L3_0 L3_ L2_0 L2_ L1_0 L1_ L0_0
    subst hops hq hSP hfr
    refine wpAnyH_take (i := 0) (oi := _) (v := ?_) rfl (by kernel_rfl) (by kernel_rfl) (by kernel_rfl) (fun _ _ _ h => h) (Or.inl ⟨by rfl, ?_⟩) (by assumption) ?_
    rotate_left
    · (intro w hSw; (try dsimp only at hSw); go_simp; try with_reducible rfl)
    try simp only [Act.put, List.getElem_toArray, List.getElem_cons_zero, List.setIfInBounds_toArray, List.set_cons_zero, List.set_cons_succ]
    refine wpAnyH_take (i := 1) (oi := _) (v := ?_) rfl (by kernel_rfl) (by kernel_rfl) (by kernel_rfl) (fun _ _ _ h => h) (Or.inl ⟨by rfl, ?_⟩) (by assumption) ?_
    rotate_left
    · (intro w hSw; (try dsimp only at hSw); go_simp; try with_reducible rfl)
    try simp only [Act.put, List.getElem_toArray, List.getElem_cons_succ, List.getElem_cons_zero, List.setIfInBounds_toArray, List.set_cons_zero, List.set_cons_succ]
    refine wpAnyH_take (i := 2) (oi := _) (v := ?_) rfl (by kernel_rfl) (by kernel_rfl) (by kernel_rfl) (fun _ _ _ h => h) (Or.inl ⟨by rfl, ?_⟩) (by assumption) ?_
    rotate_left
    · (intro w hSw; (try dsimp only at hSw); go_simp; try with_reducible rfl)
    try simp only [Act.put, List.getElem_toArray, List.getElem_cons_succ, List.getElem_cons_zero, List.setIfInBounds_toArray, List.set_cons_zero, List.set_cons_succ]
    refine wpAnyH_take (i := 5) (oi := _) (v := ?_) rfl (by kernel_rfl) (by kernel_rfl) (by kernel_rfl) (fun _ _ _ h => h) (Or.inl ⟨by rfl, ?_⟩) (by assumption) ?_
    rotate_left
    · (intro w hSw; (try dsimp only at hSw); go_simp; try with_reducible rfl)
    try simp only [Act.put, List.getElem_toArray, List.getElem_cons_succ, List.getElem_cons_zero, List.setIfInBounds_toArray, List.set_cons_zero, List.set_cons_succ]
    exact lst (L0_.out _ (mkS.out _ (bdrew _))) (by kernel_rfl)
  case rest =>
  obtain ⟨gm, rfl, lm, km, b1⟩ := hcut
  clear mkS bcS
  have sz := b1.size
  replace ka := ka.below b1
  replace bb := Below.after bb b1
  clear b1
  have tm := km.lt
  have cm_0 := cel2_0' km
  have cm_1 := cel2_1' km
  go_wp2_with fail
  clear cm_0 cm_1
  go_fit (H4.out _ bb)
  rintro e w2 ⟨rfl, b1⟩
  have sz := b1.size
  replace ka := ka.below b1
  replace km := km.below b1
  replace bb := Below.after bb b1
  clear b1
  go_wp2_with fail
  go_fit (H5.out _)
  rintro e w3 ⟨rfl, b1⟩
  have sz := b1.size
  replace ka := ka.below b1
  replace km := km.below b1
  replace bb := Below.after bb b1
  clear b1
  have hT := HT.out
  have cm_0 := cel2_0' km
  have cm_1 := cel2_1' km
  go_wp2
  go_ret2
  exact ⟨rfl, bb⟩
set_option maxRecDepth 100000 in
set_option maxHeartbeats 8000000 in
theorem dec0_neg (n pN xN : Bool) (s d pS xS mS t z T : ByteArray) (k : Int) (w : World) (hk : max (1 - (t.size : Int)) 0 = k) (hz : z.size ≤ 10000) (ht : t.size ≤ 10000) (hTs : T.size ≤ 20000)
    (HC : Hid (∀ w1, Below w.heap.size w w1 → Calls Tryz.prog 21 #[.agg #[.bool n, .string s, .string d]] w1 fun e w' => e = .returned (.int .i64 0) ∧ Below w1.heap.size w1 w'))
    (H1 : Hid (∀ w1, Calls Tryz.prog 47 #[.int .i64 0] w1 fun e w' => e = .returned (.agg #[.bool pN, .string pS]) ∧ Below w1.heap.size w1 w'))
    (H2 : Hid (∀ w1, Calls Tryz.prog 38 #[.agg #[.bool n, .string s], .agg #[.bool pN, .string pS]] w1 fun e w' => e = .returned (.agg #[.bool xN, .string xS]) ∧ Below w1.heap.size w1 w'))
    (H3 : Hid (∀ w1, Calls Tryz.prog 46 #[.agg #[.bool xN, .string xS], .agg #[.bool false, .string d]] w1 fun e w' => e = .returned (.agg #[.bool true, .string mS]) ∧ Below w1.heap.size w1 w'))
    (H4 : Hid (∀ w1, Below w.heap.size w w1 → Calls Tryz.prog 45 #[.agg #[.bool false, .string mS]] w1 fun e w' => e = .returned (.tuple #[.string t, .int .i64 0]) ∧ Below w1.heap.size w1 w'))
    (H5 : Hid (∀ w1, Calls Tryz.prog 48 #[.string ⟨#[48]⟩, .int .i64 k] w1 fun e w' => e = .returned (.string z) ∧ Below w1.heap.size w1 w'))
    (HT : Hid (z ++ t = T)) :
    Calls Tryz.prog 19 #[.agg #[.bool n, .string s, .string d], .int .i64 0] w fun e w' => e = .returned (.tuple #[.string (⟨#[45]⟩ ++ T), .int .i64 0]) ∧ Below w.heap.size w w' := by
  go_enter Tryz.func19, Tryz.ntmps19
  go_wp2_with fail
  go_fit (HC.out _ (ba (Below.refl _ _) _))
  rintro e w1 ⟨rfl, b1⟩
  obtain ⟨ka, b1⟩ := al1 b1
  have sz := b1.size
  have bb := b1
  clear b1
  have ta := ka.lt
  have ca_0 := cel3_0 ka
  have ca_1 := cel3_1 ka
  have ca_2 := cel3_2 ka
  go_wp2_with fail
  clear ca_0 ca_1 ca_2
  have mkS : ∀ w', Below w1.heap.size w1 w' → (Below w1.heap.size w1 w' ∧ w'.cell? ⟨w.heap.size, 0, none⟩ = some (.bool n) ∧ w'.cell? ⟨w.heap.size, 1, none⟩ = some (.string s) ∧ w'.cell? ⟨w.heap.size, 2, none⟩ = some (.string d)) := fun w' h => ⟨h, cel3_0 (ka.below h), cel3_1 (ka.below h), cel3_2 (ka.below h)⟩
  have bcS : ∀ w', (Below w1.heap.size w1 w' ∧ w'.cell? ⟨w.heap.size, 0, none⟩ = some (.bool n) ∧ w'.cell? ⟨w.heap.size, 1, none⟩ = some (.string s) ∧ w'.cell? ⟨w.heap.size, 2, none⟩ = some (.string d)) → Below w1.heap.size w1 w' := fun w' h => h.1
  replace mkS := shut mkS
  replace bcS := shut bcS
  go_cut [7] from 22 to 29 (fun v wx => ∃ gc, v = .pointer (some ⟨gc, 0, none⟩) ∧ w1.heap.size ≤ gc ∧ Cel wx gc [.bool true, .string mS] 24 ∧ Below w1.heap.size w1 wx)
  case first =>
    clear HC H4 H5
    refine wp_region_held_drew (S := (fun w' => Below w1.heap.size w1 w' ∧ w'.cell? ⟨w.heap.size, 0, none⟩ = some (.bool n) ∧ w'.cell? ⟨w.heap.size, 1, none⟩ = some (.string s) ∧ w'.cell? ⟨w.heap.size, 2, none⟩ = some (.string d))) (by kernel_rfl) (mkS.out _ (bdrew _)) (fun _ => ?_)
    refine absO 10 (by kernel_rfl) (fun ops q SP hops hq hSP => ?_)
    obtain ⟨fr, hfr⟩ : ∃ fr : Value → Value → Value → Value → Value → Act, fr = (fun x7 x25 x26 x28 x29 => { tmps := #[.agg #[.bool n, .string s, .string d], .int .i64 0, .pointer (some ⟨w.heap.size, 0, none⟩), undef, .string { data := #[] }, .int .i64 0, .int .i64 0, x7, undef, undef, undef, .agg #[.bool n, .string s, .string d], .int .i64 0, .int .i64 0, .bool false, undef, .int .i64 0, .bool false, .bool false, .int .i64 0, .bool false, .bool false, .pointer (some ⟨w.heap.size, 0, none⟩), .agg #[.bool n, .string s], .int .i64 0, x25, x26, .agg #[.bool n, .string s, .string d], x28, x29, undef, undef, undef, undef, undef, undef, undef, undef, undef, undef, undef, undef, undef, undef, undef, undef, undef, undef, undef, undef, undef, undef, undef, undef, undef, undef, undef, undef, undef, undef, undef, undef, undef, undef, undef], defers := [] }) := ⟨_, rfl⟩
    have L4_0 : Hid (∀ (g0 : Nat) (w' : World) (hS : SP w') (k0 : Cel w' g0 [.bool false, .string { data := #[] }] 24) (h0 : w1.heap.size ≤ g0), wpAnyH Tryz.prog .any ops q SP 1 (ls 10 [0, 1, 2, 3, 4, 5, 6, 7, 8]) (fr (.pointer (some ⟨g0, 0, none⟩)) (.agg #[.bool pN, .string pS]) (.agg #[.bool xN, .string xS]) (.agg #[.bool false, .string d]) (.agg #[.bool true, .string mS])) w') := by
      subst hops hq hSP hfr
      intro g0 w' hS k0 h0
      have bc := bcS.out _ hS
      dsimp only
      have e0_0 := cel2_0' k0
      have f0_0 := Cel.frozen k0 0
      have e0_1 := cel2_1' k0
      have f0_1 := Cel.frozen k0 1
      refine rdy [9] (by kernel_rfl) ?_
      refine AllReadyH.cons (o := _) rfl (fun K hK => ?_) AllReadyH.nil
      simp only [List.getElem_toArray, List.getElem_cons_succ, List.getElem_cons_zero]
      go_simp
      try go_wp2_with fail
      clear e0_0 f0_0 e0_1 f0_1
      refine hK.out _ _ (mkS.out _ (bset (bset bc h0 0 (.bool true)) h0 1 (.string mS))) (fun hS => ?_)
      clear hK K
      replace k0 := (Cel.set (Cel.set k0 0 (.bool true)) 1 (.string mS))
      replace bc := (bset (bset bc h0 0 (.bool true)) h0 1 (.string mS))
      refine wpAnyH_done (by kernel_rfl) ?_ _
      go_wp2_with fail
      go_meet
      exact ⟨_, rfl, h0, k0, bc⟩
    have L4_ : Hid (∀ (w' : World) (hS : SP w'), wpAnyH Tryz.prog .any ops q SP 2 (ls 10 [0, 1, 2, 3, 4, 5, 6, 7]) (fr undef (.agg #[.bool pN, .string pS]) (.agg #[.bool xN, .string xS]) (.agg #[.bool false, .string d]) (.agg #[.bool true, .string mS])) w') := by
      subst hops hq hSP hfr
      intro w' hS
      have bc := bcS.out _ hS
      dsimp only
      refine rdy [8] (by kernel_rfl) ?_
      refine AllReadyH.cons (o := _) rfl (fun K hK => ?_) AllReadyH.nil
      · simp only [List.getElem_toArray, List.getElem_cons_succ, List.getElem_cons_zero]
        go_simp
        try go_wp2_with fail
        refine hK.out _ _ (mkS.out _ (ba bc _)) (fun hS => ?_)
        clear hK K
        exact lst (L4_0.out _ _ hS (Cel.new w' _ _) bc.size) (by kernel_rfl)
    have L3_0 : Hid (∀ (g0 : Nat) (w' : World) (hS : SP w') (k0 : Cel w' g0 [.bool false, .string { data := #[] }] 24) (h0 : w1.heap.size ≤ g0), wpAnyH Tryz.prog .any ops q SP 2 (ls 10 [0, 1, 2, 3, 4, 5, 6, 8]) (fr (.pointer (some ⟨g0, 0, none⟩)) (.agg #[.bool pN, .string pS]) (.agg #[.bool xN, .string xS]) (.agg #[.bool false, .string d]) undef) w') := by
      clear L4_
      subst hops hq hSP hfr
      intro g0 w' hS k0 h0
      have bc := bcS.out _ hS
      dsimp only
      refine rdy [7] (by kernel_rfl) ?_
      refine AllReadyH.cons (o := _) rfl (fun K hK => ?_) AllReadyH.nil
      · simp only [List.getElem_toArray, List.getElem_cons_succ, List.getElem_cons_zero]
        go_simp
        go_fit (H3.out _)
        rintro e wn ⟨rfl, bn⟩
        have bcn := Below.after bc bn
        try go_wp2_with fail
        refine hK.out _ _ (mkS.out _ bcn) (fun hS => ?_)
        clear hK K
        exact lst (L4_0.out g0 wn hS (k0.below bn) h0) (by kernel_rfl)
    have L3_ : Hid (∀ (w' : World) (hS : SP w'), wpAnyH Tryz.prog .any ops q SP 3 (ls 10 [0, 1, 2, 3, 4, 5, 6]) (fr undef (.agg #[.bool pN, .string pS]) (.agg #[.bool xN, .string xS]) (.agg #[.bool false, .string d]) undef) w') := by
      clear L4_0
      subst hops hq hSP hfr
      intro w' hS
      have bc := bcS.out _ hS
      dsimp only
      refine rdy [7, 8] (by kernel_rfl) ?_
      refine AllReadyH.cons (o := _) rfl (fun K hK => ?_) (AllReadyH.cons (o := _) rfl (fun K hK => ?_) AllReadyH.nil)
      · simp only [List.getElem_toArray, List.getElem_cons_succ, List.getElem_cons_zero]
        go_simp
        go_fit (H3.out _)
        rintro e wn ⟨rfl, bn⟩
        have bcn := Below.after bc bn
        try go_wp2_with fail
        refine hK.out _ _ (mkS.out _ bcn) (fun hS => ?_)
        clear hK K
        exact lst (L4_.out wn hS) (by kernel_rfl)
      · simp only [List.getElem_toArray, List.getElem_cons_succ, List.getElem_cons_zero]
        go_simp
        try go_wp2_with fail
        refine hK.out _ _ (mkS.out _ (ba bc _)) (fun hS => ?_)
        clear hK K
        exact lst (L3_0.out _ _ hS (Cel.new w' _ _) bc.size) (by kernel_rfl)
    have L2_0 : Hid (∀ (g0 : Nat) (w' : World) (hS : SP w') (k0 : Cel w' g0 [.bool false, .string { data := #[] }] 24) (h0 : w1.heap.size ≤ g0), wpAnyH Tryz.prog .any ops q SP 3 (ls 10 [0, 1, 2, 3, 4, 5, 8]) (fr (.pointer (some ⟨g0, 0, none⟩)) (.agg #[.bool pN, .string pS]) (.agg #[.bool xN, .string xS]) undef undef) w') := by
      clear L4_0 L4_ L3_
      subst hops hq hSP hfr
      intro g0 w' hS k0 h0
      have bc := bcS.out _ hS
      dsimp only
      refine rdy [6] (by kernel_rfl) ?_
      refine AllReadyH.cons (o := _) rfl (fun K hK => ?_) AllReadyH.nil
      · simp only [List.getElem_toArray, List.getElem_cons_succ, List.getElem_cons_zero]
        go_simp
        go_fit (den_any n s d _)
        rintro e wn ⟨rfl, bn⟩
        have bcn := Below.after bc bn
        try go_wp2_with fail
        refine hK.out _ _ (mkS.out _ bcn) (fun hS => ?_)
        clear hK K
        exact lst (L3_0.out g0 wn hS (k0.below bn) h0) (by kernel_rfl)
    have L2_ : Hid (∀ (w' : World) (hS : SP w'), wpAnyH Tryz.prog .any ops q SP 4 (ls 10 [0, 1, 2, 3, 4, 5]) (fr undef (.agg #[.bool pN, .string pS]) (.agg #[.bool xN, .string xS]) undef undef) w') := by
      clear L4_0 L4_ L3_0
      subst hops hq hSP hfr
      intro w' hS
      have bc := bcS.out _ hS
      dsimp only
      refine rdy [6, 8] (by kernel_rfl) ?_
      refine AllReadyH.cons (o := _) rfl (fun K hK => ?_) (AllReadyH.cons (o := _) rfl (fun K hK => ?_) AllReadyH.nil)
      · simp only [List.getElem_toArray, List.getElem_cons_succ, List.getElem_cons_zero]
        go_simp
        go_fit (den_any n s d _)
        rintro e wn ⟨rfl, bn⟩
        have bcn := Below.after bc bn
        try go_wp2_with fail
        refine hK.out _ _ (mkS.out _ bcn) (fun hS => ?_)
        clear hK K
        exact lst (L3_.out wn hS) (by kernel_rfl)
      · simp only [List.getElem_toArray, List.getElem_cons_succ, List.getElem_cons_zero]
        go_simp
        try go_wp2_with fail
        refine hK.out _ _ (mkS.out _ (ba bc _)) (fun hS => ?_)
        clear hK K
        exact lst (L2_0.out _ _ hS (Cel.new w' _ _) bc.size) (by kernel_rfl)
    have L1_0 : Hid (∀ (g0 : Nat) (w' : World) (hS : SP w') (k0 : Cel w' g0 [.bool false, .string { data := #[] }] 24) (h0 : w1.heap.size ≤ g0), wpAnyH Tryz.prog .any ops q SP 4 (ls 10 [0, 1, 2, 3, 5, 8]) (fr (.pointer (some ⟨g0, 0, none⟩)) (.agg #[.bool pN, .string pS]) undef undef undef) w') := by
      clear L4_0 L4_ L3_0 L3_ L2_
      subst hops hq hSP hfr
      intro g0 w' hS k0 h0
      have bc := bcS.out _ hS
      dsimp only
      refine rdy [4] (by kernel_rfl) ?_
      refine AllReadyH.cons (o := _) rfl (fun K hK => ?_) AllReadyH.nil
      · simp only [List.getElem_toArray, List.getElem_cons_succ, List.getElem_cons_zero]
        go_simp
        go_fit (H2.out _)
        rintro e wn ⟨rfl, bn⟩
        have bcn := Below.after bc bn
        try go_wp2_with fail
        refine hK.out _ _ (mkS.out _ bcn) (fun hS => ?_)
        clear hK K
        exact lst (L2_0.out g0 wn hS (k0.below bn) h0) (by kernel_rfl)
    have L1_ : Hid (∀ (w' : World) (hS : SP w'), wpAnyH Tryz.prog .any ops q SP 5 (ls 10 [0, 1, 2, 3, 5]) (fr undef (.agg #[.bool pN, .string pS]) undef undef undef) w') := by
      clear L4_0 L4_ L3_0 L3_ L2_0
      subst hops hq hSP hfr
      intro w' hS
      have bc := bcS.out _ hS
      dsimp only
      refine rdy [4, 8] (by kernel_rfl) ?_
      refine AllReadyH.cons (o := _) rfl (fun K hK => ?_) (AllReadyH.cons (o := _) rfl (fun K hK => ?_) AllReadyH.nil)
      · simp only [List.getElem_toArray, List.getElem_cons_succ, List.getElem_cons_zero]
        go_simp
        go_fit (H2.out _)
        rintro e wn ⟨rfl, bn⟩
        have bcn := Below.after bc bn
        try go_wp2_with fail
        refine hK.out _ _ (mkS.out _ bcn) (fun hS => ?_)
        clear hK K
        exact lst (L2_.out wn hS) (by kernel_rfl)
      · simp only [List.getElem_toArray, List.getElem_cons_succ, List.getElem_cons_zero]
        go_simp
        try go_wp2_with fail
        refine hK.out _ _ (mkS.out _ (ba bc _)) (fun hS => ?_)
        clear hK K
        exact lst (L1_0.out _ _ hS (Cel.new w' _ _) bc.size) (by kernel_rfl)
    have L0_0 : Hid (∀ (g0 : Nat) (w' : World) (hS : SP w') (k0 : Cel w' g0 [.bool false, .string { data := #[] }] 24) (h0 : w1.heap.size ≤ g0), wpAnyH Tryz.prog .any ops q SP 5 (ls 10 [0, 1, 2, 5, 8]) (fr (.pointer (some ⟨g0, 0, none⟩)) undef undef undef undef) w') := by
      clear L4_0 L4_ L3_0 L3_ L2_0 L2_ L1_
      subst hops hq hSP hfr
      intro g0 w' hS k0 h0
      have bc := bcS.out _ hS
      dsimp only
      refine rdy [3] (by kernel_rfl) ?_
      refine AllReadyH.cons (o := _) rfl (fun K hK => ?_) AllReadyH.nil
      · simp only [List.getElem_toArray, List.getElem_cons_succ, List.getElem_cons_zero]
        go_simp
        go_fit (H1.out _)
        rintro e wn ⟨rfl, bn⟩
        have bcn := Below.after bc bn
        try go_wp2_with fail
        refine hK.out _ _ (mkS.out _ bcn) (fun hS => ?_)
        clear hK K
        exact lst (L1_0.out g0 wn hS (k0.below bn) h0) (by kernel_rfl)
    have L0_ : Hid (∀ (w' : World) (hS : SP w'), wpAnyH Tryz.prog .any ops q SP 6 (ls 10 [0, 1, 2, 5]) (fr undef undef undef undef undef) w') := by
      clear L4_0 L4_ L3_0 L3_ L2_0 L2_ L1_0
      subst hops hq hSP hfr
      intro w' hS
      have bc := bcS.out _ hS
      dsimp only
      refine rdy [3, 8] (by kernel_rfl) ?_
      refine AllReadyH.cons (o := _) rfl (fun K hK => ?_) (AllReadyH.cons (o := _) rfl (fun K hK => ?_) AllReadyH.nil)
      · simp only [List.getElem_toArray, List.getElem_cons_succ, List.getElem_cons_zero]
        go_simp
        go_fit (H1.out _)
        rintro e wn ⟨rfl, bn⟩
        have bcn := Below.after bc bn
        try go_wp2_with fail
        refine hK.out _ _ (mkS.out _ bcn) (fun hS => ?_)
        clear hK K
        exact lst (L1_.out wn hS) (by kernel_rfl)
      · simp only [List.getElem_toArray, List.getElem_cons_succ, List.getElem_cons_zero]
        go_simp
        try go_wp2_with fail
        refine hK.out _ _ (mkS.out _ (ba bc _)) (fun hS => ?_)
        clear hK K
        exact lst (L0_0.out _ _ hS (Cel.new w' _ _) bc.size) (by kernel_rfl)
    clear L4_0 L4_ L3_0 L3_ L2_0 L2_ L1_0 L1_ L0_0
    subst hops hq hSP hfr
    refine wpAnyH_take (i := 0) (oi := _) (v := ?_) rfl (by kernel_rfl) (by kernel_rfl) (by kernel_rfl) (fun _ _ _ h => h) (Or.inl ⟨by rfl, ?_⟩) (by assumption) ?_
    rotate_left
    · (intro w hSw; (try dsimp only at hSw); go_simp; try with_reducible rfl)
    try simp only [Act.put, List.getElem_toArray, List.getElem_cons_zero, List.setIfInBounds_toArray, List.set_cons_zero, List.set_cons_succ]
    refine wpAnyH_take (i := 1) (oi := _) (v := ?_) rfl (by kernel_rfl) (by kernel_rfl) (by kernel_rfl) (fun _ _ _ h => h) (Or.inl ⟨by rfl, ?_⟩) (by assumption) ?_
    rotate_left
    · (intro w hSw; (try dsimp only at hSw); go_simp; try with_reducible rfl)
    try simp only [Act.put, List.getElem_toArray, List.getElem_cons_succ, List.getElem_cons_zero, List.setIfInBounds_toArray, List.set_cons_zero, List.set_cons_succ]
    refine wpAnyH_take (i := 2) (oi := _) (v := ?_) rfl (by kernel_rfl) (by kernel_rfl) (by kernel_rfl) (fun _ _ _ h => h) (Or.inl ⟨by rfl, ?_⟩) (by assumption) ?_
    rotate_left
    · (intro w hSw; (try dsimp only at hSw); go_simp; try with_reducible rfl)
    try simp only [Act.put, List.getElem_toArray, List.getElem_cons_succ, List.getElem_cons_zero, List.setIfInBounds_toArray, List.set_cons_zero, List.set_cons_succ]
    refine wpAnyH_take (i := 5) (oi := _) (v := ?_) rfl (by kernel_rfl) (by kernel_rfl) (by kernel_rfl) (fun _ _ _ h => h) (Or.inl ⟨by rfl, ?_⟩) (by assumption) ?_
    rotate_left
    · (intro w hSw; (try dsimp only at hSw); go_simp; try with_reducible rfl)
    try simp only [Act.put, List.getElem_toArray, List.getElem_cons_succ, List.getElem_cons_zero, List.setIfInBounds_toArray, List.set_cons_zero, List.set_cons_succ]
    exact lst (L0_.out _ (mkS.out _ (bdrew _))) (by kernel_rfl)
  case rest =>
  obtain ⟨gm, rfl, lm, km, b1⟩ := hcut
  clear mkS bcS
  have sz := b1.size
  replace ka := ka.below b1
  replace bb := Below.after bb b1
  clear b1
  have tm := km.lt
  have cm_0 := cel2_0' km
  have cm_1 := cel2_1' km
  go_wp2_with fail
  clear cm_0 cm_1
  go_fit (H4.out _ bb)
  rintro e w2 ⟨rfl, b1⟩
  have sz := b1.size
  replace ka := ka.below b1
  replace km := km.below b1
  replace bb := Below.after bb b1
  clear b1
  go_wp2_with fail
  go_fit (H5.out _)
  rintro e w3 ⟨rfl, b1⟩
  have sz := b1.size
  replace ka := ka.below b1
  replace km := km.below b1
  replace bb := Below.after bb b1
  clear b1
  have hT := HT.out
  have cm_0 := cel2_0' km
  have cm_1 := cel2_1' km
  go_wp2
  go_ret2
  exact ⟨rfl, bb⟩
set_option maxRecDepth 100000 in
set_option maxHeartbeats 8000000 in
theorem dec_bad (n : Bool) (s d : ByteArray) (p c : Int) (hc : ¬ c = 0) (w : World)
    (HC : Hid (∀ w1, Below w.heap.size w w1 → Calls Tryz.prog 21 #[.agg #[.bool n, .string s, .string d]] w1 fun e w' => e = .returned (.int .i64 c) ∧ Below w1.heap.size w1 w')) :
    Calls Tryz.prog 19 #[.agg #[.bool n, .string s, .string d], .int .i64 p] w fun e w' => e = .returned (.tuple #[.string { data := #[] }, .int .i64 c]) ∧ Below w.heap.size w w' := by
  go_enter Tryz.func19, Tryz.ntmps19
  go_wp2_with fail
  go_fit (HC.out _ (ba (Below.refl _ _) _))
  rintro e w1 ⟨rfl, b1⟩
  obtain ⟨ka, b1⟩ := al1 b1
  have sz := b1.size
  have bb := b1
  clear b1
  have ta := ka.lt
  go_wp2
  go_ret2
  exact ⟨rfl, bb⟩
end Go.Proofs.YtlihcbeacjimkaaGreatDoor
namespace Go.Proofs.YtlihcbeacjimkaaGreatDoor
open Go.RowKit Go.Shelf

/-- The digits of a number, as many noughts ahead as places want. -/
def dfull (M : Nat) (p : Nat) : ByteArray := (⟨(Lib.repeatL [48] (p + 1 - (ptxt false (strOf M)).size)).toArray⟩ : ByteArray) ++ ptxt false (strOf M)
/-- With its point. -/
def dpoint (T : ByteArray) (p : Nat) : ByteArray := if p = 0 then T else (T.extract 0 (T.size - p) ++ ⟨#[46]⟩) ++ T.extract (T.size - p) T.size
/-- With its sign. -/
def dtxt (M : Int) (p : Nat) : ByteArray := if M < 0 then ⟨#[45]⟩ ++ dpoint (dfull M.natAbs p) p else dpoint (dfull M.natAbs p) p
theorem bd_one (k : Nat) (hk : 0 < k) : Bd (1 : Int) k := by
  unfold Bd
  exact Nat.one_lt_pow (by omega) (by omega)
theorem bd_rnd {n : Int} {k : Nat} (d : Nat) (hk : 0 < k) (h : Bd n k) : Bd (rnd n d) (k + 1) := by
  have hq : Bd (n / (d : Int)) k := h.le (Int.natAbs_ediv_le_natAbs n d)
  unfold rnd
  split
  · exact hq.add (bd_one k hk)
  · exact hq.mono (by omega)
theorem app_size (a b : ByteArray) : (a ++ b).size = a.size + b.size := by simp
theorem ext_size (T : ByteArray) (i j : Nat) : (T.extract i j).size ≤ T.size := by
  rw [ByteArray.size_extract]
  omega
theorem qdec_ok (n : Bool) (s d : ByteArray) (p : Nat) (w : World) (hT : Tab w) (hP : TabP w) (h : chkq n s d = 0) (hp : p ≤ 100) {K : Nat} (hK : K ≤ 250) (zs : s.size ≤ K) (zd : d.size ≤ K) :
    Calls Tryz.prog 19 #[.agg #[.bool n, .string s, .string d], .int .i64 (p : Nat)] w fun e w' => e = .returned (.tuple #[.string (dtxt (rnd (zOf n s * ((10 ^ p : Nat) : Int)) (natOf d)) p), .int .i64 0]) ∧ Below w.heap.size w w' := by
  obtain ⟨nf, sf, hf, hok, hsz, hz, hnat, hneg, hstr, hnn, hfn⟩ := named0
  obtain ⟨o, -, -⟩ := chkq_zero h
  obtain ⟨X, hX⟩ : ∃ X, X = zOf n s * ((10 ^ p : Nat) : Int) := ⟨_, rfl⟩
  obtain ⟨M, hM⟩ : ∃ M, M = rnd X (natOf d) := ⟨_, rfl⟩
  have b10 : Bd ((10 ^ p : Nat) : Int) (p + 1) := by
    unfold Bd
    rw [Int.natAbs_natCast]
    exact Nat.lt_of_le_of_lt (Nat.pow_le_pow_left (by omega) p) (Nat.pow_lt_pow_right (by omega) (by omega))
  have bX : Bd X (K + (p + 1)) := by rw [hX]; exact (bd_zOf zs).mul b10
  have bM : Bd M (K + (p + 1) + 1) := by rw [hM]; exact bd_rnd _ (by omega) bX
  have HC : Hid (∀ w1, Below w.heap.size w w1 → Calls Tryz.prog 21 #[.agg #[.bool n, .string s, .string d]] w1 fun e w' => e = .returned (.int .i64 0) ∧ Below w1.heap.size w1 w') := by
    intro w1 b
    have := rchk_any n s d w1 (hT.below b)
    rwa [h] at this
  have H1 : Hid (∀ w1, Calls Tryz.prog 47 #[.int .i64 (p : Nat)] w1 fun e w' => e = .returned (.agg #[.bool false, .string (sf ((10 ^ p : Nat) : Int))]) ∧ Below w1.heap.size w1 w') := by
    intro w1
    have := power_ok p hp w1
    rwa [hfn] at this
  have H2 : Hid (∀ w1, Calls Tryz.prog 38 #[.agg #[.bool n, .string s], .agg #[.bool false, .string (sf ((10 ^ p : Nat) : Int))]] w1 fun e w' => e = .returned (.agg #[.bool (nf X), .string (sf X)]) ∧ Below w1.heap.size w1 w') := by
    intro w1
    have := times_ok n false s (sf ((10 ^ p : Nat) : Int)) w1 o.1 ⟨(hok _).1, fun h => by cases h⟩ (by omega) (Nat.le_trans (hsz _ _ b10) (by omega))
    rwa [zOf_false, hnn, ← hX, hf] at this
  have H3 : Hid (∀ w1, Calls Tryz.prog 46 #[.agg #[.bool (nf X), .string (sf X)], .agg #[.bool false, .string d]] w1 fun e w' => e = .returned (.agg #[.bool (nf M), .string (strOf M.natAbs)]) ∧ Below w1.heap.size w1 w') := by
    intro w1
    have := rounded_ok (nf X) (sf X) d w1 (hok X) o.2.1 (K := K + (p + 1)) (by omega) (hsz _ _ bX) (by omega) o.2.2.1
    rw [hz, ← hM, hf] at this
    have e : sf M = strOf M.natAbs := by rw [← strOf_natOf (hok M).1, hnat]
    rwa [e] at this
  have bm : (strOf M.natAbs).size ≤ 400 := Nat.le_trans bM.size (by omega)
  obtain ⟨t, ht⟩ : ∃ t, t = ptxt false (strOf M.natAbs) := ⟨_, rfl⟩
  have H4 : Hid (∀ w1, Below w.heap.size w w1 → Calls Tryz.prog 45 #[.agg #[.bool false, .string (strOf M.natAbs)]] w1 fun e w' => e = .returned (.tuple #[.string t, .int .i64 0]) ∧ Below w1.heap.size w1 w') := by
    intro w1 b
    rw [ht]
    exact pint false _ w1 (hP.bel b) ⟨okS_strOf _, fun h => by cases h⟩ bm
  have st : t.size ≤ 1201 := by rw [ht]; exact ptxt_size false _ bm
  obtain ⟨k, hk⟩ : ∃ k, k = p + 1 - t.size := ⟨_, rfl⟩
  have H5 : Hid (∀ w1, Calls Tryz.prog 48 #[.string ⟨#[48]⟩, .int .i64 ((k : Nat) : Int)] w1 fun e w' => e = .returned (.string ⟨(Lib.repeatL [48] k).toArray⟩) ∧ Below w1.heap.size w1 w') := fun w1 => rep_ok k (by omega) w1
  obtain ⟨T, hTT⟩ : ∃ T, (⟨(Lib.repeatL [48] k).toArray⟩ : ByteArray) ++ t = T := ⟨_, rfl⟩
  have eT : dfull M.natAbs p = T := by unfold dfull; rw [← ht, ← hk]; exact hTT
  have sT : T.size = k + t.size := by rw [← hTT, app_size, rep_size]
  have hkk : max ((p : Int) + 1 - (t.size : Int)) 0 = (k : Int) := by omega
  have eneg : nf M = decide (M < 0) := by
    have := zOf_zI M
    have e1 := hf M
    unfold zI zV at e1
    simp only [Value.agg.injEq] at e1
    have e' : [Value.bool (decide (M < 0)), .string (strOf M.natAbs)] = [.bool (nf M), .string (sf M)] := congrArg Array.toList e1
    simp only [List.cons.injEq, Value.bool.injEq] at e'
    exact e'.1.symm
  rw [← hX, ← hM]
  unfold dtxt
  rw [eT]
  unfold dpoint
  by_cases p0 : p = 0
  · subst p0
    rw [if_pos rfl]
    by_cases hm : M < 0
    · rw [if_pos hm]
      rw [eneg, decide_eq_true hm] at H3
      exact dec0_neg n false (nf X) s d _ (sf X) _ t _ T (k : Int) w (by omega) (by rw [rep_size]; omega) (by omega) (by omega) HC H1 H2 H3 H4 H5 (shut hTT)
    · rw [if_neg hm]
      rw [eneg, decide_eq_false hm] at H3
      exact dec0_pos n false (nf X) s d _ (sf X) _ t _ T (k : Int) w (by omega) (by rw [rep_size]; omega) (by omega) (by omega) HC H1 H2 H3 H4 H5 (shut hTT)
  · rw [if_neg p0]
    have e1 := ext_size T 0 (T.size - p)
    have e2 := ext_size T (T.size - p) T.size
    by_cases hm : M < 0
    · rw [if_pos hm]
      rw [eneg, decide_eq_true hm] at H3
      exact dec_neg n false (nf X) s d _ (sf X) _ t _ T _ _ (p : Int) (k : Int) (T.size - p) w (by omega) (by omega) hkk (by rw [rep_size]; omega) (by omega) (by omega) (by omega) (by omega) (by omega) (by omega) HC H1 H2 H3 H4 H5 (shut hTT) (shut rfl) (shut rfl)
    · rw [if_neg hm]
      rw [eneg, decide_eq_false hm] at H3
      exact dec_pos n false (nf X) s d _ (sf X) _ t _ T _ _ (p : Int) (k : Int) (T.size - p) w (by omega) (by omega) hkk (by rw [rep_size]; omega) (by omega) (by omega) (by omega) (by omega) (by omega) (by omega) HC H1 H2 H3 H4 H5 (shut hTT) (shut rfl) (shut rfl)
theorem qdec_bad (n : Bool) (s d : ByteArray) (p : Int) (w : World) (hT : Tab w) (h : chkq n s d ≠ 0) :
    Calls Tryz.prog 19 #[.agg #[.bool n, .string s, .string d], .int .i64 p] w fun e w' => e = .returned (.tuple #[.string { data := #[] }, .int .i64 (chkq n s d : Nat)]) ∧ Below w.heap.size w w' :=
  dec_bad n s d p _ (by omega) w (fun w1 b => rchk_any n s d w1 (hT.below b))
end Go.Proofs.YtlihcbeacjimkaaGreatDoor
namespace Go.Proofs.YtlihcbeacjimkaaGreatDoor
open Go.RowKit Go.Shelf

set_option maxRecDepth 100000 in
set_option maxHeartbeats 2000000 in
theorem low_one (n0 gN : Bool) (s0 s1 gS : ByteArray) (w : World) (hg : (gS.toList == [1]) = true)
    (H1 : Hid (∀ w1, Calls Tryz.prog 51 #[.agg #[.bool n0, .string s0], .agg #[.bool false, .string s1]] w1 fun e w' => e = .returned (.agg #[.bool gN, .string gS]) ∧ Below w1.heap.size w1 w')) :
    Calls Tryz.prog 24 #[.agg #[.bool n0, .string s0], .agg #[.bool false, .string s1]] w fun e w' => e = .returned (.agg #[.bool n0, .string s0, .string s1]) ∧ Below w.heap.size w w' := by
  go_enter Tryz.func24, Tryz.ntmps24
  go_wp2_with fail
  go_fit (H1.out _)
  rintro e w1 ⟨rfl, b1⟩
  obtain ⟨ka, kb, kr, b1⟩ := al3 b1
  have sz := b1.size
  have bb := b1
  clear b1
  have ta := ka.lt
  have tb := kb.lt
  have tr := kr.lt
  clear ta tb tr
  have ca_0 := cel2_0' (ka.alloc (.cells #[.bool gN, .string gS] 24))
  have ca_1 := cel2_1' (ka.alloc (.cells #[.bool gN, .string gS] 24))
  have cb_2 := cel2_0' (kb.alloc (.cells #[.bool gN, .string gS] 24))
  have cb_3 := cel2_1' (kb.alloc (.cells #[.bool gN, .string gS] 24))
  have cr_4 := cel3_0 (kr.alloc (.cells #[.bool gN, .string gS] 24))
  have fr_5 := Cel.frozen (kr.alloc (.cells #[.bool gN, .string gS] 24)) 0
  have cr_6 := cel3_1 (kr.alloc (.cells #[.bool gN, .string gS] 24))
  have fr_7 := Cel.frozen (kr.alloc (.cells #[.bool gN, .string gS] 24)) 1
  have cr_8 := cel3_2 (kr.alloc (.cells #[.bool gN, .string gS] 24))
  have fr_9 := Cel.frozen (kr.alloc (.cells #[.bool gN, .string gS] 24)) 2
  go_wp2
  have kr' := kr.alloc (.cells #[.bool gN, .string gS] 24)
  exact post_q (p := 4) (by kernel_rfl) rfl rfl (((kr'.set 0 _).set 1 _).set 2 _) ⟨rfl, bset (bset (bset (ba bb _) (by omega) 0 _) (by omega) 1 _) (by omega) 2 _⟩
set_option maxRecDepth 100000 in
set_option maxHeartbeats 2000000 in
theorem frac_walk (x y : Int) (xN yN qN : Bool) (xS yS qS qD : ByteArray) (w : World)
    (H1 : Hid (∀ w1, Calls Tryz.prog 34 #[.int .i64 x] w1 fun e w' => e = .returned (.agg #[.bool xN, .string xS]) ∧ Below w1.heap.size w1 w'))
    (H2 : Hid (∀ w1, Calls Tryz.prog 34 #[.int .i64 y] w1 fun e w' => e = .returned (.agg #[.bool yN, .string yS]) ∧ Below w1.heap.size w1 w'))
    (H3 : Hid (∀ w1, Calls Tryz.prog 24 #[.agg #[.bool xN, .string xS], .agg #[.bool yN, .string yS]] w1 fun e w' => e = .returned (.agg #[.bool qN, .string qS, .string qD]) ∧ Below w1.heap.size w1 w')) :
    Calls Tryz.prog 35 #[.int .i64 x, .int .i64 y] w fun e w' => e = .returned (.agg #[.bool qN, .string qS, .string qD]) ∧ Below w.heap.size w w' := by
  go_enter Tryz.func35, Tryz.ntmps35
  go_wp2_with fail
  go_fit (H1.out _)
  rintro e w1 ⟨rfl, b1⟩
  obtain ⟨kr, b1⟩ := al1 b1
  have sz := b1.size
  have bb := b1
  clear b1
  have tr := kr.lt
  go_wp2_with fail
  go_fit (H2.out _)
  rintro e w2 ⟨rfl, b1⟩
  have sz := b1.size
  replace kr := kr.below b1
  replace bb := Below.after bb b1
  clear b1
  go_wp2_with fail
  go_fit (H3.out _)
  rintro e w3 ⟨rfl, b1⟩
  have sz := b1.size
  replace kr := kr.below b1
  replace bb := Below.after bb b1
  clear b1
  have cr_0 := cel3_0 kr
  have fr_1 := Cel.frozen kr 0
  have cr_2 := cel3_1 kr
  have fr_3 := Cel.frozen kr 1
  have cr_4 := cel3_2 kr
  have fr_5 := Cel.frozen kr 2
  go_wp2
  exact post_q (p := 4) (by kernel_rfl) rfl rfl (((kr.set 0 _).set 1 _).set 2 _) ⟨rfl, bset (bset (bset bb (by omega) 0 _) (by omega) 1 _) (by omega) 2 _⟩
set_option maxRecDepth 100000 in
set_option maxHeartbeats 4000000 in
theorem live_walk (xN yN aN oN : Bool) (xS yS aS aD oS oD : ByteArray) (w : World)
    (H1 : Hid (∀ w1, Calls Tryz.prog 34 #[.int .i64 6] w1 fun e w' => e = .returned (.agg #[.bool xN, .string xS]) ∧ Below w1.heap.size w1 w'))
    (H2 : Hid (∀ w1, Calls Tryz.prog 34 #[.int .i64 (-4)] w1 fun e w' => e = .returned (.agg #[.bool yN, .string yS]) ∧ Below w1.heap.size w1 w'))
    (H3 : Hid (∀ w1, Below w.heap.size w w1 → Calls Tryz.prog 22 #[.agg #[.bool xN, .string xS], .agg #[.bool yN, .string yS]] w1 fun e w' => e = .returned (.tuple #[.agg #[.bool aN, .string aS, .string aD], .int .i64 0]) ∧ Below w1.heap.size w1 w'))
    (H4 : Hid (∀ w1, Below w.heap.size w w1 → Calls Tryz.prog 19 #[.agg #[.bool aN, .string aS, .string aD], .int .i64 0] w1 fun e w' => e = .returned (.tuple #[.string ⟨#[45, 50]⟩, .int .i64 0]) ∧ Below w1.heap.size w1 w'))
    (H5 : Hid (∀ w1, Below w.heap.size w w1 → Calls Tryz.prog 18 #[.agg #[.bool aN, .string aS, .string aD]] w1 fun e w' => e = .returned (.tuple #[.string ⟨#[45, 51, 47, 50]⟩, .int .i64 0]) ∧ Below w1.heap.size w1 w'))
    (H6 : Hid (∀ w1, Calls Tryz.prog 25 #[.int .i64 0] w1 fun e w' => e = .returned (.agg #[.bool oN, .string oS, .string oD]) ∧ Below w1.heap.size w1 w'))
    (H7 : Hid (∀ w1, Below w.heap.size w w1 → Calls Tryz.prog 16 #[.agg #[.bool aN, .string aS, .string aD], .agg #[.bool oN, .string oS, .string oD]] w1 fun e w' => e = .returned (.tuple #[.agg #[.bool false, .string { data := #[] }, .string { data := #[] }], .int .i64 3]) ∧ Below w1.heap.size w1 w'))
    (H8 : Hid (∀ w1, Calls Tryz.prog 35 #[.int .i64 (-3), .int .i64 2] w1 fun e w' => e = .returned (.agg #[.bool aN, .string aS, .string aD]) ∧ Below w1.heap.size w1 w')) :
    Calls Tryz.prog 10 #[] w fun e w' => e = .returned (.bool true) ∧ Below w.heap.size w w' := by
  go_enter Tryz.func10, Tryz.ntmps10
  go_wp2_with fail
  go_fit (H1.out _)
  rintro e w1 ⟨rfl, b1⟩
  have sz := b1.size
  have bb := b1
  clear b1
  go_wp2_with fail
  go_fit (H2.out _)
  rintro e w2 ⟨rfl, b1⟩
  have sz := b1.size
  replace bb := Below.after bb b1
  clear b1
  go_wp2_with fail
  go_fit (H3.out _ bb)
  rintro e w3 ⟨rfl, b1⟩
  have sz := b1.size
  replace bb := Below.after bb b1
  clear b1
  go_wp2_with fail
  go_fit (H4.out _ (ba bb _))
  rintro e w4 ⟨rfl, b1⟩
  obtain ⟨ka, b1⟩ := al1 b1
  have sz := b1.size
  replace bb := Below.after bb b1
  clear b1
  have ta := ka.lt
  have ca_0 := cel3_0 ka
  have ca_1 := cel3_1 ka
  have ca_2 := cel3_2 ka
  go_wp2_with fail
  clear ca_0 ca_1 ca_2
  go_fit (H5.out _ bb)
  rintro e w5 ⟨rfl, b1⟩
  have sz := b1.size
  replace ka := ka.below b1
  replace bb := Below.after bb b1
  clear b1
  go_wp2_with fail
  have mkS : ∀ w', Below w5.heap.size w5 w' → (Below w5.heap.size w5 w' ∧ w'.cell? ⟨w3.heap.size, 0, none⟩ = some (.bool aN) ∧ w'.cell? ⟨w3.heap.size, 1, none⟩ = some (.string aS) ∧ w'.cell? ⟨w3.heap.size, 2, none⟩ = some (.string aD)) := fun w' h => ⟨h, cel3_0 (ka.below h), cel3_1 (ka.below h), cel3_2 (ka.below h)⟩
  have bcS : ∀ w', (Below w5.heap.size w5 w' ∧ w'.cell? ⟨w3.heap.size, 0, none⟩ = some (.bool aN) ∧ w'.cell? ⟨w3.heap.size, 1, none⟩ = some (.string aS) ∧ w'.cell? ⟨w3.heap.size, 2, none⟩ = some (.string aD)) → Below w5.heap.size w5 w' := fun w' h => h.1
  replace mkS := shut mkS
  replace bcS := shut bcS
  go_cut [7, 8] from 25 to 30 (fun v y8 wx => ∃ gc, v = .pointer (some ⟨gc, 0, none⟩) ∧ y8 = .int .i64 3 ∧ w5.heap.size ≤ gc ∧ Cel wx gc [.bool false, .string { data := #[] }, .string { data := #[] }] 26 ∧ Below w5.heap.size w5 wx)
  case first =>
    clear H1 H2 H3 H4 H5 H8
    refine wp_region_held_drew (S := (fun w' => Below w5.heap.size w5 w' ∧ w'.cell? ⟨w3.heap.size, 0, none⟩ = some (.bool aN) ∧ w'.cell? ⟨w3.heap.size, 1, none⟩ = some (.string aS) ∧ w'.cell? ⟨w3.heap.size, 2, none⟩ = some (.string aD))) (by kernel_rfl) (mkS.out _ (bdrew _)) (fun _ => ?_)
    refine absO 9 (by kernel_rfl) (fun ops q SP hops hq hSP => ?_)
    obtain ⟨fr, hfr⟩ : ∃ fr : Value → Value → Value → Value → Value → Value → Act, fr = (fun x7 x25 x27 x28 x29 x30 => { tmps := #[.bool false, .pointer (some ⟨w3.heap.size, 0, none⟩), .int .i64 0, .string { data := #[45, 50] }, .int .i64 0, .string { data := #[45, 51, 47, 50] }, .int .i64 0, x7, undef, .tuple #[.agg #[.bool aN, .string aS, .string aD], .int .i64 0], .agg #[.bool xN, .string xS], .agg #[.bool yN, .string yS], .tuple #[.agg #[.bool aN, .string aS, .string aD], .int .i64 0], .agg #[.bool aN, .string aS, .string aD], .int .i64 0, .tuple #[.string { data := #[45, 50] }, .int .i64 0], .agg #[.bool aN, .string aS, .string aD], .tuple #[.string { data := #[45, 50] }, .int .i64 0], .string { data := #[45, 50] }, .int .i64 0, .tuple #[.string { data := #[45, 51, 47, 50] }, .int .i64 0], .agg #[.bool aN, .string aS, .string aD], .tuple #[.string { data := #[45, 51, 47, 50] }, .int .i64 0], .string { data := #[45, 51, 47, 50] }, .int .i64 0, x25, .agg #[.bool aN, .string aS, .string aD], x27, x28, x29, x30, undef, undef, undef, undef, undef, undef, undef, undef, undef, undef, undef, undef, undef, undef, undef, undef, undef, undef, undef, undef, undef, undef, undef, undef, undef, undef, undef], defers := [] }) := ⟨_, rfl⟩
    have L2_0 : Hid (∀ (g0 : Nat) (w' : World) (hS : SP w') (k0 : Cel w' g0 [.bool false, .string { data := #[] }, .string { data := #[] }] 26) (h0 : w5.heap.size ≤ g0), wpAnyH Tryz.prog .any ops q SP 2 (ls 9 [0, 1, 2, 3, 4, 5, 6]) (fr (.pointer (some ⟨g0, 0, none⟩)) (.tuple #[.agg #[.bool false, .string { data := #[] }, .string { data := #[] }], .int .i64 3]) (.agg #[.bool oN, .string oS, .string oD]) (.tuple #[.agg #[.bool false, .string { data := #[] }, .string { data := #[] }], .int .i64 3]) (.agg #[.bool false, .string { data := #[] }, .string { data := #[] }]) (.int .i64 3)) w') := by
      subst hops hq hSP hfr
      intro g0 w' hS k0 h0
      have bc := bcS.out _ hS
      dsimp only
      have e0_0 := cel3_0 k0
      have f0_0 := Cel.frozen k0 0
      have e0_1 := cel3_1 k0
      have f0_1 := Cel.frozen k0 1
      have e0_2 := cel3_2 k0
      have f0_2 := Cel.frozen k0 2
      refine rdy [7] (by kernel_rfl) ?_
      refine AllReadyH.cons (o := _) rfl (fun K hK => ?_) AllReadyH.nil
      simp only [List.getElem_toArray, List.getElem_cons_succ, List.getElem_cons_zero]
      go_simp
      try go_wp2_with fail
      clear e0_0 f0_0 e0_1 f0_1 e0_2 f0_2
      refine hK.out _ _ (mkS.out _ (bset (bset (bset bc h0 0 (.bool false)) h0 1 (.string { data := #[] })) h0 2 (.string { data := #[] }))) (fun hS => ?_)
      clear hK K
      replace k0 := (Cel.set (Cel.set (Cel.set k0 0 (.bool false)) 1 (.string { data := #[] })) 2 (.string { data := #[] }))
      replace bc := (bset (bset (bset bc h0 0 (.bool false)) h0 1 (.string { data := #[] })) h0 2 (.string { data := #[] }))
      refine wpAnyH_take (i := 8) (oi := _) (v := ?_) rfl (by kernel_rfl) (by kernel_rfl) (by kernel_rfl) (fun _ _ _ h => h) (Or.inl ⟨by rfl, ?_⟩) (by assumption) ?_
      rotate_left
      · (intro w hSw; (try dsimp only at hSw); go_simp; try with_reducible rfl)
      try simp only [Act.put, List.getElem_toArray, List.getElem_cons_succ, List.getElem_cons_zero, List.setIfInBounds_toArray, List.set_cons_zero, List.set_cons_succ]
      refine wpAnyH_done (by kernel_rfl) ?_ _
      go_wp2_with fail
      go_meet
      exact ⟨_, rfl, rfl, h0, k0, bc⟩
    have L2_ : Hid (∀ (w' : World) (hS : SP w'), wpAnyH Tryz.prog .any ops q SP 3 (ls 9 [0, 1, 2, 3, 4, 5]) (fr undef (.tuple #[.agg #[.bool false, .string { data := #[] }, .string { data := #[] }], .int .i64 3]) (.agg #[.bool oN, .string oS, .string oD]) (.tuple #[.agg #[.bool false, .string { data := #[] }, .string { data := #[] }], .int .i64 3]) (.agg #[.bool false, .string { data := #[] }, .string { data := #[] }]) (.int .i64 3)) w') := by
      subst hops hq hSP hfr
      intro w' hS
      have bc := bcS.out _ hS
      dsimp only
      refine rdy [6] (by kernel_rfl) ?_
      refine AllReadyH.cons (o := _) rfl (fun K hK => ?_) AllReadyH.nil
      · simp only [List.getElem_toArray, List.getElem_cons_succ, List.getElem_cons_zero]
        go_simp
        try go_wp2_with fail
        refine hK.out _ _ (mkS.out _ (ba bc _)) (fun hS => ?_)
        clear hK K
        exact lst (L2_0.out _ _ hS (Cel.new w' _ _) bc.size) (by kernel_rfl)
    have L1_0 : Hid (∀ (g0 : Nat) (w' : World) (hS : SP w') (k0 : Cel w' g0 [.bool false, .string { data := #[] }, .string { data := #[] }] 26) (h0 : w5.heap.size ≤ g0), wpAnyH Tryz.prog .any ops q SP 6 (ls 9 [0, 1, 6]) (fr (.pointer (some ⟨g0, 0, none⟩)) undef (.agg #[.bool oN, .string oS, .string oD]) undef undef undef) w') := by
      clear L2_
      subst hops hq hSP hfr
      intro g0 w' hS k0 h0
      have bc := bcS.out _ hS
      dsimp only
      refine rdy [2] (by kernel_rfl) ?_
      refine AllReadyH.cons (o := _) rfl (fun K hK => ?_) AllReadyH.nil
      · simp only [List.getElem_toArray, List.getElem_cons_succ, List.getElem_cons_zero]
        go_simp
        go_fit (H7.out _ ?_)
        · exact Below.after bb bc
        rintro e wn ⟨rfl, bn⟩
        have bcn := Below.after bc bn
        try go_wp2_with fail
        refine hK.out _ _ (mkS.out _ bcn) (fun hS => ?_)
        clear hK K
        refine wpAnyH_take (i := 3) (oi := _) (v := ?_) rfl (by kernel_rfl) (by kernel_rfl) (by kernel_rfl) (fun _ _ _ h => h) (Or.inl ⟨by rfl, ?_⟩) (by assumption) ?_
        rotate_left
        · (intro w hSw; (try dsimp only at hSw); go_simp; try with_reducible rfl)
        try simp only [Act.put, List.getElem_toArray, List.getElem_cons_succ, List.getElem_cons_zero, List.setIfInBounds_toArray, List.set_cons_zero, List.set_cons_succ]
        refine wpAnyH_take (i := 4) (oi := _) (v := ?_) rfl (by kernel_rfl) (by kernel_rfl) (by kernel_rfl) (fun _ _ _ h => h) (Or.inl ⟨by rfl, ?_⟩) (by assumption) ?_
        rotate_left
        · (intro w hSw; (try dsimp only at hSw); go_simp; try with_reducible rfl)
        try simp only [Act.put, List.getElem_toArray, List.getElem_cons_succ, List.getElem_cons_zero, List.setIfInBounds_toArray, List.set_cons_zero, List.set_cons_succ]
        refine wpAnyH_take (i := 5) (oi := _) (v := ?_) rfl (by kernel_rfl) (by kernel_rfl) (by kernel_rfl) (fun _ _ _ h => h) (Or.inl ⟨by rfl, ?_⟩) (by assumption) ?_
        rotate_left
        · (intro w hSw; (try dsimp only at hSw); go_simp; try with_reducible rfl)
        try simp only [Act.put, List.getElem_toArray, List.getElem_cons_succ, List.getElem_cons_zero, List.setIfInBounds_toArray, List.set_cons_zero, List.set_cons_succ]
        exact lst (L2_0.out g0 wn hS (k0.below bn) h0) (by kernel_rfl)
    have L1_ : Hid (∀ (w' : World) (hS : SP w'), wpAnyH Tryz.prog .any ops q SP 7 (ls 9 [0, 1]) (fr undef undef (.agg #[.bool oN, .string oS, .string oD]) undef undef undef) w') := by
      clear L2_0
      subst hops hq hSP hfr
      intro w' hS
      have bc := bcS.out _ hS
      dsimp only
      refine rdy [2, 6] (by kernel_rfl) ?_
      refine AllReadyH.cons (o := _) rfl (fun K hK => ?_) (AllReadyH.cons (o := _) rfl (fun K hK => ?_) AllReadyH.nil)
      · simp only [List.getElem_toArray, List.getElem_cons_succ, List.getElem_cons_zero]
        go_simp
        go_fit (H7.out _ ?_)
        · exact Below.after bb bc
        rintro e wn ⟨rfl, bn⟩
        have bcn := Below.after bc bn
        try go_wp2_with fail
        refine hK.out _ _ (mkS.out _ bcn) (fun hS => ?_)
        clear hK K
        refine wpAnyH_take (i := 3) (oi := _) (v := ?_) rfl (by kernel_rfl) (by kernel_rfl) (by kernel_rfl) (fun _ _ _ h => h) (Or.inl ⟨by rfl, ?_⟩) (by assumption) ?_
        rotate_left
        · (intro w hSw; (try dsimp only at hSw); go_simp; try with_reducible rfl)
        try simp only [Act.put, List.getElem_toArray, List.getElem_cons_succ, List.getElem_cons_zero, List.setIfInBounds_toArray, List.set_cons_zero, List.set_cons_succ]
        refine wpAnyH_take (i := 4) (oi := _) (v := ?_) rfl (by kernel_rfl) (by kernel_rfl) (by kernel_rfl) (fun _ _ _ h => h) (Or.inl ⟨by rfl, ?_⟩) (by assumption) ?_
        rotate_left
        · (intro w hSw; (try dsimp only at hSw); go_simp; try with_reducible rfl)
        try simp only [Act.put, List.getElem_toArray, List.getElem_cons_succ, List.getElem_cons_zero, List.setIfInBounds_toArray, List.set_cons_zero, List.set_cons_succ]
        refine wpAnyH_take (i := 5) (oi := _) (v := ?_) rfl (by kernel_rfl) (by kernel_rfl) (by kernel_rfl) (fun _ _ _ h => h) (Or.inl ⟨by rfl, ?_⟩) (by assumption) ?_
        rotate_left
        · (intro w hSw; (try dsimp only at hSw); go_simp; try with_reducible rfl)
        try simp only [Act.put, List.getElem_toArray, List.getElem_cons_succ, List.getElem_cons_zero, List.setIfInBounds_toArray, List.set_cons_zero, List.set_cons_succ]
        exact lst (L2_.out wn hS) (by kernel_rfl)
      · simp only [List.getElem_toArray, List.getElem_cons_succ, List.getElem_cons_zero]
        go_simp
        try go_wp2_with fail
        refine hK.out _ _ (mkS.out _ (ba bc _)) (fun hS => ?_)
        clear hK K
        exact lst (L1_0.out _ _ hS (Cel.new w' _ _) bc.size) (by kernel_rfl)
    have L0_0 : Hid (∀ (g0 : Nat) (w' : World) (hS : SP w') (k0 : Cel w' g0 [.bool false, .string { data := #[] }, .string { data := #[] }] 26) (h0 : w5.heap.size ≤ g0), wpAnyH Tryz.prog .any ops q SP 7 (ls 9 [0, 6]) (fr (.pointer (some ⟨g0, 0, none⟩)) undef undef undef undef undef) w') := by
      clear L2_0 L2_ L1_
      subst hops hq hSP hfr
      intro g0 w' hS k0 h0
      have bc := bcS.out _ hS
      dsimp only
      refine rdy [1] (by kernel_rfl) ?_
      refine AllReadyH.cons (o := _) rfl (fun K hK => ?_) AllReadyH.nil
      · simp only [List.getElem_toArray, List.getElem_cons_succ, List.getElem_cons_zero]
        go_simp
        go_fit (H6.out _)
        rintro e wn ⟨rfl, bn⟩
        have bcn := Below.after bc bn
        try go_wp2_with fail
        refine hK.out _ _ (mkS.out _ bcn) (fun hS => ?_)
        clear hK K
        exact lst (L1_0.out g0 wn hS (k0.below bn) h0) (by kernel_rfl)
    have L0_ : Hid (∀ (w' : World) (hS : SP w'), wpAnyH Tryz.prog .any ops q SP 8 (ls 9 [0]) (fr undef undef undef undef undef undef) w') := by
      clear L2_0 L2_ L1_0
      subst hops hq hSP hfr
      intro w' hS
      have bc := bcS.out _ hS
      dsimp only
      refine rdy [1, 6] (by kernel_rfl) ?_
      refine AllReadyH.cons (o := _) rfl (fun K hK => ?_) (AllReadyH.cons (o := _) rfl (fun K hK => ?_) AllReadyH.nil)
      · simp only [List.getElem_toArray, List.getElem_cons_succ, List.getElem_cons_zero]
        go_simp
        go_fit (H6.out _)
        rintro e wn ⟨rfl, bn⟩
        have bcn := Below.after bc bn
        try go_wp2_with fail
        refine hK.out _ _ (mkS.out _ bcn) (fun hS => ?_)
        clear hK K
        exact lst (L1_.out wn hS) (by kernel_rfl)
      · simp only [List.getElem_toArray, List.getElem_cons_succ, List.getElem_cons_zero]
        go_simp
        try go_wp2_with fail
        refine hK.out _ _ (mkS.out _ (ba bc _)) (fun hS => ?_)
        clear hK K
        exact lst (L0_0.out _ _ hS (Cel.new w' _ _) bc.size) (by kernel_rfl)
    clear L2_0 L2_ L1_0 L1_ L0_0
    subst hops hq hSP hfr
    refine wpAnyH_take (i := 0) (oi := _) (v := ?_) rfl (by kernel_rfl) (by kernel_rfl) (by kernel_rfl) (fun _ _ _ h => h) (Or.inl ⟨by rfl, ?_⟩) (by assumption) ?_
    rotate_left
    · (intro w hSw; (try dsimp only at hSw); go_simp; try with_reducible rfl)
    try simp only [Act.put, List.getElem_toArray, List.getElem_cons_zero, List.setIfInBounds_toArray, List.set_cons_zero, List.set_cons_succ]
    exact lst (L0_.out _ (mkS.out _ (bdrew _))) (by kernel_rfl)
  case rest =>
  obtain ⟨gz, rfl, rfl, lz, kz, b1⟩ := hcut
  clear mkS bcS
  have sz := b1.size
  replace ka := ka.below b1
  replace bb := Below.after bb b1
  clear b1
  have tz := kz.lt
  have ca_0 := cel3_0 ka
  have ca_1 := cel3_1 ka
  have ca_2 := cel3_2 ka
  go_wp2_with fail
  clear ca_0 ca_1 ca_2
  go_region_held3 (fun w' => w'.cell? ⟨w3.heap.size, 0, none⟩ = some (.bool aN) ∧ w'.cell? ⟨w3.heap.size, 1, none⟩ = some (.string aS) ∧ w'.cell? ⟨w3.heap.size, 2, none⟩ = some (.string aD)) (exact ⟨cel3_0 ka, cel3_1 ka, cel3_2 ka⟩) (first | (go_at_call 35; go_fit (H8.out _); rintro e wn ⟨rfl, bn⟩; replace ka := ka.below ⟨bn.os, bn.tape, bn.output, bn.size, bn.block⟩; replace kz := kz.below ⟨bn.os, bn.tape, bn.output, bn.size, bn.block⟩; replace bb := Below.after bb ⟨bn.os, bn.tape, bn.output, bn.size, bn.block⟩) | fail)
  go_wp2
  go_ret
  exact ⟨rfl, bb⟩
end Go.Proofs.YtlihcbeacjimkaaGreatDoor
namespace Go.Proofs.YtlihcbeacjimkaaGreatDoor
open Go.RowKit Go.Shelf

theorem txt_live1 : dtxt (rnd (-3 * ((10 ^ 0 : Nat) : Int)) 2) 0 = ⟨#[45, 50]⟩ := by decide +kernel
theorem txt_live2 : ptxt true (strOf 3) ++ ⟨#[47]⟩ ++ ptxt false (strOf 2) = ⟨#[45, 51, 47, 50]⟩ := by decide +kernel
theorem divInt_live : Rat.divInt 6 (-4) = mkRat (-3) 2 := by decide +kernel
theorem bd_small (z : Int) (h1 : -200 ≤ z) (h2 : z ≤ 200) : Bd z 1 := by
  unfold Bd
  simp
  omega
theorem live3_any (w : World) (hT : Tab w) (hP : TabP w) : Calls Tryz.prog 10 #[] w fun e w' => e = .returned (.bool true) ∧ Below w.heap.size w w' := by
  obtain ⟨nf, sf, hf, hok, hsz, hz, hnat, hneg, hstr, hnn, hfn⟩ := named0
  have sz : ∀ z : Int, -200 ≤ z → z ≤ 200 → (sf z).size ≤ 1 := fun z a b => hsz z 1 (bd_small z a b)
  have n2 : nf 2 = false := hneg 2
  have n3 : nf (-3) = true := by
    have e1 := hf (-3)
    unfold zI zV at e1
    simp only [Value.agg.injEq] at e1
    have e' : [Value.bool (decide ((-3 : Int) < 0)), .string (strOf (-3 : Int).natAbs)] = [.bool (nf (-3)), .string (sf (-3))] := congrArg Array.toList e1
    simp only [List.cons.injEq, Value.bool.injEq] at e'
    rw [← e'.1]
    rfl
  have s3 : sf (-3) = strOf 3 := by rw [← strOf_natOf (hok (-3)).1, hnat]; rfl
  have s2 : sf 2 = strOf 2 := hstr 2
  have g32 : Nat.gcd (natOf (sf (-3))) (natOf (sf 2)) = 1 := by rw [hnat, hnat]; decide
  have oa : OkQ (nf (-3)) (sf (-3)) (sf 2) := ⟨hok _, (hok 2).1, by rw [hnat]; decide, g32⟩
  have ea : qI (mkRat (-3) 2) = .agg #[.bool (nf (-3)), .string (sf (-3)), .string (sf 2)] := qI_of (Q.mk_low (by omega) (by decide)) (hf _) s2
  have ca : chkq (nf (-3)) (sf (-3)) (sf 2) = 0 := chkq_ok oa (Nat.le_trans (sz _ (by omega) (by omega)) (by omega)) (Nat.le_trans (sz _ (by omega) (by omega)) (by omega))
  have o0 : OkQ false ⟨#[]⟩ ⟨#[1]⟩ := ⟨⟨fun h => absurd h (by decide), fun h => by cases h⟩, by rw [← strOf_one]; exact okS_strOf 1, by rw [natOf_one]; omega, by rw [natOf_one]; exact Nat.gcd_one_right _⟩
  have c0 : chkq false ⟨#[]⟩ ⟨#[1]⟩ = 0 := chkq_ok o0 (by decide) (by decide)
  refine live_walk (nf 6) (nf (-4)) (nf (-3)) false (sf 6) (sf (-4)) (sf (-3)) (sf 2) ⟨#[]⟩ ⟨#[1]⟩ w ?_ ?_ ?_ ?_ ?_ ?_ ?_ ?_
  · intro w1
    have := rof_any 6 (by omega) (by omega) w1
    rwa [hf] at this
  · intro w1
    have := rof_any (-4) (by omega) (by omega) w1
    rwa [hf] at this
  · intro w1 b
    have := make_ok (nf 6) (nf (-4)) (sf 6) (sf (-4)) w1 (hT.below b) (hok _) (hok _) (K := 1) (by omega) (sz _ (by omega) (by omega)) (sz _ (by omega) (by omega)) (by rw [hnat]; decide)
    rwa [hz, hz, divInt_live, ea] at this
  · intro w1 b
    have := qdec_ok (nf (-3)) (sf (-3)) (sf 2) 0 w1 (hT.below b) (hP.bel b) ca (by omega) (K := 1) (by omega) (sz _ (by omega) (by omega)) (sz _ (by omega) (by omega))
    rw [hz, hnat 2] at this
    rw [show (2 : Int).natAbs = 2 from rfl, txt_live1] at this
    exact this
  · intro w1 b
    have := qprint_ok (nf (-3)) (sf (-3)) (sf 2) w1 (hT.below b) (hP.bel b) ca (Nat.le_trans (sz _ (by omega) (by omega)) (by omega)) (Nat.le_trans (sz _ (by omega) (by omega)) (by omega))
    unfold qtxt at this
    rw [if_neg (by rw [hnat]; decide)] at this
    rw [← txt_live2]
    rw [n3] at this ⊢
    rw [s3, s2] at this ⊢
    exact this
  · intro w1
    have := qof_any 0 (by omega) (by omega) w1
    rwa [qI_int 0 (show zI 0 = .agg #[.bool false, .string ⟨#[]⟩] from rfl)] at this
  · intro w1 b
    exact qdiv_zero (nf (-3)) false (sf (-3)) (sf 2) ⟨#[]⟩ ⟨#[1]⟩ w1 (hT.below b) (twoq_zero.2 ⟨ca, c0⟩) rfl
  · intro w1
    refine frac_walk (-3) 2 (nf (-3)) (nf 2) (nf (-3)) (sf (-3)) (sf 2) (sf (-3)) (sf 2) w1 ?_ ?_ ?_
    · intro w2
      have := rof_any (-3) (by omega) (by omega) w2
      rwa [hf] at this
    · intro w2
      have := rof_any 2 (by omega) (by omega) w2
      rwa [hf] at this
    · intro w2
      rw [n2]
      refine low_one (nf (-3)) false (sf (-3)) (sf 2) ⟨#[1]⟩ w2 (by decide +kernel) ?_
      intro w3
      have := rcommon_any (nf (-3)) false (sf (-3)) (sf 2) w3 (Nat.le_trans (sz _ (by omega) (by omega)) (by omega)) (Nat.le_trans (sz _ (by omega) (by omega)) (by omega))
      rwa [g32, show (((1 : Nat) : Int)) = 1 from rfl, zI_one] at this
end Go.Proofs.YtlihcbeacjimkaaGreatDoor
namespace Go.Proofs.YtlihcbeacjimkaaGreatDoor
open Go.RowKit Go.Shelf

set_option maxHeartbeats 1000000 in
theorem small3_yes (n : Bool) (s d : ByteArray) (w : World) (hs : s.size ≤ 120) (hd : d.size ≤ 120) :
    Calls Tryz.prog 9 #[.agg #[.bool n, .string s, .string d]] w fun e w' => e = .returned (.bool true) ∧ Below w.heap.size w w' := by
  have d1 : Hid (decide ((d.size : Int) ≤ 120) = true) := by show _ = _; simp; omega
  go_enter Tryz.func9, Tryz.ntmps9
  go_wp2
  go_ret
  exact ⟨by show Ending.returned (.bool (decide ((d.size : Int) ≤ 120))) = _; rw [d1.out], by go_grown⟩
set_option maxHeartbeats 1000000 in
theorem small3_no (n : Bool) (s d : ByteArray) (w : World) (h : ¬ (s.size ≤ 120 ∧ d.size ≤ 120)) :
    Calls Tryz.prog 9 #[.agg #[.bool n, .string s, .string d]] w fun e w' => e = .returned (.bool false) ∧ Below w.heap.size w w' := by
  by_cases h0 : s.size ≤ 120
  · have h1 : ¬ d.size ≤ 120 := fun h1 => h ⟨h0, h1⟩
    clear h
    have d1 : Hid (decide ((d.size : Int) ≤ 120) = false) := by show _ = _; simp; omega
    go_enter Tryz.func9, Tryz.ntmps9
    go_wp2
    go_ret
    exact ⟨by show Ending.returned (.bool (decide ((d.size : Int) ≤ 120))) = _; rw [d1.out], by go_grown⟩
  · clear h
    go_enter Tryz.func9, Tryz.ntmps9
    go_wp2
    go_ret
    exact ⟨rfl, by go_grown⟩

theorem bq_mk {z : Int} {m k : Nat} (hm : 0 < m) (hz : Bd z k) (hd : Bd (m : Int) k) : Bq (mkRat z m) k := by
  refine ⟨?_, ?_⟩
  · rw [Q.num_mk hm]
    refine hz.div _ ?_
    rw [← Int.dvd_natAbs, Int.ofNat_dvd]
    exact Nat.gcd_dvd_left _ _
  · rw [Q.den_mk hm]
    exact hd.nat (Nat.div_le_self _ _)
theorem bd_cast (a b : Nat) {k j : Nat} (ha : Bd (a : Int) k) (hb : Bd (b : Int) j) : Bd ((a * b : Nat) : Int) (k + j) := by
  rw [Int.natCast_mul]
  exact ha.mul hb
theorem bq_add {a b : Rat} {k : Nat} (ha : Bq a k) (hb : Bq b k) : Bq (a + b) (k + k + 1) := by
  rw [Rat.add_def']
  exact bq_mk (Nat.mul_pos a.den_pos b.den_pos) ((ha.1.mul hb.2).add (hb.1.mul ha.2)) ((bd_cast _ _ ha.2 hb.2).mono (by omega))
theorem bq_neg {a : Rat} {k : Nat} (ha : Bq a k) : Bq (-a) k := ⟨by rw [Rat.neg_num]; exact ha.1.neg, ha.2⟩
theorem bq_sub {a b : Rat} {k : Nat} (ha : Bq a k) (hb : Bq b k) : Bq (a - b) (k + k + 1) := by
  rw [Rat.sub_eq_add_neg]
  exact bq_add ha (bq_neg hb)
theorem bq_mul {a b : Rat} {k : Nat} (ha : Bq a k) (hb : Bq b k) : Bq (a * b) (k + k + 1) := by
  rw [Rat.mul_def']
  exact bq_mk (Nat.mul_pos a.den_pos b.den_pos) ((ha.1.mul hb.1).mono (by omega)) ((bd_cast _ _ ha.2 hb.2).mono (by omega))
theorem bq_inv {a : Rat} {k : Nat} (ha : Bq a k) (h : a ≠ 0) : Bq a⁻¹ k := by
  have hn : a.num ≠ 0 := fun e => h (Rat.num_eq_zero.1 e)
  refine ⟨?_, ?_⟩
  · rw [Rat.num_inv]
    refine ha.2.le ?_
    rw [Int.natAbs_mul, Int.natAbs_sign_of_ne_zero hn, Nat.one_mul]
    exact Nat.le_refl _
  · rw [Rat.den_inv, if_neg hn]
    exact ha.1.le (by simp)
theorem bq_div {a b : Rat} {k : Nat} (ha : Bq a k) (hb : Bq b k) (h : b ≠ 0) : Bq (a / b) (k + k + 1) := by
  rw [Rat.div_def]
  exact bq_mul ha (bq_inv hb h)

/-- What Mul tells, whatever it is handed. -/
theorem ex_mul (n0 n1 : Bool) (s0 d0 s1 d1 : ByteArray) {K : Nat} (hK : K ≤ 4000) (z0 : s0.size ≤ K) (y0 : d0.size ≤ K) (z1 : s1.size ≤ K) (y1 : d1.size ≤ K) :
    ∃ (N : Bool) (S D : ByteArray) (E : Int), S.size ≤ K + K + 1 ∧ D.size ≤ K + K + 1 ∧ ∀ w, Tab w → Calls Tryz.prog 15 #[.agg #[.bool n0, .string s0, .string d0], .agg #[.bool n1, .string s1, .string d1]] w fun e w' => e = .returned (.tuple #[.agg #[.bool N, .string S, .string D], .int .i64 E]) ∧ Below w.heap.size w w' := by
  obtain ⟨nf, sf, df, hf, hok, hsz, hq, hback⟩ := named3
  by_cases h : twoq n0 s0 d0 n1 s1 d1 = 0
  · have o0 := (chkq_zero (twoq_zero.1 h).1).1
    have o1 := (chkq_zero (twoq_zero.1 h).2).1
    have b := hsz _ _ (bq_mul (o0.bq z0 y0) (o1.bq z1 y1))
    refine ⟨nf (qOf n0 s0 d0 * qOf n1 s1 d1), _, _, 0, b.1, b.2, fun w hT => ?_⟩
    have := qmul_ok n0 n1 s0 d0 s1 d1 w hT h hK z0 y0 z1 y1
    rwa [hf] at this
  · exact ⟨false, ⟨#[]⟩, ⟨#[]⟩, _, Nat.zero_le _, Nat.zero_le _, fun w hT => qmul_bad n0 n1 s0 d0 s1 d1 w hT h⟩
theorem ex_add (n0 n1 : Bool) (s0 d0 s1 d1 : ByteArray) {K : Nat} (hK : K ≤ 4000) (z0 : s0.size ≤ K) (y0 : d0.size ≤ K) (z1 : s1.size ≤ K) (y1 : d1.size ≤ K) :
    ∃ (N : Bool) (S D : ByteArray) (E : Int), S.size ≤ K + K + 1 ∧ D.size ≤ K + K + 1 ∧ ∀ w, Tab w → Calls Tryz.prog 13 #[.agg #[.bool n0, .string s0, .string d0], .agg #[.bool n1, .string s1, .string d1]] w fun e w' => e = .returned (.tuple #[.agg #[.bool N, .string S, .string D], .int .i64 E]) ∧ Below w.heap.size w w' := by
  obtain ⟨nf, sf, df, hf, hok, hsz, hq, hback⟩ := named3
  by_cases h : twoq n0 s0 d0 n1 s1 d1 = 0
  · have o0 := (chkq_zero (twoq_zero.1 h).1).1
    have o1 := (chkq_zero (twoq_zero.1 h).2).1
    have b := hsz _ _ (bq_add (o0.bq z0 y0) (o1.bq z1 y1))
    refine ⟨nf (qOf n0 s0 d0 + qOf n1 s1 d1), _, _, 0, b.1, b.2, fun w hT => ?_⟩
    have := qadd_ok n0 n1 s0 d0 s1 d1 w hT h hK z0 y0 z1 y1
    rwa [hf] at this
  · exact ⟨false, ⟨#[]⟩, ⟨#[]⟩, _, Nat.zero_le _, Nat.zero_le _, fun w hT => qadd_bad n0 n1 s0 d0 s1 d1 w hT h⟩
theorem ex_sub (n0 n1 : Bool) (s0 d0 s1 d1 : ByteArray) {K : Nat} (hK : K ≤ 4000) (z0 : s0.size ≤ K) (y0 : d0.size ≤ K) (z1 : s1.size ≤ K) (y1 : d1.size ≤ K) :
    ∃ (N : Bool) (S D : ByteArray) (E : Int), S.size ≤ K + K + 1 ∧ D.size ≤ K + K + 1 ∧ ∀ w, Tab w → Calls Tryz.prog 14 #[.agg #[.bool n0, .string s0, .string d0], .agg #[.bool n1, .string s1, .string d1]] w fun e w' => e = .returned (.tuple #[.agg #[.bool N, .string S, .string D], .int .i64 E]) ∧ Below w.heap.size w w' := by
  obtain ⟨nf, sf, df, hf, hok, hsz, hq, hback⟩ := named3
  by_cases h : twoq n0 s0 d0 n1 s1 d1 = 0
  · have o0 := (chkq_zero (twoq_zero.1 h).1).1
    have o1 := (chkq_zero (twoq_zero.1 h).2).1
    have b := hsz _ _ (bq_sub (o0.bq z0 y0) (o1.bq z1 y1))
    refine ⟨nf (qOf n0 s0 d0 - qOf n1 s1 d1), _, _, 0, b.1, b.2, fun w hT => ?_⟩
    have := qsub_ok n0 n1 s0 d0 s1 d1 w hT h hK z0 y0 z1 y1
    rwa [hf] at this
  · exact ⟨false, ⟨#[]⟩, ⟨#[]⟩, _, Nat.zero_le _, Nat.zero_le _, fun w hT => qsub_bad n0 n1 s0 d0 s1 d1 w hT h⟩
end Go.Proofs.YtlihcbeacjimkaaGreatDoor
