/-
  Package rat: sum, walked.
  Package rat: sum and product, of numbers that may be.
  Package rat: reckon; Add, Sub, Mul, Div.
  Package rat: Add, Sub, Mul, Div, of any two numbers.
  Package rat: Cmp, Sign, Of.
  Package rat: Make, walked.
  Package rat: Make, of any two numbers.
-/
import Derived.Test.YtiiigiggcbbgjaaGreatDoorK38
set_option maxRecDepth 100000
set_option maxHeartbeats 8000000
namespace Go.Proofs.YtiiigiggcbbgjaaGreatDoor
open Go.RowKit
theorem sum_walk (n0 n1 gN aN bN xN yN zN cN pN qN rN : Bool) (s0 d0 s1 d1 gS aS bS xS yS zS cS pS qS rS : ByteArray) (w : World)
  (H1 : Hid (∀ w1, Below w.heap.size w w1 → Calls Tryz.prog 104 #[.agg #[.bool false, .string d0], .agg #[.bool false, .string d1]] w1 (Re w1 (.agg #[.bool gN, .string gS]))))
  (H2 : Hid (∀ w1, Calls Tryz.prog 105 #[.agg #[.bool false, .string d0], .agg #[.bool gN, .string gS]] w1 (Re w1 (.agg #[.bool aN, .string aS]))))
  (H3 : Hid (∀ w1, Calls Tryz.prog 105 #[.agg #[.bool false, .string d1], .agg #[.bool gN, .string gS]] w1 (Re w1 (.agg #[.bool bN, .string bS]))))
  (H4 : Hid (∀ w1, Calls Tryz.prog 156 #[.agg #[.bool n0, .string s0], .agg #[.bool bN, .string bS]] w1 (Re w1 (.agg #[.bool xN, .string xS]))))
  (H5 : Hid (∀ w1, Calls Tryz.prog 156 #[.agg #[.bool n1, .string s1], .agg #[.bool aN, .string aS]] w1 (Re w1 (.agg #[.bool yN, .string yS]))))
  (H6 : Hid (∀ w1, Calls Tryz.prog 168 #[.agg #[.bool xN, .string xS], .agg #[.bool yN, .string yS]] w1 (Re w1 (.agg #[.bool zN, .string zS]))))
  (H7 : Hid (∀ w1, Below w.heap.size w w1 → Calls Tryz.prog 104 #[.agg #[.bool zN, .string zS], .agg #[.bool gN, .string gS]] w1 (Re w1 (.agg #[.bool cN, .string cS]))))
  (H8 : Hid (∀ w1, Calls Tryz.prog 105 #[.agg #[.bool zN, .string zS], .agg #[.bool cN, .string cS]] w1 (Re w1 (.agg #[.bool pN, .string pS]))))
  (H9 : Hid (∀ w1, Calls Tryz.prog 105 #[.agg #[.bool false, .string d1], .agg #[.bool cN, .string cS]] w1 (Re w1 (.agg #[.bool qN, .string qS]))))
  (H10 : Hid (∀ w1, Calls Tryz.prog 156 #[.agg #[.bool aN, .string aS], .agg #[.bool qN, .string qS]] w1 (Re w1 (.agg #[.bool rN, .string rS])))) :
  Calls Tryz.prog 135 #[.agg #[.bool n0, .string s0, .string d0], .agg #[.bool n1, .string s1, .string d1]] w (Re w (.tuple #[.agg #[.bool pN, .string pS, .string rS], .int .i64 0])) := by
 go_enter Tryz.func135, Tryz.ntmps135
 go_wp2_with fail
 obtain ⟨w1, hw, ka, kb, kr, b1⟩ := mk3 w [.bool n0, .string s0, .string d0] [.bool n1, .string s1, .string d1] [.bool false, .string { data := #[] }, .string { data := #[] }] 26 26 26
 rw [← hw]
 clear hw
 have sz := b1.size
 have ta := ka.lt
 have tb := kb.lt
 have tr := kr.lt
 have bb := b1
 clear b1
 have mk : Hid (∀ w', SB w1 w' → xc3 w' w.heap.size (.bool n0) (.string s0) (.string d0) ∧ xc3 w' (w.heap.size + 1) (.bool n1) (.string s1) (.string d1)) := fun w' h => ⟨xk3 (ka.below h), xk3 (kb.below h)⟩
 go_cut [6] from 10 to 14 (fun v wx => ∃ gc, v = .pointer (some ⟨gc, 0, none⟩) ∧ w1.heap.size ≤ gc ∧ Cel wx gc [.bool gN, .string gS] 24 ∧ Below w1.heap.size w1 wx)
 case first =>
  clear H2 H3 H4 H5 H6 H7 H8 H9 H10 kr
  refine wp_region_held_drew (S := SB w1) (by kernel_rfl) (bdrew _) (fun bc => ?_)
  refine WA.start (n := 7) (by kernel_rfl) ?_
  refine WA.tl 0 rfl ?_
  refine WA.tl 2 rfl ?_
  refine WA.gen (i := 5) (s := 6) undef (Pt w1 [.bool false, .string { data := #[] }] 24) (fun b x hz => ?_)
  simp only [Act.put, List.setIfInBounds_toArray, List.set_cons_zero, List.set_cons_succ]
  revert b x
  refine WA.one 7 5 1 5 rfl rfl bc ?_
  clear bc
  intro b x w' hz bx bc K hK
  clear bx
  simp only [List.getElem_toArray, List.getElem_cons_succ, List.getElem_cons_zero]
  go_simp
  go_fit (den_any n0 s0 d0 _)
  rintro e wn ⟨rfl, bn⟩
  replace bc := Below.after bc bn
  try go_wp2_with fail
  refine hK.out _ _ bc (fun _ => ?_)
  replace hz := fun h => (hz h).below bn
  clear hK K bn
  revert b x
  refine WA.one 7 7 3 5 rfl rfl bc ?_
  clear bc
  intro b x w' hz bx bc K hK
  clear bx
  simp only [List.getElem_toArray, List.getElem_cons_succ, List.getElem_cons_zero]
  go_simp
  go_fit (den_any n1 s1 d1 _)
  rintro e wn ⟨rfl, bn⟩
  replace bc := Below.after bc bn
  try go_wp2_with fail
  refine hK.out _ _ bc (fun _ => ?_)
  replace hz := fun h => (hz h).below bn
  clear hK K bn
  revert b x
  refine WA.one 7 15 4 5 rfl rfl bc ?_
  clear bc
  intro b x w' hz bx bc K hK
  clear bx
  simp only [List.getElem_toArray, List.getElem_cons_succ, List.getElem_cons_zero]
  go_simp
  go_fit (H1.out _ ?_)
  ·exact Below.after bb bc
  rintro e wn ⟨rfl, bn⟩
  replace bc := Below.after bc bn
  try go_wp2_with fail
  refine hK.out _ _ bc (fun _ => ?_)
  replace hz := fun h => (hz h).below bn
  clear hK K bn
  revert b x
  refine WA.fin 5 rfl bc ?_
  clear bc
  intro x w' hz bx bc
  obtain ⟨g0, rfl, h0, k0⟩ := hz
  clear bx
  have e0_0 := cel2_0' k0
  have f0_0 := Cel.frozen k0 0
  have e0_1 := cel2_1' k0
  have f0_1 := Cel.frozen k0 1
  refine WA.call 6 rfl (fun K hK => ?_)
  simp only [List.getElem_toArray, List.getElem_cons_succ, List.getElem_cons_zero]
  go_simp
  try go_wp2_with fail
  clear e0_0 f0_0 e0_1 f0_1
  refine hK.out _ _ (bset (bset bc h0 0 (.bool gN)) h0 1 (.string gS)) (fun hS => ?_)
  clear hK K
  replace k0 := (Cel.set (Cel.set k0 0 (.bool gN)) 1 (.string gS))
  replace bc := (bset (bset bc h0 0 (.bool gN)) h0 1 (.string gS))
  refine WA.done (by kernel_rfl) ?_
  go_wp2_with fail
  go_meet
  exact ⟨_, rfl, h0, k0, bc⟩
 case rest =>
 obtain ⟨gg, rfl, lg, kg, b1⟩ := hcut
 clear mk
 have sz := b1.size
 replace ka := ka.below b1
 replace kb := kb.below b1
 replace kr := kr.below b1
 replace bb := Below.after bb b1
 clear b1
 have tg := kg.lt
 go_wp2_with fail
 have mk : Hid (∀ w', SB wc w' → xc3 w' w.heap.size (.bool n0) (.string s0) (.string d0) ∧ xc3 w' (w.heap.size + 1) (.bool n1) (.string s1) (.string d1) ∧ xc2 w' gg (.bool gN) (.string gS)) := fun w' h => ⟨xk3 (ka.below h), xk3 (kb.below h), xk2 (kg.below h)⟩
 go_cut [7, 8] from 15 to 22 (fun v u wx => ∃ gc gd, v = .pointer (some ⟨gc, 0, none⟩) ∧ u = .pointer (some ⟨gd, 0, none⟩) ∧ wc.heap.size ≤ gc ∧ wc.heap.size ≤ gd ∧ Cel wx gc [.bool aN, .string aS] 24 ∧ Cel wx gd [.bool bN, .string bS] 24 ∧ Below wc.heap.size wc wx)
 case first =>
  clear H1 H4 H5 H6 H7 H8 H9 H10 kr
  refine wp_region_held_drew (S := SB wc) (by kernel_rfl) (bdrew _) (fun bc => ?_)
  refine WA.start (n := 12) (by kernel_rfl) ?_
  refine WA.tl 0 rfl ?_
  refine WA.tl 2 rfl ?_
  refine WA.tl 4 rfl ?_
  refine WA.tl 6 rfl ?_
  refine WA.gen2 (i := 8) (s := 7) (i' := 9) (s' := 8) undef undef (Pt wc [.bool false, .string { data := #[] }] 24) (Pt wc [.bool false, .string { data := #[] }] 24) (fun b b' x x' hz hy hn => ?_)
  simp only [Act.put, List.setIfInBounds_toArray, List.set_cons_zero, List.set_cons_succ]
  replace hz := P2.mk hz hy hn
  clear hy hn
  revert b b' x x'
  refine WA.two 12 85 1 8 9 rfl rfl rfl bc ?_
  clear bc
  intro b b' x x' w' hz bx bc K hK
  clear bx
  simp only [List.getElem_toArray, List.getElem_cons_succ, List.getElem_cons_zero]
  go_simp
  go_fit (den_any n0 s0 d0 _)
  rintro e wn ⟨rfl, bn⟩
  replace bc := Below.after bc bn
  try go_wp2_with fail
  refine hK.out _ _ bc (fun _ => ?_)
  replace hz := hz.below bn
  clear hK K bn
  revert b b' x x'
  refine WA.two 12 87 3 8 9 rfl rfl rfl bc ?_
  clear bc
  intro b b' x x' w' hz bx bc K hK
  clear bx
  simp only [List.getElem_toArray, List.getElem_cons_succ, List.getElem_cons_zero]
  go_simp
  go_fit (H2.out _)
  rintro e wn ⟨rfl, bn⟩
  replace bc := Below.after bc bn
  try go_wp2_with fail
  refine hK.out _ _ bc (fun _ => ?_)
  replace hz := hz.below bn
  clear hK K bn
  revert b b' x x'
  refine WA.two 12 95 5 8 9 rfl rfl rfl bc ?_
  clear bc
  intro b b' x x' w' hz bx bc K hK
  clear bx
  simp only [List.getElem_toArray, List.getElem_cons_succ, List.getElem_cons_zero]
  go_simp
  go_fit (den_any n1 s1 d1 _)
  rintro e wn ⟨rfl, bn⟩
  replace bc := Below.after bc bn
  try go_wp2_with fail
  refine hK.out _ _ bc (fun _ => ?_)
  replace hz := hz.below bn
  clear hK K bn
  revert b b' x x'
  refine WA.two 12 127 7 8 9 rfl rfl rfl bc ?_
  clear bc
  intro b b' x x' w' hz bx bc K hK
  clear bx
  simp only [List.getElem_toArray, List.getElem_cons_succ, List.getElem_cons_zero]
  go_simp
  go_fit (H3.out _)
  rintro e wn ⟨rfl, bn⟩
  replace bc := Below.after bc bn
  try go_wp2_with fail
  refine hK.out _ _ bc (fun _ => ?_)
  replace hz := hz.below bn
  clear hK K bn
  revert b b' x x'
  refine WA.fin2 8 9 rfl rfl bc ?_
  clear bc
  intro x x' w' hz bx bc
  obtain ⟨g0, rfl, h0, k0⟩ := hz.p rfl
  obtain ⟨g1, rfl, h1, k1⟩ := hz.p' rfl
  have n01 : ¬ g0 = g1 := fun e => hz.ne rfl rfl (by rw [e])
  clear bx hz
  have e0_0 := cel2_0' k0
  have f0_0 := Cel.frozen k0 0
  have e0_1 := cel2_1' k0
  have f0_1 := Cel.frozen k0 1
  refine WA.call 10 rfl (fun K hK => ?_)
  simp only [List.getElem_toArray, List.getElem_cons_succ, List.getElem_cons_zero]
  go_simp
  try go_wp2_with fail
  clear e0_0 f0_0 e0_1 f0_1
  refine hK.out _ _ (bset (bset bc h0 0 (.bool aN)) h0 1 (.string aS)) (fun hS => ?_)
  clear hK K
  replace k0 := (Cel.set (Cel.set k0 0 (.bool aN)) 1 (.string aS))
  replace k1 := (Cel.other (Cel.other k1 (fun e => n01 e.symm) 0 (.bool aN)) (fun e => n01 e.symm) 1 (.string aS))
  replace bc := (bset (bset bc h0 0 (.bool aN)) h0 1 (.string aS))
  have e1_0 := cel2_0' k1
  have f1_0 := Cel.frozen k1 0
  have e1_1 := cel2_1' k1
  have f1_1 := Cel.frozen k1 1
  refine WA.call 11 rfl (fun K hK => ?_)
  simp only [List.getElem_toArray, List.getElem_cons_succ, List.getElem_cons_zero]
  go_simp
  try go_wp2_with fail
  clear e1_0 f1_0 e1_1 f1_1
  refine hK.out _ _ (bset (bset bc h1 0 (.bool bN)) h1 1 (.string bS)) (fun hS => ?_)
  clear hK K
  replace k0 := (Cel.other (Cel.other k0 n01 0 (.bool bN)) n01 1 (.string bS))
  replace k1 := (Cel.set (Cel.set k1 0 (.bool bN)) 1 (.string bS))
  replace bc := (bset (bset bc h1 0 (.bool bN)) h1 1 (.string bS))
  refine WA.done (by kernel_rfl) ?_
  go_wp2_with fail
  go_meet
  exact ⟨_, _, rfl, rfl, h0, h1, k0, k1, bc⟩
 case rest =>
 obtain ⟨gp, gq, rfl, rfl, lp, lq, kp, kq, b1⟩ := hcut
 clear mk
 have sz := b1.size
 replace ka := ka.below b1
 replace kb := kb.below b1
 replace kr := kr.below b1
 replace kg := kg.below b1
 replace bb := Below.after bb b1
 clear b1
 have tp := kp.lt
 have tq := kq.lt
 go_wp2_with fail
 have mk : Hid (∀ w', SB wc w' → xc3 w' w.heap.size (.bool n0) (.string s0) (.string d0) ∧ xc3 w' (w.heap.size + 1) (.bool n1) (.string s1) (.string d1) ∧ xc2 w' gp (.bool aN) (.string aS) ∧ xc2 w' gq (.bool bN) (.string bS)) := fun w' h => ⟨xk3 (ka.below h), xk3 (kb.below h), xk2 (kp.below h), xk2 (kq.below h)⟩
 go_cut [9] from 23 to 31 (fun v wx => ∃ gc, v = .pointer (some ⟨gc, 0, none⟩) ∧ wc.heap.size ≤ gc ∧ Cel wx gc [.bool zN, .string zS] 24 ∧ Below wc.heap.size wc wx)
 case first =>
  clear H1 H2 H3 H7 H8 H9 H10 kr kg
  refine wp_region_held_drew (S := SB wc) (by kernel_rfl) (bdrew _) (fun bc => ?_)
  refine WA.start (n := 11) (by kernel_rfl) ?_
  refine WA.tl 0 rfl ?_
  refine WA.tl 1 rfl ?_
  refine WA.tl 2 rfl ?_
  refine WA.tl 4 rfl ?_
  refine WA.tl 5 rfl ?_
  refine WA.tl 6 rfl ?_
  refine WA.gen (i := 9) (s := 9) undef (Pt wc [.bool false, .string { data := #[] }] 24) (fun b x hz => ?_)
  simp only [Act.put, List.setIfInBounds_toArray, List.set_cons_zero, List.set_cons_succ]
  revert b x
  refine WA.one 11 119 3 9 rfl rfl bc ?_
  clear bc
  intro b x w' hz bx bc K hK
  clear bx
  simp only [List.getElem_toArray, List.getElem_cons_succ, List.getElem_cons_zero]
  go_simp
  go_fit (H4.out _)
  rintro e wn ⟨rfl, bn⟩
  replace bc := Below.after bc bn
  try go_wp2_with fail
  refine hK.out _ _ bc (fun _ => ?_)
  replace hz := fun h => (hz h).below bn
  clear hK K bn
  revert b x
  refine WA.one 11 127 7 9 rfl rfl bc ?_
  clear bc
  intro b x w' hz bx bc K hK
  clear bx
  simp only [List.getElem_toArray, List.getElem_cons_succ, List.getElem_cons_zero]
  go_simp
  go_fit (H5.out _)
  rintro e wn ⟨rfl, bn⟩
  replace bc := Below.after bc bn
  try go_wp2_with fail
  refine hK.out _ _ bc (fun _ => ?_)
  replace hz := fun h => (hz h).below bn
  clear hK K bn
  revert b x
  refine WA.one 11 255 8 9 rfl rfl bc ?_
  clear bc
  intro b x w' hz bx bc K hK
  clear bx
  simp only [List.getElem_toArray, List.getElem_cons_succ, List.getElem_cons_zero]
  go_simp
  go_fit (H6.out _)
  rintro e wn ⟨rfl, bn⟩
  replace bc := Below.after bc bn
  try go_wp2_with fail
  refine hK.out _ _ bc (fun _ => ?_)
  replace hz := fun h => (hz h).below bn
  clear hK K bn
  revert b x
  refine WA.fin 9 rfl bc ?_
  clear bc
  intro x w' hz bx bc
  obtain ⟨g0, rfl, h0, k0⟩ := hz
  clear bx
  have e0_0 := cel2_0' k0
  have f0_0 := Cel.frozen k0 0
  have e0_1 := cel2_1' k0
  have f0_1 := Cel.frozen k0 1
  refine WA.call 10 rfl (fun K hK => ?_)
  simp only [List.getElem_toArray, List.getElem_cons_succ, List.getElem_cons_zero]
  go_simp
  try go_wp2_with fail
  clear e0_0 f0_0 e0_1 f0_1
  refine hK.out _ _ (bset (bset bc h0 0 (.bool zN)) h0 1 (.string zS)) (fun hS => ?_)
  clear hK K
  replace k0 := (Cel.set (Cel.set k0 0 (.bool zN)) 1 (.string zS))
  replace bc := (bset (bset bc h0 0 (.bool zN)) h0 1 (.string zS))
  refine WA.done (by kernel_rfl) ?_
  go_wp2_with fail
  go_meet
  exact ⟨_, rfl, h0, k0, bc⟩
 case rest =>
 obtain ⟨gz, rfl, lz, kz, b1⟩ := hcut
 clear mk
 have sz := b1.size
 replace ka := ka.below b1
 replace kb := kb.below b1
 replace kr := kr.below b1
 replace kg := kg.below b1
 replace kp := kp.below b1
 replace kq := kq.below b1
 replace bb := Below.after bb b1
 clear b1
 have tz := kz.lt
 obtain ⟨cz_0, cz_1⟩ := xk2 kz
 obtain ⟨cg_2, cg_3⟩ := xk2 kg
 go_wp2_with fail
 clear cz_0 cz_1 cg_2 cg_3
 go_fit (H7.out _ bb)
 rintro e w2 ⟨rfl, b1⟩
 have sz := b1.size
 replace ka := ka.below b1
 replace kb := kb.below b1
 replace kr := kr.below b1
 replace kg := kg.below b1
 replace kp := kp.below b1
 replace kq := kq.below b1
 replace kz := kz.below b1
 replace bb := Below.after bb b1
 clear b1
 have cg_0 := cel2_0' kg
 have fg_1 := Cel.frozen kg 0
 have cg_2 := cel2_1' kg
 have fg_3 := Cel.frozen kg 1
 go_wp2_with fail
 clear cg_0 fg_1 cg_2 fg_3
 obtain ⟨w3, hw⟩ : ∃ x, x = (w2.setCell ⟨gg, 0, none⟩ (.bool cN)).setCell ⟨gg, 1, none⟩ (.string cS) := ⟨_, rfl⟩
 rw [← hw]
 replace ka := (Cel.other (g' := gg) (Cel.other (g' := gg) ka (by omega) 0 (.bool cN)) (by omega) 1 (.string cS))
 rw [← hw] at ka
 replace kb := (Cel.other (g' := gg) (Cel.other (g' := gg) kb (by omega) 0 (.bool cN)) (by omega) 1 (.string cS))
 rw [← hw] at kb
 replace kr := (Cel.other (g' := gg) (Cel.other (g' := gg) kr (by omega) 0 (.bool cN)) (by omega) 1 (.string cS))
 rw [← hw] at kr
 replace kg := ((kg.set 0 (.bool cN)).set 1 (.string cS))
 rw [← hw] at kg
 replace kp := (Cel.other (g' := gg) (Cel.other (g' := gg) kp (by omega) 0 (.bool cN)) (by omega) 1 (.string cS))
 rw [← hw] at kp
 replace kq := (Cel.other (g' := gg) (Cel.other (g' := gg) kq (by omega) 0 (.bool cN)) (by omega) 1 (.string cS))
 rw [← hw] at kq
 replace kz := (Cel.other (g' := gg) (Cel.other (g' := gg) kz (by omega) 0 (.bool cN)) (by omega) 1 (.string cS))
 rw [← hw] at kz
 replace bb := (bset (g := gg) (bset (g := gg) bb (by omega) 0 (.bool cN)) (by omega) 1 (.string cS))
 rw [← hw] at bb
 clear hw
 have qb : w.heap.size + 1 ≠ w.heap.size + 1 + 1 := by omega
 have qp : gp ≠ w.heap.size + 1 + 1 := by omega
 have qz : gz ≠ w.heap.size + 1 + 1 := by omega
 have qg : gg ≠ w.heap.size + 1 + 1 := by omega
 have gf := fld1 rN rS
 go_region_held3 (fun w' => xc3 w' (w.heap.size + 1) (.bool n1) (.string s1) (.string d1) ∧ xc2 w' gp (.bool aN) (.string aS) ∧ xc2 w' gz (.bool zN) (.string zS) ∧ xc2 w' gg (.bool cN) (.string cS)) (first | exact ⟨xk3 kb, xk2 kp, xk2 kz, xk2 kg⟩ | exact ⟨xk3 (Cel.other (Cel.other (Cel.other kb qb 0 _) qb 1 _) qb 2 _), xk2 (Cel.other (Cel.other (Cel.other kp qp 0 _) qp 1 _) qp 2 _), xk2 (Cel.other (Cel.other (Cel.other kz qz 0 _) qz 1 _) qz 2 _), xk2 (Cel.other (Cel.other (Cel.other kg qg 0 _) qg 1 _) qg 2 _)⟩) (first | (go_at_call 105; go_fit (H8.out _); rintro e wn ⟨rfl, bn⟩; replace ka := ka.below (un bn); replace kb := kb.below (un bn); replace kr := kr.below (un bn); replace kg := kg.below (un bn); replace kp := kp.below (un bn); replace kq := kq.below (un bn); replace kz := kz.below (un bn); replace bb := Below.after bb (un bn)) | (go_at_call 157; go_fit (den_any n1 s1 d1 _); rintro e wn ⟨rfl, bn⟩; replace ka := ka.below (un bn); replace kb := kb.below (un bn); replace kr := kr.below (un bn); replace kg := kg.below (un bn); replace kp := kp.below (un bn); replace kq := kq.below (un bn); replace kz := kz.below (un bn); replace bb := Below.after bb (un bn)) | (go_at_call 105; go_fit (H9.out _); rintro e wn ⟨rfl, bn⟩; replace ka := ka.below (un bn); replace kb := kb.below (un bn); replace kr := kr.below (un bn); replace kg := kg.below (un bn); replace kp := kp.below (un bn); replace kq := kq.below (un bn); replace kz := kz.below (un bn); replace bb := Below.after bb (un bn)) | (go_at_call 156; go_fit (H10.out _); rintro e wn ⟨rfl, bn⟩; replace ka := ka.below (un bn); replace kb := kb.below (un bn); replace kr := kr.below (un bn); replace kg := kg.below (un bn); replace kp := kp.below (un bn); replace kq := kq.below (un bn); replace kz := kz.below (un bn); replace bb := Below.after bb (un bn); have e0 := cel3_0 kr; have f0 := Cel.frozen kr 0; have e1 := cel3_1 kr; have f1 := Cel.frozen kr 1; have e2 := cel3_2 kr; have f2 := Cel.frozen kr 2))
 go_wp2
 exact post_q1 (p := 4) (u := 5) (by kernel_rfl) rfl rfl rfl (((kr.set 0 _).set 1 _).set 2 _) ⟨rfl, bset (bset (bset bb (by omega) 0 _) (by omega) 1 _) (by omega) 2 _⟩
theorem named0 : ∃ (nf : Int → Bool) (sf : Int → ByteArray), (∀ z, zI z = .agg #[.bool (nf z), .string (sf z)]) ∧ (∀ z, OkZ (nf z) (sf z)) ∧ (∀ z k, Bd z k → (sf z).size ≤ k) ∧ (∀ z, zOf (nf z) (sf z) = z) ∧ (∀ z, natOf (sf z) = z.natAbs) ∧ (∀ m : Nat, nf (m : Int) = false) ∧ (∀ m : Nat, sf (m : Int) = strOf m) ∧ (∀ m : Nat, natOf (sf (m : Int)) = m) ∧ (∀ m : Nat, zI (m : Int) = .agg #[.bool false, .string (sf (m : Int))]) := by
 obtain ⟨nf, sf, h1, h2, h3, h4, -, h6, h7, h8⟩ := named
 have hn : ∀ m : Nat, nf (m : Int) = false := fun m => by rw [h7]; simp
 exact ⟨nf, sf, h1, h2, h3, h4, h6, hn, fun m => by rw [h8]; rfl, fun m => by rw [h6]; rfl, fun m => by rw [h1, hn]⟩
theorem bd_nat {s : ByteArray} {k : Nat} (h : s.size ≤ k) : Bd ((natOf s : Nat) : Int) k := bd_zOf (n := false) h
theorem zOf_false (s : ByteArray) : zOf false s = ((natOf s : Nat) : Int) := rfl
theorem sum_ok (n0 n1 : Bool) (s0 d0 s1 d1 : ByteArray) (w : World) (hT : Tab w) (o0 : OkQ n0 s0 d0) (o1 : OkQ n1 s1 d1) {K : Nat} (hK : K ≤ 4000) (z0 : s0.size ≤ K) (y0 : d0.size ≤ K) (z1 : s1.size ≤ K) (y1 : d1.size ≤ K) :
  Calls Tryz.prog 135 #[.agg #[.bool n0, .string s0, .string d0], .agg #[.bool n1, .string s1, .string d1]] w (Re w (.tuple #[qI (qOf n0 s0 d0 + qOf n1 s1 d1), .int .i64 0])) := by
 obtain ⟨nf, sf, hf, hok, hsz, hz, hnat, hneg, hstr, hnn, hfn⟩ := named0
 obtain ⟨G, hG⟩ : ∃ G, G = Nat.gcd (natOf d0) (natOf d1) := ⟨_, rfl⟩
 obtain ⟨ra, hra⟩ : ∃ x, x = natOf d0 / G := ⟨_, rfl⟩
 obtain ⟨rb, hrb⟩ : ∃ x, x = natOf d1 / G := ⟨_, rfl⟩
 obtain ⟨N, hN⟩ : ∃ x : Int, x = zOf n0 s0 * (rb : Nat) + zOf n1 s1 * (ra : Nat) := ⟨_, rfl⟩
 obtain ⟨C, hC⟩ : ∃ x, x = Nat.gcd N.natAbs G := ⟨_, rfl⟩
 have hGp : 0 < G := by rw [hG]; exact Nat.gcd_pos_of_pos_left _ o0.2.2.1
 have hCp : 0 < C := by rw [hC]; exact Nat.gcd_pos_of_pos_right _ hGp
 have key := Q.add_low (qOf n0 s0 d0) (qOf n1 s1 d1) G ra rb (by rw [o0.low.2, o1.low.2]; exact hG) (by rw [o0.low.2]; exact hra) (by rw [o1.low.2]; exact hrb) N (by rw [o0.low.1, o1.low.1]; exact hN) C hC
 rw [o1.low.2] at key
 have ed0 : OkZ false d0 := ⟨o0.2.1, fun h => by cases h⟩
 have ed1 : OkZ false d1 := ⟨o1.2.1, fun h => by cases h⟩
 have bG : Bd (G : Int) K := (bd_nat y0).nat (by rw [hG]; exact Nat.le_of_dvd o0.2.2.1 (Nat.gcd_dvd_left _ _))
 have bra : Bd (ra : Int) K := (bd_nat y0).nat (by rw [hra]; exact Nat.div_le_self _ _)
 have brb : Bd (rb : Int) K := (bd_nat y1).nat (by rw [hrb]; exact Nat.div_le_self _ _)
 have bx : Bd (zOf n0 s0 * (rb : Nat)) (K + K) := (bd_zOf z0).mul brb
 have bY : Bd (zOf n1 s1 * (ra : Nat)) (K + K) := (bd_zOf z1).mul bra
 have bN : Bd N (K + K + 1) := by rw [hN]; exact bx.add bY
 have bC : Bd (C : Int) K := bG.nat (by rw [hC]; exact Nat.le_of_dvd hGp (Nat.gcd_dvd_right _ _))
 have bq : Bd ((natOf d1 / C : Nat) : Int) K := (bd_nat y1).nat (Nat.div_le_self _ _)
 have eq := qI_of key (hf _) (hstr _).symm.symm
 rw [eq]
 refine sum_walk n0 n1 false false false (nf (zOf n0 s0 * (rb : Nat))) (nf (zOf n1 s1 * (ra : Nat))) (nf N) false (nf (N / (C : Nat))) false false s0 d0 s1 d1 (sf (G : Nat)) (sf (ra : Nat)) (sf (rb : Nat)) (sf (zOf n0 s0 * (rb : Nat))) (sf (zOf n1 s1 * (ra : Nat))) (sf N) (sf (C : Nat)) (sf (N / (C : Nat))) (sf ((natOf d1 / C : Nat) : Int)) (sf ((ra * (natOf d1 / C) : Nat) : Int)) w ?_ ?_ ?_ ?_ ?_ ?_ ?_ ?_ ?_ ?_
 ·intro w1 b
  have := divisor_ok false false d0 d1 w1 ed0 ed1 (by omega) (by omega) (hT.below b)
  rwa [← hG, hfn] at this
 ·intro w1
  have := cut_ok false d0 (sf (G : Nat)) w1 ed0 (hok _).1 (by omega) (Nat.le_trans (hsz _ _ bG) (by omega)) (by rw [hnn]; exact hGp)
  rwa [hnn, zOf_false, ← Int.natCast_ediv, ← hra, hfn] at this
 ·intro w1
  have := cut_ok false d1 (sf (G : Nat)) w1 ed1 (hok _).1 (by omega) (Nat.le_trans (hsz _ _ bG) (by omega)) (by rw [hnn]; exact hGp)
  rwa [hnn, zOf_false, ← Int.natCast_ediv, ← hrb, hfn] at this
 ·intro w1
  have := times_ok n0 false s0 (sf (rb : Nat)) w1 o0.1 ⟨(hok _).1, fun h => by cases h⟩ (by omega) (Nat.le_trans (hsz _ _ brb) (by omega))
  rwa [zOf_false, hnn, hf] at this
 ·intro w1
  have := times_ok n1 false s1 (sf (ra : Nat)) w1 o1.1 ⟨(hok _).1, fun h => by cases h⟩ (by omega) (Nat.le_trans (hsz _ _ bra) (by omega))
  rwa [zOf_false, hnn, hf] at this
 ·intro w1
  have := plus_ok _ _ _ _ w1 (hok (zOf n0 s0 * (rb : Nat))) (hok (zOf n1 s1 * (ra : Nat))) (Nat.le_trans (hsz _ _ bx) (by omega)) (Nat.le_trans (hsz _ _ bY) (by omega))
  rwa [hz, hz, ← hN, hf] at this
 ·intro w1 b
  have := divisor_ok _ false _ (sf (G : Nat)) w1 (hok N) ⟨(hok _).1, fun h => by cases h⟩ (Nat.le_trans (hsz _ _ bN) (by omega)) (Nat.le_trans (hsz _ _ bG) (by omega)) (hT.below b)
  rwa [hnat N, hnn, ← hC, hfn] at this
 ·intro w1
  have := cut_ok _ _ (sf (C : Nat)) w1 (hok N) (hok _).1 (Nat.le_trans (hsz _ _ bN) (by omega)) (Nat.le_trans (hsz _ _ bC) (by omega)) (by rw [hnn]; exact hCp)
  rwa [hnn, hz, hf] at this
 ·intro w1
  have := cut_ok false d1 (sf (C : Nat)) w1 ed1 (hok _).1 (by omega) (Nat.le_trans (hsz _ _ bC) (by omega)) (by rw [hnn]; exact hCp)
  rwa [hnn, zOf_false, ← Int.natCast_ediv, hfn] at this
 ·intro w1
  have := times_ok false false (sf (ra : Nat)) (sf ((natOf d1 / C : Nat) : Int)) w1 ⟨(hok _).1, fun h => by cases h⟩ ⟨(hok _).1, fun h => by cases h⟩ (Nat.le_trans (hsz _ _ bra) (by omega)) (Nat.le_trans (hsz _ _ bq) (by omega))
  rwa [zOf_false, zOf_false, hnn, hnn, ← Int.natCast_mul, hfn] at this
theorem reckon_sum (n0 n1 pN : Bool) (s0 d0 s1 d1 pS qS : ByteArray) (EE : Int) (w : World)
  (HC : Hid (∀ (B : Nat) (w1 : World), Below w.heap.size w w1 → Cel w1 B [.bool n0, .string s0, .string d0, .bool n1, .string s1, .string d1] 26 → Calls Tryz.prog 133 #[.slice (some ⟨B, 0, none⟩) 2 2] w1 (Re w1 (.int .i64 0))))
  (H1 : Hid (∀ w1, Below w.heap.size w w1 → Calls Tryz.prog 135 #[.agg #[.bool n0, .string s0, .string d0], .agg #[.bool n1, .string s1, .string d1]] w1 (Re w1 (.tuple #[.agg #[.bool pN, .string pS, .string qS], .int .i64 EE])))) :
  Calls Tryz.prog 97 #[.agg #[.bool n0, .string s0, .string d0], .agg #[.bool n1, .string s1, .string d1], .func (.func 135) #[] #[]] w (Re w (.tuple #[.agg #[.bool pN, .string pS, .string qS], .int .i64 EE])) := by
 go_enter Tryz.func97, Tryz.ntmps97
 go_wp2_with fail
 obtain ⟨w1, hw, ka, kb, kr, kl, b1⟩ := mk4 w [.bool n0, .string s0, .string d0] [.bool n1, .string s1, .string d1] [.bool false, .string { data := #[] }, .string { data := #[] }] [.bool n0, .string s0, .string d0, .bool n1, .string s1, .string d1] 26 26 26 26
 rw [← hw]
 clear hw
 have sz := b1.size
 have ta := ka.lt
 have tb := kb.lt
 have tr := kr.lt
 have tl := kl.lt
 have bb := b1
 clear b1
 go_fit (HC.out _ _ bb kl)
 rintro e w2 ⟨rfl, b1⟩
 have sz := b1.size
 replace ka := ka.below b1
 replace kb := kb.below b1
 replace kr := kr.below b1
 replace kl := kl.below b1
 replace bb := Below.after bb b1
 clear b1
 clear kl
 obtain ⟨ca_0, ca_1, ca_2⟩ := xk3 ka
 obtain ⟨cb_3, cb_4, cb_5⟩ := xk3 kb
 go_wp2_with fail
 clear ca_0 ca_1 ca_2 cb_3 cb_4 cb_5
 go_fit (H1.out _ bb)
 rintro e w3 ⟨rfl, b1⟩
 have sz := b1.size
 replace ka := ka.below b1
 replace kb := kb.below b1
 replace kr := kr.below b1
 replace bb := Below.after bb b1
 clear b1
 have cr_0 := cel3_0 kr
 have fr_1 := Cel.frozen kr 0
 have cr_2 := cel3_1 kr
 have fr_3 := Cel.frozen kr 1
 have cr_4 := cel3_2 kr
 have fr_5 := Cel.frozen kr 2
 go_wp2
 exact post_q1 (p := 6) (u := 7) (v := .int .i64 EE) (by kernel_rfl) rfl rfl rfl (((kr.set 0 _).set 1 _).set 2 _) ⟨rfl, bset (bset (bset bb (by omega) 0 _) (by omega) 1 _) (by omega) 2 _⟩
theorem add_walk (n0 n1 pN : Bool) (s0 d0 s1 d1 pS qS : ByteArray) (EE : Int) (w : World)
  (H1 : Hid (∀ w1, Below w.heap.size w w1 → Calls Tryz.prog 97 #[.agg #[.bool n0, .string s0, .string d0], .agg #[.bool n1, .string s1, .string d1], .func (.func 135) #[] #[]] w1 (Re w1 (.tuple #[.agg #[.bool pN, .string pS, .string qS], .int .i64 EE])))) :
  Calls Tryz.prog 100 #[.agg #[.bool n0, .string s0, .string d0], .agg #[.bool n1, .string s1, .string d1]] w (Re w (.tuple #[.agg #[.bool pN, .string pS, .string qS], .int .i64 EE])) := by
 go_enter Tryz.func100, Tryz.ntmps100
 go_wp2_with fail
 go_fit (H1.out _ (ba (ba (ba (Below.refl _ _) _) _) _))
 rintro e w1 ⟨rfl, b1⟩
 obtain ⟨ka, kb, kr, b1⟩ := al3 b1
 have sz := b1.size
 have bb := b1
 clear b1
 have ta := ka.lt
 have tb := kb.lt
 have tr := kr.lt
 have cr_0 := cel3_0 kr
 have fr_1 := Cel.frozen kr 0
 have cr_2 := cel3_1 kr
 have fr_3 := Cel.frozen kr 1
 have cr_4 := cel3_2 kr
 have fr_5 := Cel.frozen kr 2
 go_wp2
 exact post_q1 (p := 4) (u := 5) (v := .int .i64 EE) (by kernel_rfl) rfl rfl rfl (((kr.set 0 _).set 1 _).set 2 _) ⟨rfl, bset (bset (bset bb (by omega) 0 _) (by omega) 1 _) (by omega) 2 _⟩
theorem checkH (n0 n1 : Bool) (s0 d0 s1 d1 : ByteArray) (w : World) (hT : Tab w) : Hid (∀ (B : Nat) (w1 : World), Below w.heap.size w w1 → Cel w1 B [.bool n0, .string s0, .string d0, .bool n1, .string s1, .string d1] 26 → Calls Tryz.prog 133 #[.slice (some ⟨B, 0, none⟩) 2 2] w1 (Re w1 (.int .i64 (twoq n0 s0 d0 n1 s1 d1 : Nat)))) :=
 fun B w1 b h => check2_any B n0 n1 s0 d0 s1 d1 w1 (hT.below b) h
theorem qadd_ok (n0 n1 : Bool) (s0 d0 s1 d1 : ByteArray) (w : World) (hT : Tab w) (h : twoq n0 s0 d0 n1 s1 d1 = 0) {K : Nat} (hK : K ≤ 4000) (z0 : s0.size ≤ K) (y0 : d0.size ≤ K) (z1 : s1.size ≤ K) (y1 : d1.size ≤ K) :
  Calls Tryz.prog 100 #[.agg #[.bool n0, .string s0, .string d0], .agg #[.bool n1, .string s1, .string d1]] w (Re w (.tuple #[qI (qOf n0 s0 d0 + qOf n1 s1 d1), .int .i64 0])) := by
 have o0 := (chkq_zero (twoq_zero.1 h).1).1
 have o1 := (chkq_zero (twoq_zero.1 h).2).1
 refine add_walk n0 n1 _ s0 d0 s1 d1 _ _ 0 w (fun w1 b => ?_)
 have hc := checkH n0 n1 s0 d0 s1 d1 w1 (hT.below b)
 rw [h] at hc
 exact reckon_sum n0 n1 _ s0 d0 s1 d1 _ _ 0 w1 hc (fun w2 b2 => sum_ok n0 n1 s0 d0 s1 d1 w2 ((hT.below b).below b2) o0 o1 hK z0 y0 z1 y1)
theorem cmp_walk (n0 n1 xN yN : Bool) (s0 d0 s1 d1 xS yS : ByteArray) (c : Int) (w : World)
  (HC : Hid (∀ (B : Nat) (w1 : World), Below w.heap.size w w1 → Cel w1 B [.bool n0, .string s0, .string d0, .bool n1, .string s1, .string d1] 26 → Calls Tryz.prog 133 #[.slice (some ⟨B, 0, none⟩) 2 2] w1 (Re w1 (.int .i64 0))))
  (H1 : Hid (∀ w1, Calls Tryz.prog 156 #[.agg #[.bool n0, .string s0], .agg #[.bool false, .string d1]] w1 (Re w1 (.agg #[.bool xN, .string xS]))))
  (H2 : Hid (∀ w1, Calls Tryz.prog 156 #[.agg #[.bool n1, .string s1], .agg #[.bool false, .string d0]] w1 (Re w1 (.agg #[.bool yN, .string yS]))))
  (H3 : Hid (∀ w1, Calls Tryz.prog 155 #[.agg #[.bool xN, .string xS], .agg #[.bool yN, .string yS]] w1 (Re w1 (.int .i64 c)))) :
  Calls Tryz.prog 116 #[.agg #[.bool n0, .string s0, .string d0], .agg #[.bool n1, .string s1, .string d1]] w (Re w (.tuple #[.int .i64 c, .int .i64 0])) := by
 go_enter Tryz.func116, Tryz.ntmps116
 go_wp2_with fail
 obtain ⟨w1, hw, ka, kb, kl, b1⟩ := mk3 w [.bool n0, .string s0, .string d0] [.bool n1, .string s1, .string d1] [.bool n0, .string s0, .string d0, .bool n1, .string s1, .string d1] 26 26 26
 rw [← hw]
 clear hw
 have sz := b1.size
 have ta := ka.lt
 have tb := kb.lt
 have tl := kl.lt
 have bb := b1
 clear b1
 go_fit (HC.out _ _ bb kl)
 rintro e w2 ⟨rfl, b1⟩
 have sz := b1.size
 replace ka := ka.below b1
 replace kb := kb.below b1
 replace kl := kl.below b1
 replace bb := Below.after bb b1
 clear b1
 clear kl
 obtain ⟨ca_0, ca_1, ca_2⟩ := xk3 ka
 obtain ⟨cb_3, cb_4, cb_5⟩ := xk3 kb
 go_wp2_with fail
 clear ca_0 ca_1 ca_2 cb_3 cb_4 cb_5
 go_region_held3 (fun w' => xc3 w' w.heap.size (.bool n0) (.string s0) (.string d0) ∧ xc3 w' (w.heap.size + 1) (.bool n1) (.string s1) (.string d1)) (exact ⟨xk3 ka, xk3 kb⟩) (first | (go_at_call 157; go_fit (den_any _ _ _ _); rintro e wn ⟨rfl, bn⟩; replace ka := ka.below (un bn); replace kb := kb.below (un bn); replace bb := Below.after bb (un bn)) | (go_at_call 156; go_fit (H1.out _); rintro e wn ⟨rfl, bn⟩; replace ka := ka.below (un bn); replace kb := kb.below (un bn); replace bb := Below.after bb (un bn)) | (go_at_call 156; go_fit (H2.out _); rintro e wn ⟨rfl, bn⟩; replace ka := ka.below (un bn); replace kb := kb.below (un bn); replace bb := Below.after bb (un bn)) | (go_at_call 155; go_fit (H3.out _); rintro e wn ⟨rfl, bn⟩; replace ka := ka.below (un bn); replace kb := kb.below (un bn); replace bb := Below.after bb (un bn)))
 go_wp2
 go_ret2
 exact ⟨rfl, bb⟩
theorem qcmp_ok (n0 n1 : Bool) (s0 d0 s1 d1 : ByteArray) (w : World) (hT : Tab w) (h : twoq n0 s0 d0 n1 s1 d1 = 0) {K : Nat} (hK : K ≤ 4000) (z0 : s0.size ≤ K) (y0 : d0.size ≤ K) (z1 : s1.size ≤ K) (y1 : d1.size ≤ K) :
  Calls Tryz.prog 116 #[.agg #[.bool n0, .string s0, .string d0], .agg #[.bool n1, .string s1, .string d1]] w (Re w (.tuple #[.int .i64 (Q.cmp (qOf n0 s0 d0) (qOf n1 s1 d1)), .int .i64 0])) := by
 have o0 := (chkq_zero (twoq_zero.1 h).1).1
 have o1 := (chkq_zero (twoq_zero.1 h).2).1
 obtain ⟨nf, sf, hf, hok, hsz, hz, hnat, hneg, hstr, hnn, hfn⟩ := named0
 have hc := checkH n0 n1 s0 d0 s1 d1 w hT
 rw [h] at hc
 have bx : Bd (zOf n0 s0 * ((natOf d1 : Nat) : Int)) (K + K) := (bd_zOf z0).mul (bd_nat y1)
 have bY : Bd (zOf n1 s1 * ((natOf d0 : Nat) : Int)) (K + K) := (bd_zOf z1).mul (bd_nat y0)
 refine cmp_walk n0 n1 (nf (zOf n0 s0 * ((natOf d1 : Nat) : Int))) (nf (zOf n1 s1 * ((natOf d0 : Nat) : Int))) s0 d0 s1 d1 (sf (zOf n0 s0 * ((natOf d1 : Nat) : Int))) (sf (zOf n1 s1 * ((natOf d0 : Nat) : Int))) _ w hc ?_ ?_ ?_
 ·intro w1
  have := times_ok n0 false s0 d1 w1 o0.1 ⟨o1.2.1, fun h => by cases h⟩ (by omega) (by omega)
  rwa [zOf_false, hf] at this
 ·intro w1
  have := times_ok n1 false s1 d0 w1 o1.1 ⟨o0.2.1, fun h => by cases h⟩ (by omega) (by omega)
  rwa [zOf_false, hf] at this
 ·intro w1
  have := order_ok _ _ _ _ w1 (hok (zOf n0 s0 * ((natOf d1 : Nat) : Int))) (hok (zOf n1 s1 * ((natOf d0 : Nat) : Int))) (Nat.le_trans (hsz _ _ bx) (by omega)) (Nat.le_trans (hsz _ _ bY) (by omega))
  rw [hz, hz] at this
  have e : Q.cmp (qOf n0 s0 d0) (qOf n1 s1 d1) = cmpZ (zOf n0 s0 * ((natOf d1 : Nat) : Int)) (zOf n1 s1 * ((natOf d0 : Nat) : Int)) := by
   unfold Q.cmp cmpZ
   simp only [Q.lt_mul, o0.low.1, o0.low.2, o1.low.1, o1.low.2]
  rw [e]
  exact this
theorem qI_int (z : Int) {n : Bool} {s : ByteArray} (h : zI z = .agg #[.bool n, .string s]) : qI (z : Rat) = .agg #[.bool n, .string s, .string ⟨#[1]⟩] :=
 qI_of (q := (z : Rat)) (m := 1) ⟨rfl, rfl⟩ h strOf_one.symm
theorem make_some (n0 n1 gN pN qN : Bool) (s0 s1 gS pS qS : ByteArray) (w : World) (h1 : s1.toList.isEmpty = false) (h0 : s0.toList.isEmpty = false)
  (HL : Hid (∀ (B : Nat) (w : World) (_ : Cel w B [.string s0, .string s1] 22), Calls Tryz.prog 102 #[.slice (some ⟨B, 0, none⟩) 2 2] w (Re w (.bool false))))
  (C0 : Hid (∀ w1, Calls Tryz.prog 103 #[.agg #[.bool n0, .string s0]] w1 (Re w1 (.int .i64 0))))
  (C1 : Hid (∀ w1, Calls Tryz.prog 103 #[.agg #[.bool n1, .string s1]] w1 (Re w1 (.int .i64 0))))
  (H1 : Hid (∀ w1, Below w.heap.size w w1 → Calls Tryz.prog 104 #[.agg #[.bool n0, .string s0], .agg #[.bool n1, .string s1]] w1 (Re w1 (.agg #[.bool gN, .string gS]))))
  (H2 : Hid (∀ w1, Calls Tryz.prog 105 #[.agg #[.bool (!(n0 == n1)), .string s0], .agg #[.bool gN, .string gS]] w1 (Re w1 (.agg #[.bool pN, .string pS]))))
  (H3 : Hid (∀ w1, Calls Tryz.prog 105 #[.agg #[.bool false, .string s1], .agg #[.bool gN, .string gS]] w1 (Re w1 (.agg #[.bool qN, .string qS])))) :
  Calls Tryz.prog 61 #[.agg #[.bool n0, .string s0], .agg #[.bool n1, .string s1]] w (Re w (.tuple #[.agg #[.bool pN, .string pS, .string qS], .int .i64 0])) := by
 go_enter Tryz.func61, Tryz.ntmps61
 go_wp2_with fail
 obtain ⟨w1, hw, ka, kb, kr, kl, b1⟩ := mk4 w [.bool n0, .string s0] [.bool n1, .string s1] [.bool false, .string { data := #[] }, .string { data := #[] }] [.string s0, .string s1] 24 24 26 22
 rw [← hw]
 clear hw
 have sz := b1.size
 have ta := ka.lt
 have tb := kb.lt
 have tr := kr.lt
 have tl := kl.lt
 have bb := b1
 clear b1
 go_fit (HL.out _ _ kl)
 rintro e w2 ⟨rfl, b1⟩
 have sz := b1.size
 replace ka := ka.below b1
 replace kb := kb.below b1
 replace kr := kr.below b1
 replace kl := kl.below b1
 replace bb := Below.after bb b1
 clear b1
 clear kl
 obtain ⟨ca_0, ca_1⟩ := xk2 ka
 obtain ⟨cb_2, cb_3⟩ := xk2 kb
 go_wp2
 clear ca_0 ca_1 cb_2 cb_3
 go_loopw [21] (fun i wr => (Below w.heap.size w wr ∧ Cel wr w2.heap.size [.bool n0, .string s0, .bool n1, .string s1] 24 ∧ Cel wr w.heap.size [.bool n0, .string s0] 24 ∧ Cel wr (w.heap.size + 1) [.bool n1, .string s1] 24 ∧ Cel wr (w.heap.size + 1 + 1) [.bool false, .string { data := #[] }, .string { data := #[] }] 26) ∧ (i = .int .i64 0 ∨ i = .int .i64 1 ∨ i = .int .i64 2)) (fun i _ => 2 - (intOf i).toNat)
 case atStart => exact ⟨⟨ba bb _, Cel.new w2 _ _, ka.alloc _, kb.alloc _, kr.alloc _⟩, Or.inl rfl⟩
 case round =>
  clear bb ka kb kr
  obtain ⟨⟨bb, kl, ka, kb, kr⟩, hi⟩ := hrel
  have c0 := kl.cell 0
  have c1 := kl.cell 1
  have c2 := kl.cell 2
  have c3 := kl.cell 3
  simp only [List.getElem?_cons_zero, List.getElem?_cons_succ] at c0 c1 c2 c3
  rcases hi with rfl | rfl | rfl
  ·go_wp2_with fail
   go_fit (C0.out _)
   rintro e wn ⟨rfl, b1⟩
   obtain ⟨-, b1⟩ := al1 b1
   clear c0 c1 c2 c3
   replace kl := kl.below b1
   replace ka := ka.below b1
   replace kb := kb.below b1
   replace kr := kr.below b1
   replace bb := Below.after bb b1
   clear b1
   go_wp2
   exact ⟨⟨⟨bb, kl, ka, kb, kr⟩, Or.inr (Or.inl (by go_num))⟩, by simp [intOf]⟩
  ·go_wp2_with fail
   go_fit (C1.out _)
   rintro e wn ⟨rfl, b1⟩
   obtain ⟨-, b1⟩ := al1 b1
   clear c0 c1 c2 c3
   replace kl := kl.below b1
   replace ka := ka.below b1
   replace kb := kb.below b1
   replace kr := kr.below b1
   replace bb := Below.after bb b1
   clear b1
   go_wp2
   exact ⟨⟨⟨bb, kl, ka, kb, kr⟩, Or.inr (Or.inr (by go_num))⟩, by simp [intOf]⟩
  ·clear c0 c1 c2 c3
   obtain ⟨ca_0, ca_1⟩ := xk2 ka
   obtain ⟨cb_2, cb_3⟩ := xk2 kb
   go_wp2_with fail
   clear ca_0 ca_1 cb_2 cb_3
   go_fit (H1.out _ bb)
   rintro e w3 ⟨rfl, b1⟩
   have sz := b1.size
   replace kl := kl.below b1
   replace ka := ka.below b1
   replace kb := kb.below b1
   replace kr := kr.below b1
   replace bb := Below.after bb b1
   clear b1
   have szz := bb.size
   have tr := kr.lt
   have tb := kb.lt
   have kg := Cel.new w3 [.bool gN, .string gS] 24
   replace ka := ka.alloc (.cells #[.bool gN, .string gS] 24)
   replace kb := kb.alloc (.cells #[.bool gN, .string gS] 24)
   replace kr := kr.alloc (.cells #[.bool gN, .string gS] 24)
   replace kl := kl.alloc (.cells #[.bool gN, .string gS] 24)
   replace bb := ba bb (.cells #[.bool gN, .string gS] 24)
   obtain ⟨e0, e1⟩ := xk2 ka
   obtain ⟨e2, e3⟩ := xk2 kb
   have f0 := ka.frozen 0
   have kb1 := Cel.other (g' := w.heap.size) kb (by omega) 0 (.bool (!(n0 == n1)))
   obtain ⟨e4, e5⟩ := xk2 kb1
   have f1 := kb1.frozen 0
   go_wp2_with fail
   clear e0 e1 e2 e3 e4 e5 f0 f1
   obtain ⟨w4, hw⟩ : ∃ x, x = ((w3.alloc (.cells #[.bool gN, .string gS] 24)).setCell ⟨w.heap.size, 0, none⟩ (.bool (!(n0 == n1)))).setCell ⟨w.heap.size + 1, 0, none⟩ (.bool false) := ⟨_, rfl⟩
   rw [← hw]
   replace ka := Cel.other (g' := w.heap.size + 1) (ka.set 0 (.bool (!(n0 == n1)))) (by omega) 0 (.bool false)
   replace kb := kb1.set 0 (.bool false)
   replace kr := Cel.other (g' := w.heap.size + 1) (Cel.other (g' := w.heap.size) kr (by omega) 0 (.bool (!(n0 == n1)))) (by omega) 0 (.bool false)
   replace kg := Cel.other (g' := w.heap.size + 1) (Cel.other (g' := w.heap.size) kg (by omega) 0 (.bool (!(n0 == n1)))) (by omega) 0 (.bool false)
   replace bb := bset (g := w.heap.size + 1) (bset (g := w.heap.size) bb (by omega) 0 (.bool (!(n0 == n1)))) (by omega) 0 (.bool false)
   rw [← hw] at ka kb kr kg bb
   clear hw kb1 kl
   have tq := kr.lt
   have qa : w.heap.size ≠ w.heap.size + 1 + 1 := by omega
   have qb : w.heap.size + 1 ≠ w.heap.size + 1 + 1 := by omega
   have qg : w3.heap.size ≠ w.heap.size + 1 + 1 := by omega
   have gf := fld1 qN qS
   go_region_held3 (fun w' => xc2 w' w.heap.size (.bool (!(n0 == n1))) (.string s0) ∧ xc2 w' (w.heap.size + 1) (.bool false) (.string s1) ∧ xc2 w' w3.heap.size (.bool gN) (.string gS)) (first | exact ⟨xk2 ka, xk2 kb, xk2 kg⟩ | exact ⟨xk2 (Cel.other (Cel.other (Cel.other ka qa 0 _) qa 1 _) qa 2 _), xk2 (Cel.other (Cel.other (Cel.other kb qb 0 _) qb 1 _) qb 2 _), xk2 (Cel.other (Cel.other (Cel.other kg qg 0 _) qg 1 _) qg 2 _)⟩) (first | (go_at_call 105; go_fit (H2.out _); rintro e wn ⟨rfl, bn⟩; replace ka := ka.below (un bn); replace kb := kb.below (un bn); replace kr := kr.below (un bn); replace kg := kg.below (un bn); replace bb := Below.after bb (un bn)) | (go_at_call 105; go_fit (H3.out _); rintro e wn ⟨rfl, bn⟩; replace ka := ka.below (un bn); replace kb := kb.below (un bn); replace kr := kr.below (un bn); replace kg := kg.below (un bn); replace bb := Below.after bb (un bn); have e0 := cel3_0 kr; have f0 := Cel.frozen kr 0; have e1 := cel3_1 kr; have f1 := Cel.frozen kr 1; have e2 := cel3_2 kr; have f2 := Cel.frozen kr 2))
   go_wp2
   exact post_q1 (p := 4) (u := 5) (v := .int .i64 0) (by kernel_rfl) rfl rfl rfl (((kr.set 0 _).set 1 _).set 2 _) ⟨rfl, bset (bset (bset bb (by omega) 0 _) (by omega) 1 _) (by omega) 2 _⟩
theorem make_none (n0 n1 gN pN qN : Bool) (s1 gS pS qS : ByteArray) (w : World) (h1 : s1.toList.isEmpty = false)
  (HL : Hid (∀ (B : Nat) (w : World) (_ : Cel w B [.string ByteArray.empty, .string s1] 22), Calls Tryz.prog 102 #[.slice (some ⟨B, 0, none⟩) 2 2] w (Re w (.bool false))))
  (C0 : Hid (∀ w1, Calls Tryz.prog 103 #[.agg #[.bool n0, .string ByteArray.empty]] w1 (Re w1 (.int .i64 0))))
  (C1 : Hid (∀ w1, Calls Tryz.prog 103 #[.agg #[.bool n1, .string s1]] w1 (Re w1 (.int .i64 0))))
  (H1 : Hid (∀ w1, Below w.heap.size w w1 → Calls Tryz.prog 104 #[.agg #[.bool n0, .string ByteArray.empty], .agg #[.bool n1, .string s1]] w1 (Re w1 (.agg #[.bool gN, .string gS]))))
  (H2 : Hid (∀ w1, Calls Tryz.prog 105 #[.agg #[.bool false, .string ByteArray.empty], .agg #[.bool gN, .string gS]] w1 (Re w1 (.agg #[.bool pN, .string pS]))))
  (H3 : Hid (∀ w1, Calls Tryz.prog 105 #[.agg #[.bool false, .string s1], .agg #[.bool gN, .string gS]] w1 (Re w1 (.agg #[.bool qN, .string qS])))) :
  Calls Tryz.prog 61 #[.agg #[.bool n0, .string ByteArray.empty], .agg #[.bool n1, .string s1]] w (Re w (.tuple #[.agg #[.bool pN, .string pS, .string qS], .int .i64 0])) := by
 go_enter Tryz.func61, Tryz.ntmps61
 go_wp2_with fail
 obtain ⟨w1, hw, ka, kb, kr, kl, b1⟩ := mk4 w [.bool n0, .string ByteArray.empty] [.bool n1, .string s1] [.bool false, .string { data := #[] }, .string { data := #[] }] [.string ByteArray.empty, .string s1] 24 24 26 22
 rw [← hw]
 clear hw
 have sz := b1.size
 have ta := ka.lt
 have tb := kb.lt
 have tr := kr.lt
 have tl := kl.lt
 have bb := b1
 clear b1
 go_fit (HL.out _ _ kl)
 rintro e w2 ⟨rfl, b1⟩
 have sz := b1.size
 replace ka := ka.below b1
 replace kb := kb.below b1
 replace kr := kr.below b1
 replace kl := kl.below b1
 replace bb := Below.after bb b1
 clear b1
 clear kl
 obtain ⟨ca_0, ca_1⟩ := xk2 ka
 obtain ⟨cb_2, cb_3⟩ := xk2 kb
 go_wp2
 clear ca_0 ca_1 cb_2 cb_3
 go_loopw [21] (fun i wr => (Below w.heap.size w wr ∧ Cel wr w2.heap.size [.bool n0, .string ByteArray.empty, .bool n1, .string s1] 24 ∧ Cel wr w.heap.size [.bool n0, .string ByteArray.empty] 24 ∧ Cel wr (w.heap.size + 1) [.bool n1, .string s1] 24 ∧ Cel wr (w.heap.size + 1 + 1) [.bool false, .string { data := #[] }, .string { data := #[] }] 26) ∧ (i = .int .i64 0 ∨ i = .int .i64 1 ∨ i = .int .i64 2)) (fun i _ => 2 - (intOf i).toNat)
 case atStart => exact ⟨⟨ba bb _, Cel.new w2 _ _, ka.alloc _, kb.alloc _, kr.alloc _⟩, Or.inl rfl⟩
 case round =>
  clear bb ka kb kr
  obtain ⟨⟨bb, kl, ka, kb, kr⟩, hi⟩ := hrel
  have c0 := kl.cell 0
  have c1 := kl.cell 1
  have c2 := kl.cell 2
  have c3 := kl.cell 3
  simp only [List.getElem?_cons_zero, List.getElem?_cons_succ] at c0 c1 c2 c3
  rcases hi with rfl | rfl | rfl
  ·go_wp2_with fail
   go_fit (C0.out _)
   rintro e wn ⟨rfl, b1⟩
   obtain ⟨-, b1⟩ := al1 b1
   clear c0 c1 c2 c3
   replace kl := kl.below b1
   replace ka := ka.below b1
   replace kb := kb.below b1
   replace kr := kr.below b1
   replace bb := Below.after bb b1
   clear b1
   go_wp2
   exact ⟨⟨⟨bb, kl, ka, kb, kr⟩, Or.inr (Or.inl (by go_num))⟩, by simp [intOf]⟩
  ·go_wp2_with fail
   go_fit (C1.out _)
   rintro e wn ⟨rfl, b1⟩
   obtain ⟨-, b1⟩ := al1 b1
   clear c0 c1 c2 c3
   replace kl := kl.below b1
   replace ka := ka.below b1
   replace kb := kb.below b1
   replace kr := kr.below b1
   replace bb := Below.after bb b1
   clear b1
   go_wp2
   exact ⟨⟨⟨bb, kl, ka, kb, kr⟩, Or.inr (Or.inr (by go_num))⟩, by simp [intOf]⟩
  ·clear c0 c1 c2 c3
   obtain ⟨ca_0, ca_1⟩ := xk2 ka
   obtain ⟨cb_2, cb_3⟩ := xk2 kb
   go_wp2_with fail
   clear ca_0 ca_1 cb_2 cb_3
   go_fit (H1.out _ bb)
   rintro e w3 ⟨rfl, b1⟩
   have sz := b1.size
   replace kl := kl.below b1
   replace ka := ka.below b1
   replace kb := kb.below b1
   replace kr := kr.below b1
   replace bb := Below.after bb b1
   clear b1
   have szz := bb.size
   have tr := kr.lt
   have tb := kb.lt
   have kg := Cel.new w3 [.bool gN, .string gS] 24
   replace ka := ka.alloc (.cells #[.bool gN, .string gS] 24)
   replace kb := kb.alloc (.cells #[.bool gN, .string gS] 24)
   replace kr := kr.alloc (.cells #[.bool gN, .string gS] 24)
   replace kl := kl.alloc (.cells #[.bool gN, .string gS] 24)
   replace bb := ba bb (.cells #[.bool gN, .string gS] 24)
   obtain ⟨e0, e1⟩ := xk2 ka
   obtain ⟨e2, e3⟩ := xk2 kb
   have f0 := ka.frozen 0
   have kb1 := Cel.other (g' := w.heap.size) kb (by omega) 0 (.bool false)
   obtain ⟨e4, e5⟩ := xk2 kb1
   have f1 := kb1.frozen 0
   go_wp2_with fail
   clear e0 e1 e2 e3 e4 e5 f0 f1
   obtain ⟨w4, hw⟩ : ∃ x, x = ((w3.alloc (.cells #[.bool gN, .string gS] 24)).setCell ⟨w.heap.size, 0, none⟩ (.bool false)).setCell ⟨w.heap.size + 1, 0, none⟩ (.bool false) := ⟨_, rfl⟩
   rw [← hw]
   replace ka := Cel.other (g' := w.heap.size + 1) (ka.set 0 (.bool false)) (by omega) 0 (.bool false)
   replace kb := kb1.set 0 (.bool false)
   replace kr := Cel.other (g' := w.heap.size + 1) (Cel.other (g' := w.heap.size) kr (by omega) 0 (.bool false)) (by omega) 0 (.bool false)
   replace kg := Cel.other (g' := w.heap.size + 1) (Cel.other (g' := w.heap.size) kg (by omega) 0 (.bool false)) (by omega) 0 (.bool false)
   replace bb := bset (g := w.heap.size + 1) (bset (g := w.heap.size) bb (by omega) 0 (.bool false)) (by omega) 0 (.bool false)
   rw [← hw] at ka kb kr kg bb
   clear hw kb1 kl
   have tq := kr.lt
   have qa : w.heap.size ≠ w.heap.size + 1 + 1 := by omega
   have qb : w.heap.size + 1 ≠ w.heap.size + 1 + 1 := by omega
   have qg : w3.heap.size ≠ w.heap.size + 1 + 1 := by omega
   have gf := fld1 qN qS
   go_region_held3 (fun w' => xc2 w' w.heap.size (.bool false) (.string ByteArray.empty) ∧ xc2 w' (w.heap.size + 1) (.bool false) (.string s1) ∧ xc2 w' w3.heap.size (.bool gN) (.string gS)) (first | exact ⟨xk2 ka, xk2 kb, xk2 kg⟩ | exact ⟨xk2 (Cel.other (Cel.other (Cel.other ka qa 0 _) qa 1 _) qa 2 _), xk2 (Cel.other (Cel.other (Cel.other kb qb 0 _) qb 1 _) qb 2 _), xk2 (Cel.other (Cel.other (Cel.other kg qg 0 _) qg 1 _) qg 2 _)⟩) (first | (go_at_call 105; go_fit (H2.out _); rintro e wn ⟨rfl, bn⟩; replace ka := ka.below (un bn); replace kb := kb.below (un bn); replace kr := kr.below (un bn); replace kg := kg.below (un bn); replace bb := Below.after bb (un bn)) | (go_at_call 105; go_fit (H3.out _); rintro e wn ⟨rfl, bn⟩; replace ka := ka.below (un bn); replace kb := kb.below (un bn); replace kr := kr.below (un bn); replace kg := kg.below (un bn); replace bb := Below.after bb (un bn); have e0 := cel3_0 kr; have f0 := Cel.frozen kr 0; have e1 := cel3_1 kr; have f1 := Cel.frozen kr 1; have e2 := cel3_2 kr; have f2 := Cel.frozen kr 2))
   go_wp2
   exact post_q1 (p := 4) (u := 5) (v := .int .i64 0) (by kernel_rfl) rfl rfl rfl (((kr.set 0 _).set 1 _).set 2 _) ⟨rfl, bset (bset (bset bb (by omega) 0 _) (by omega) 1 _) (by omega) 2 _⟩
theorem isE {s : ByteArray} (h : 0 < natOf s) : s.toList.isEmpty = false := by
 have : 0 < s.size := Nat.pos_of_ne_zero fun e => by have := natOf_empty e; omega
 simpa using toList_ne this
theorem make_ok (n0 n1 : Bool) (s0 s1 : ByteArray) (w : World) (hT : Tab w) (o0 : OkZ n0 s0) (o1 : OkZ n1 s1) {K : Nat} (hK : K ≤ 8000) (z0 : s0.size ≤ K) (z1 : s1.size ≤ K) (hp : 0 < natOf s1) :
  Calls Tryz.prog 61 #[.agg #[.bool n0, .string s0], .agg #[.bool n1, .string s1]] w (Re w (.tuple #[qI (Rat.divInt (zOf n0 s0) (zOf n1 s1)), .int .i64 0])) := by
 obtain ⟨nf, sf, hf, hok, hsz, hz, hnat, hneg, hstr, hnn, hfn⟩ := named0
 obtain ⟨t, ht, hL⟩ := tooLong_any s0 s1
 obtain rfl : t = false := by
  cases t with
  | false => rfl
  | true => have := ht.1 rfl; omega
 have C0 : Hid (∀ w1, Calls Tryz.prog 103 #[.agg #[.bool n0, .string s0]] w1 (Re w1 (.int .i64 0))) := by
  intro w1
  have := check_any n0 s0 w1
  rwa [(chk_ok (by omega)).2 o0] at this
 have C1 : Hid (∀ w1, Calls Tryz.prog 103 #[.agg #[.bool n1, .string s1]] w1 (Re w1 (.int .i64 0))) := by
  intro w1
  have := check_any n1 s1 w1
  rwa [(chk_ok (by omega)).2 o1] at this
 obtain ⟨G, hG⟩ : ∃ G, G = Nat.gcd (natOf s0) (natOf s1) := ⟨_, rfl⟩
 have hGp : 0 < G := by rw [hG]; exact Nat.gcd_pos_of_pos_right _ hp
 have hd : zOf n1 s1 ≠ 0 := fun e => by have := natAbs_zOf n1 s1; rw [e] at this; simp at this; omega
 have key := Q.make_low (zOf n0 s0) (zOf n1 s1) hd G (by rw [natAbs_zOf, natAbs_zOf]; exact hG)
 rw [natAbs_zOf] at key
 have bG : Bd (G : Int) K := (bd_nat z1).nat (by rw [hG]; exact Nat.le_of_dvd hp (Nat.gcd_dvd_right _ _))
 have hD : Hid (∀ w1, Below w.heap.size w w1 → Calls Tryz.prog 104 #[.agg #[.bool n0, .string s0], .agg #[.bool n1, .string s1]] w1 (Re w1 (.agg #[.bool false, .string (sf (G : Nat))]))) := by
  intro w1 b
  have := divisor_ok n0 n1 s0 s1 w1 o0 o1 (by omega) (by omega) (hT.below b)
  rwa [← hG, hfn] at this
 have hQ : Hid (∀ w1, Calls Tryz.prog 105 #[.agg #[.bool false, .string s1], .agg #[.bool false, .string (sf (G : Nat))]] w1 (Re w1 (.agg #[.bool false, .string (sf ((natOf s1 / G : Nat) : Int))]))) := by
  intro w1
  have := cut_ok false s1 (sf (G : Nat)) w1 ⟨o1.1, fun h => by cases h⟩ (hok _).1 (by omega) (Nat.le_trans (hsz _ _ bG) (by omega)) (by rw [hnn]; exact hGp)
  rwa [hnn, zOf_false, ← Int.natCast_ediv, hfn] at this
 have hneg1 : zOf n1 s1 < 0 ↔ n1 = true := by
  cases n1 with
  | false => simp [zOf]
  | true => simp [zOf]; omega
 have eq := qI_of key (hf _) (hstr _).symm.symm
 rw [eq]
 by_cases h0 : 0 < natOf s0
 ·have on : OkZ (!(n0 == n1)) s0 := ⟨o0.1, fun _ => Nat.pos_of_ne_zero fun e => by have := natOf_empty e; omega⟩
  have ez : (if zOf n1 s1 < 0 then -zOf n0 s0 else zOf n0 s0) = zOf (!(n0 == n1)) s0 := by
   cases n1 with
   | false => rw [if_neg (by rw [hneg1]; simp)]; cases n0 <;> rfl
   | true => rw [if_pos (by rw [hneg1])]; cases n0 <;> simp [zOf]
  rw [ez]
  refine make_some n0 n1 false _ false s0 s1 (sf (G : Nat)) _ _ w (isE hp) (isE h0) (shut hL) C0 C1 hD ?_ hQ
  intro w1
  have := cut_ok _ s0 (sf (G : Nat)) w1 on (hok _).1 (by omega) (Nat.le_trans (hsz _ _ bG) (by omega)) (by rw [hnn]; exact hGp)
  rwa [hnn, hf] at this
 ·have g3 : s0 = ByteArray.empty := ByteArray.size_eq_zero_iff.1 ((okS_nil o0.1).2 (by omega))
  subst g3
  have ez : (if zOf n1 s1 < 0 then -zOf n0 ByteArray.empty else zOf n0 ByteArray.empty) = 0 := by
   have : zOf n0 ByteArray.empty = 0 := by cases n0 <;> rfl
   rw [this]; simp
  rw [ez]
  refine make_none n0 n1 false _ false s1 (sf (G : Nat)) _ _ w (isE hp) (shut hL) C0 C1 hD ?_ hQ
  intro w1
  have := cut_ok false ByteArray.empty (sf (G : Nat)) w1 ⟨fun h => absurd h (by decide), fun h => by cases h⟩ (hok _).1 (by decide) (Nat.le_trans (hsz _ _ bG) (by omega)) (by rw [hnn]; exact hGp)
  rwa [hnn, show zOf false ByteArray.empty = 0 from rfl, hf] at this
end Go.Proofs.YtiiigiggcbbgjaaGreatDoor
