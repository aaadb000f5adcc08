/-
  gussetlaw02.WholeQuotients, walked.
-/
import Derived.Test.YtkmlknaofnomeaaGreatDoorG26
import Derived.Test.YtkmlknaofnomeaaGreatDoorG32
namespace Go.Proofs.YtkmlknaofnomeaaGreatDoor
open Go.RowKit Go.Shelf

theorem le_alloc {w w' : World} {o : Obj} (h : (w.alloc o).heap.size ≤ w'.heap.size) : w.heap.size ≤ w'.heap.size := by
  simp at h
  omega
/-- Two numbers that have come out. -/
theorem bxx (w : World) (x0 x1 y0 y1 : Value) : ∃ w0, w0 = (w.alloc (.cells #[x0, x1] 24)).alloc (.cells #[y0, y1] 24) ∧ Cel w0 w.heap.size [x0, x1] 24 ∧ Cel w0 (w.heap.size + 1) [y0, y1] 24 ∧ Below w.heap.size w w0 := bx2 w x0 x1 y0 y1

set_option maxRecDepth 100000 in
set_option maxHeartbeats 8000000 in
theorem quot_zero (n0 : Bool) (s0 : ByteArray) (w : World) (hT : Tab w) (h0 : s0.size ≤ 400) (o0 : OkZ n0 s0) :
    Calls Tryz.prog 4 #[.agg #[.bool n0, .string s0], .agg #[.bool false, .string { data := #[] }]] w fun e w' => e = .returned (.bool true) ∧ Below w.heap.size w w' := by
  have okE : OkZ false { data := #[] } := ⟨fun h => absurd h (by decide), fun h => absurd h (by decide)⟩
  have hB : ∀ w, Calls Tryz.prog 10 #[.agg #[.bool n0, .string s0], .agg #[.bool false, .string { data := #[] }]] w fun e w' => e = .returned (.int .i64 0) ∧ Below w.heap.size w w' := fun w => by
    have := rboth_any n0 false s0 { data := #[] } w
    rw [two_zero.2 ⟨(chk_ok (by omega)).2 o0, (chk_ok (by decide)).2 okE⟩] at this
    exact this
  have hD : ∀ w, Calls Tryz.prog 20 #[.agg #[.bool n0, .string s0], .agg #[.bool false, .string { data := #[] }]] w fun e w' => e = .returned (.tuple #[.agg #[.bool false, .string { data := #[] }], .agg #[.bool false, .string { data := #[] }], .int .i64 3]) ∧ Below w.heap.size w w' := fun w =>
    zdiv_zero n0 false s0 { data := #[] } w o0 okE (by omega) (by decide) (natOf_empty (by decide))
  have hS : ∀ w, Calls Tryz.prog 9 #[.agg #[.bool n0, .string s0], .agg #[.bool false, .string { data := #[] }]] w fun e w' => e = .returned (.bool true) ∧ Below w.heap.size w w' := fun w => small_yes n0 false s0 { data := #[] } w h0 (by decide)
  have HB := shut hB
  have HD := shut hD
  have HS := shut hS
  clear hB hD hS
  go_enter Tryz.func4, Tryz.ntmps4
  go_wp2_with fail
  obtain ⟨w0, hw0, ka, kb, bb⟩ := bx2 w (.bool n0) (.string s0) (.bool false) (.string { data := #[] })
  rw [← hw0]
  clear hw0
  refine (HS.out w0).mono ?_
  rintro e w1 ⟨rfl, b1⟩
  replace ka := ka.below b1
  replace kb := kb.below b1
  replace bb := Below.after bb b1
  clear b1
  have ca0 := cel2_0' ka
  have ca1 := cel2_1' ka
  have cb0 := cel2_0' kb
  have cb1 := cel2_1' kb
  go_wp2_with fail
  clear ca0 ca1 cb0 cb1
  refine (HB.out w1).mono ?_
  rintro e w2 ⟨rfl, b1⟩
  replace ka := ka.below b1
  replace kb := kb.below b1
  replace bb := Below.after bb b1
  clear b1 HB
  have ca0 := cel2_0' ka
  have ca1 := cel2_1' ka
  have cb0 := cel2_0' kb
  have cb1 := cel2_1' kb
  go_wp2_with fail
  clear ca0 ca1 cb0 cb1
  refine (HD.out w2).mono ?_
  rintro e w3 ⟨rfl, b1⟩
  replace ka := ka.below b1
  replace kb := kb.below b1
  replace bb := Below.after bb b1
  clear b1 HD
  obtain ⟨w4, hw4, kq, kr, b4⟩ := bxx w3 (.bool false) (.string { data := #[] }) (.bool false) (.string { data := #[] })
  replace kb := kb.below b4
  replace bb := Below.after bb b4
  have HL := shut (live2_any w4 (hT.below bb))
  have cb1 := cel2_1' kb
  have cq0 := cel2_0' kq
  have cq1 := cel2_1' kq
  have cr0 := cel2_0' kr
  have cr1 := cel2_1' kr
  rw [hw4] at cb1 cq0 cq1 cr0 cr1
  go_wp2_with fail
  rw [← hw4]
  refine HL.out.mono ?_
  rintro e wl ⟨rfl, bl⟩
  replace bb := Below.after bb bl
  clear hw4 cb1 cq0 cq1 cr0 cr1
  go_wp2
  go_ret
  exact ⟨rfl, bb⟩

set_option maxRecDepth 100000 in
set_option maxHeartbeats 8000000 in
theorem quot_walk (n0 n1 nq nt : Bool) (s0 s1 sq sr st : ByteArray) (c : Int) (w : World) (hT : Tab w) (h0 : s0.size ≤ 400) (h1 : s1.size ≤ 400) (h2 : two n0 s0 n1 s1 = 0) (hs : 0 < s1.size) (hc : c < 0)
    (H1 : Hid (∀ w, Calls Tryz.prog 20 #[.agg #[.bool n0, .string s0], .agg #[.bool n1, .string s1]] w fun e w' => e = .returned (.tuple #[.agg #[.bool nq, .string sq], .agg #[.bool false, .string sr], .int .i64 0]) ∧ Below w.heap.size w w'))
    (H2 : Hid (∀ w, Calls Tryz.prog 21 #[.agg #[.bool n0, .string s0], .agg #[.bool n1, .string s1]] w fun e w' => e = .returned (.tuple #[.agg #[.bool nq, .string sq], .agg #[.bool false, .string sr]]) ∧ Below w.heap.size w w'))
    (H3 : Hid (∀ w, Calls Tryz.prog 19 #[.agg #[.bool nq, .string sq], .agg #[.bool n1, .string s1]] w fun e w' => e = .returned (.agg #[.bool nt, .string st]) ∧ Below w.heap.size w w'))
    (H4 : Hid (∀ w, Calls Tryz.prog 17 #[.agg #[.bool nt, .string st], .agg #[.bool false, .string sr]] w fun e w' => e = .returned (.agg #[.bool n0, .string s0]) ∧ Below w.heap.size w w'))
    (H5 : Hid (∀ w, Calls Tryz.prog 16 #[.agg #[.bool false, .string sr], .agg #[.bool false, .string s1]] w fun e w' => e = .returned (.int .i64 c) ∧ Below w.heap.size w w')) :
    Calls Tryz.prog 4 #[.agg #[.bool n0, .string s0], .agg #[.bool n1, .string s1]] w fun e w' => e = .returned (.bool true) ∧ Below w.heap.size w w' := by
  have HB := shut (rboth_any n0 n1 s0 s1)
  rw [h2] at HB
  have g4 := toList_ne hs
  have g5 : s1.toList.isEmpty = false := by simpa using g4
  clear h2
  go_enter Tryz.func4, Tryz.ntmps4
  go_wp2_with fail
  obtain ⟨w0, hw0, ka, kb, bb⟩ := bx2 w (.bool n0) (.string s0) (.bool n1) (.string s1)
  rw [← hw0]
  clear hw0
  refine (small_yes n0 n1 s0 s1 w0 h0 h1).mono ?_
  rintro e w1 ⟨rfl, b1⟩
  replace ka := ka.below b1
  replace kb := kb.below b1
  replace bb := Below.after bb b1
  clear b1
  have ca0 := cel2_0' ka
  have ca1 := cel2_1' ka
  have cb0 := cel2_0' kb
  have cb1 := cel2_1' kb
  go_wp2_with fail
  clear ca0 ca1 cb0 cb1
  refine (HB.out w1).mono ?_
  rintro e w2 ⟨rfl, b1⟩
  replace ka := ka.below b1
  replace kb := kb.below b1
  replace bb := Below.after bb b1
  clear b1 HB
  have ca0 := cel2_0' ka
  have ca1 := cel2_1' ka
  have cb0 := cel2_0' kb
  have cb1 := cel2_1' kb
  go_wp2_with fail
  clear ca0 ca1 cb0 cb1
  refine (H1.out w2).mono ?_
  rintro e w3 ⟨rfl, b1⟩
  replace ka := ka.below b1
  replace kb := kb.below b1
  replace bb := Below.after bb b1
  clear b1 H1
  obtain ⟨w4, hw4, kq, kr, b4⟩ := bxx w3 (.bool nq) (.string sq) (.bool false) (.string sr)
  replace ka := ka.below b4
  replace kb := kb.below b4
  replace bb := Below.after bb b4
  have ca0 := cel2_0' ka
  have ca1 := cel2_1' ka
  have cb0 := cel2_0' kb
  have cb1 := cel2_1' kb
  rw [hw4] at ca0 ca1 cb0 cb1
  go_wp2_with fail
  rw [← hw4]
  clear hw4 ca0 ca1 cb0 cb1 b4
  refine (H2.out w4).mono ?_
  rintro e w5 ⟨rfl, b1⟩
  replace ka := ka.below b1
  replace kb := kb.below b1
  replace kq := kq.below b1
  replace kr := kr.below b1
  replace bb := Below.after bb b1
  clear b1 H2
  obtain ⟨w6, hw6, kx, ky, b6⟩ := bxx w5 (.bool nq) (.string sq) (.bool false) (.string sr)
  replace ka := ka.below b6
  replace kb := kb.below b6
  replace kq := kq.below b6
  replace kr := kr.below b6
  replace bb := Below.after bb b6
  clear b6
  have HL := shut (fun wl (bl : Below w.heap.size w wl) => live2_any wl (hT.below bl))
  clear hT
  go_wp2
  rw [← hw6]
  clear hw6
  have la := ka.lt
  have lb := kb.lt
  have lx := kx.lt
  have ly := ky.lt
  have lq := kq.lt
  have lr := kr.lt
  go_region_held3 (fun w' => w'.cell? ⟨w.heap.size + 1, 0, none⟩ = some (.bool n1) ∧ w'.cell? ⟨w.heap.size + 1, 1, none⟩ = some (.string s1) ∧ w'.cell? ⟨w3.heap.size, 0, none⟩ = some (.bool nq) ∧ w'.cell? ⟨w3.heap.size, 1, none⟩ = some (.string sq) ∧ w'.cell? ⟨w3.heap.size + 1, 0, none⟩ = some (.bool false) ∧ w'.cell? ⟨w3.heap.size + 1, 1, none⟩ = some (.string sr)) (first | exact ⟨cel2_0' kb, cel2_1' kb, cel2_0' kq, cel2_1' kq, cel2_0' kr, cel2_1' kr⟩ | exact ⟨cel2_0' (kb.alloc _), cel2_1' (kb.alloc _), cel2_0' (kq.alloc _), cel2_1' (kq.alloc _), cel2_0' (kr.alloc _), cel2_1' (kr.alloc _)⟩ | exact ⟨cel2_0' ((kb.other (by omega) _ _).other (by omega) _ _), cel2_1' ((kb.other (by omega) _ _).other (by omega) _ _), cel2_0' ((kq.other (by omega) _ _).other (by omega) _ _), cel2_1' ((kq.other (by omega) _ _).other (by omega) _ _), cel2_0' ((kr.other (by omega) _ _).other (by omega) _ _), cel2_1' ((kr.other (by omega) _ _).other (by omega) _ _)⟩) (first | (go_at_call 19; refine (H3.out _).mono ?_; rintro e w7 ⟨rfl, bn⟩; (first | (have s67 : w6.heap.size ≤ w7.heap.size := bn.size) | (have s67 : w6.heap.size ≤ w7.heap.size := le_alloc bn.size)); (first | (have kz := (Cel.new w6 [.bool false, .string { data := #[] }] 24).below ⟨bn.os, bn.tape, bn.output, bn.size, bn.block⟩) | skip); (first | (replace ka := ka.below ⟨bn.os, bn.tape, bn.output, bn.size, bn.block⟩) | (replace ka := (ka.alloc (.cells #[.bool false, .string { data := #[] }] 24)).below ⟨bn.os, bn.tape, bn.output, bn.size, bn.block⟩)); (first | (replace kb := kb.below ⟨bn.os, bn.tape, bn.output, bn.size, bn.block⟩) | (replace kb := (kb.alloc (.cells #[.bool false, .string { data := #[] }] 24)).below ⟨bn.os, bn.tape, bn.output, bn.size, bn.block⟩)); (first | (replace kq := kq.below ⟨bn.os, bn.tape, bn.output, bn.size, bn.block⟩) | (replace kq := (kq.alloc (.cells #[.bool false, .string { data := #[] }] 24)).below ⟨bn.os, bn.tape, bn.output, bn.size, bn.block⟩)); (first | (replace kr := kr.below ⟨bn.os, bn.tape, bn.output, bn.size, bn.block⟩) | (replace kr := (kr.alloc (.cells #[.bool false, .string { data := #[] }] 24)).below ⟨bn.os, bn.tape, bn.output, bn.size, bn.block⟩)); (first | (replace kx := kx.below ⟨bn.os, bn.tape, bn.output, bn.size, bn.block⟩) | (replace kx := (kx.alloc (.cells #[.bool false, .string { data := #[] }] 24)).below ⟨bn.os, bn.tape, bn.output, bn.size, bn.block⟩)); (first | (replace ky := ky.below ⟨bn.os, bn.tape, bn.output, bn.size, bn.block⟩) | (replace ky := (ky.alloc (.cells #[.bool false, .string { data := #[] }] 24)).below ⟨bn.os, bn.tape, bn.output, bn.size, bn.block⟩)); (first | (replace bb := Below.after bb ⟨bn.os, bn.tape, bn.output, bn.size, bn.block⟩) | (replace bb := Below.after (bb.alloc bb.size (.cells #[.bool false, .string { data := #[] }] 24)) ⟨bn.os, bn.tape, bn.output, bn.size, bn.block⟩))) | (go_at_call 17; refine (H4.out _).mono ?_; rintro e w8 ⟨rfl, bn⟩; (first | (have s78 : w7.heap.size ≤ w8.heap.size := bn.size) | (have s78 : w7.heap.size ≤ w8.heap.size := le_alloc bn.size)); (first | (replace kz := kz.below ⟨bn.os, bn.tape, bn.output, bn.size, bn.block⟩) | skip); (first | (have kz := (Cel.new w7 [.bool false, .string { data := #[] }] 24).below ⟨bn.os, bn.tape, bn.output, bn.size, bn.block⟩) | skip); (first | (replace ka := ka.below ⟨bn.os, bn.tape, bn.output, bn.size, bn.block⟩) | (replace ka := (ka.alloc (.cells #[.bool false, .string { data := #[] }] 24)).below ⟨bn.os, bn.tape, bn.output, bn.size, bn.block⟩)); (first | (replace kb := kb.below ⟨bn.os, bn.tape, bn.output, bn.size, bn.block⟩) | (replace kb := (kb.alloc (.cells #[.bool false, .string { data := #[] }] 24)).below ⟨bn.os, bn.tape, bn.output, bn.size, bn.block⟩)); (first | (replace kq := kq.below ⟨bn.os, bn.tape, bn.output, bn.size, bn.block⟩) | (replace kq := (kq.alloc (.cells #[.bool false, .string { data := #[] }] 24)).below ⟨bn.os, bn.tape, bn.output, bn.size, bn.block⟩)); (first | (replace kr := kr.below ⟨bn.os, bn.tape, bn.output, bn.size, bn.block⟩) | (replace kr := (kr.alloc (.cells #[.bool false, .string { data := #[] }] 24)).below ⟨bn.os, bn.tape, bn.output, bn.size, bn.block⟩)); (first | (replace kx := kx.below ⟨bn.os, bn.tape, bn.output, bn.size, bn.block⟩) | (replace kx := (kx.alloc (.cells #[.bool false, .string { data := #[] }] 24)).below ⟨bn.os, bn.tape, bn.output, bn.size, bn.block⟩)); (first | (replace ky := ky.below ⟨bn.os, bn.tape, bn.output, bn.size, bn.block⟩) | (replace ky := (ky.alloc (.cells #[.bool false, .string { data := #[] }] 24)).below ⟨bn.os, bn.tape, bn.output, bn.size, bn.block⟩)); (first | (replace bb := Below.after bb ⟨bn.os, bn.tape, bn.output, bn.size, bn.block⟩) | (replace bb := Below.after (bb.alloc bb.size (.cells #[.bool false, .string { data := #[] }] 24)) ⟨bn.os, bn.tape, bn.output, bn.size, bn.block⟩)); (first | (have cz0 := cel2_0' kz; have cz1 := cel2_1' kz; have fz0 := kz.frozen 0; have fz1 := kz.frozen 1) | skip)))
  · obtain ⟨w9, hw9, kk, b9⟩ := bx1 w8 (.bool n0) (.string s0)
    rw [← hw9]
    clear hw9
    replace ka := ka.below b9
    replace kb := kb.below b9
    replace kq := kq.below b9
    replace kr := kr.below b9
    replace kx := kx.below b9
    replace ky := ky.below b9
    replace bb := Below.after bb b9
    have ca0 := cel2_0' ka
    have ca1 := cel2_1' ka
    have cb0 := cel2_0' kb
    have cb1 := cel2_1' kb
    have cq0 := cel2_0' kq
    have cq1 := cel2_1' kq
    have cr0 := cel2_0' kr
    have cr1 := cel2_1' kr
    have cx0 := cel2_0' kx
    have cx1 := cel2_1' kx
    have cy0 := cel2_0' ky
    have cy1 := cel2_1' ky
    have ck0 := cel2_0' kk
    have ck1 := cel2_1' kk
    go_wp2_with fail
    refine (H5.out w9).mono ?_
    rintro e w10 ⟨rfl, b10⟩
    replace bb := Below.after bb b10
    go_wp2_with fail
    refine (HL.out w10 bb).mono ?_
    rintro e w11 ⟨rfl, b11⟩
    replace bb := Below.after bb b11
    go_wp2
    go_ret
    exact ⟨rfl, bb⟩
  · obtain ⟨w9, hw9⟩ : ∃ w9, w9 = (w8.setCell ⟨w7.heap.size, 0, none⟩ (.bool n0)).setCell ⟨w7.heap.size, 1, none⟩ (.string s0) := ⟨_, rfl⟩
    have kk : Cel w9 w7.heap.size [.bool n0, .string s0] 24 := by rw [hw9]; exact (kz.set 0 _).set 1 _
    replace ka : Cel w9 w.heap.size [.bool n0, .string s0] 24 := by rw [hw9]; exact (ka.other (by omega) _ _).other (by omega) _ _
    replace kb : Cel w9 (w.heap.size + 1) [.bool n1, .string s1] 24 := by rw [hw9]; exact (kb.other (by omega) _ _).other (by omega) _ _
    replace kq : Cel w9 w3.heap.size [.bool nq, .string sq] 24 := by rw [hw9]; exact (kq.other (by omega) _ _).other (by omega) _ _
    replace kr : Cel w9 (w3.heap.size + 1) [.bool false, .string sr] 24 := by rw [hw9]; exact (kr.other (by omega) _ _).other (by omega) _ _
    replace kx : Cel w9 w5.heap.size [.bool nq, .string sq] 24 := by rw [hw9]; exact (kx.other (by omega) _ _).other (by omega) _ _
    replace ky : Cel w9 (w5.heap.size + 1) [.bool false, .string sr] 24 := by rw [hw9]; exact (ky.other (by omega) _ _).other (by omega) _ _
    replace bb : Below w.heap.size w w9 := by rw [hw9]; exact (bb.setCell (by simp; omega) _).setCell (by simp; omega) _
    rw [← hw9]
    clear hw9
    have ca0 := cel2_0' ka
    have ca1 := cel2_1' ka
    have cb0 := cel2_0' kb
    have cb1 := cel2_1' kb
    have cq0 := cel2_0' kq
    have cq1 := cel2_1' kq
    have cr0 := cel2_0' kr
    have cr1 := cel2_1' kr
    have cx0 := cel2_0' kx
    have cx1 := cel2_1' kx
    have cy0 := cel2_0' ky
    have cy1 := cel2_1' ky
    have ck0 := cel2_0' kk
    have ck1 := cel2_1' kk
    go_wp2_with fail
    refine (H5.out w9).mono ?_
    rintro e w10 ⟨rfl, b10⟩
    replace bb := Below.after bb b10
    go_wp2_with fail
    refine (HL.out w10 bb).mono ?_
    rintro e w11 ⟨rfl, b11⟩
    replace bb := Below.after bb b11
    go_wp2
    go_ret
    exact ⟨rfl, bb⟩
  · obtain ⟨w9, hw9⟩ : ∃ w9, w9 = (w8.setCell ⟨w6.heap.size, 0, none⟩ (.bool n0)).setCell ⟨w6.heap.size, 1, none⟩ (.string s0) := ⟨_, rfl⟩
    have kk : Cel w9 w6.heap.size [.bool n0, .string s0] 24 := by rw [hw9]; exact (kz.set 0 _).set 1 _
    replace ka : Cel w9 w.heap.size [.bool n0, .string s0] 24 := by rw [hw9]; exact (ka.other (by omega) _ _).other (by omega) _ _
    replace kb : Cel w9 (w.heap.size + 1) [.bool n1, .string s1] 24 := by rw [hw9]; exact (kb.other (by omega) _ _).other (by omega) _ _
    replace kq : Cel w9 w3.heap.size [.bool nq, .string sq] 24 := by rw [hw9]; exact (kq.other (by omega) _ _).other (by omega) _ _
    replace kr : Cel w9 (w3.heap.size + 1) [.bool false, .string sr] 24 := by rw [hw9]; exact (kr.other (by omega) _ _).other (by omega) _ _
    replace kx : Cel w9 w5.heap.size [.bool nq, .string sq] 24 := by rw [hw9]; exact (kx.other (by omega) _ _).other (by omega) _ _
    replace ky : Cel w9 (w5.heap.size + 1) [.bool false, .string sr] 24 := by rw [hw9]; exact (ky.other (by omega) _ _).other (by omega) _ _
    replace bb : Below w.heap.size w w9 := by rw [hw9]; exact (bb.setCell (by simp; omega) _).setCell (by simp; omega) _
    rw [← hw9]
    clear hw9
    have ca0 := cel2_0' ka
    have ca1 := cel2_1' ka
    have cb0 := cel2_0' kb
    have cb1 := cel2_1' kb
    have cq0 := cel2_0' kq
    have cq1 := cel2_1' kq
    have cr0 := cel2_0' kr
    have cr1 := cel2_1' kr
    have cx0 := cel2_0' kx
    have cx1 := cel2_1' kx
    have cy0 := cel2_0' ky
    have cy1 := cel2_1' ky
    have ck0 := cel2_0' kk
    have ck1 := cel2_1' kk
    go_wp2_with fail
    refine (H5.out w9).mono ?_
    rintro e w10 ⟨rfl, b10⟩
    replace bb := Below.after bb b10
    go_wp2_with fail
    refine (HL.out w10 bb).mono ?_
    rintro e w11 ⟨rfl, b11⟩
    replace bb := Below.after bb b11
    go_wp2
    go_ret
    exact ⟨rfl, bb⟩
end Go.Proofs.YtkmlknaofnomeaaGreatDoor
