/-
  gussetlaw07: PolyHalves, walked.
  gussetlaw07: PolyHalves, walked.
  gussetlaw07: between, and PolyHalves holds.
-/
import Derived.Test.YtbafjmjcepcckaaGreatDoorM48
set_option maxRecDepth 100000
set_option maxHeartbeats 16000000
namespace Go.Proofs.YtbafjmjcepcckaaGreatDoor
open Go.RowKit
theorem halves_l (n0 n1 n2 n3 n4 n5 p0 p1 p2 p3 p4 p5 : Bool) (s0 d0 s1 d1 s2 d2 s3 d3 s4 d4 s5 d5 q0 r0 q1 r1 q2 r2 q3 r3 q4 r4 q5 r5 : ByteArray) (n d : Int) (w : World)
  (HF : Hid (∀ w1, Below w.heap.size w w1 → Calls Tryz.prog 8 #[.agg #[.bool n0, .string s0, .string d0, .bool n1, .string s1, .string d1, .bool n2, .string s2, .string d2, .bool n3, .string s3, .string d3, .bool n4, .string s4, .string d4, .bool n5, .string s5, .string d5], .agg #[.bool p0, .string q0, .string r0, .bool p1, .string q1, .string r1, .bool p2, .string q2, .string r2, .bool p3, .string q3, .string r3, .bool p4, .string q4, .string r4, .bool p5, .string q5, .string r5]] w1 (Re w1 (.bool false))))
  (HL : Hid (∀ w1, Below w.heap.size w w1 → Calls Tryz.prog 9 #[] w1 (Re w1 (.bool true)))) :
  Calls Tryz.prog 7 #[.agg #[.bool n0, .string s0, .string d0, .bool n1, .string s1, .string d1, .bool n2, .string s2, .string d2, .bool n3, .string s3, .string d3, .bool n4, .string s4, .string d4, .bool n5, .string s5, .string d5, .bool p0, .string q0, .string r0, .bool p1, .string q1, .string r1, .bool p2, .string q2, .string r2, .bool p3, .string q3, .string r3, .bool p4, .string q4, .string r4, .bool p5, .string q5, .string r5, .int .i64 n, .int .i64 d]] w (Re w (.bool true)) := by
 go_enter Tryz.func7, Tryz.ntmps7
 go_upto_region 1 with fail
 obtain ⟨w0, hq, kh, bb⟩ := mk1 w [.bool n0, .string s0, .string d0, .bool n1, .string s1, .string d1, .bool n2, .string s2, .string d2, .bool n3, .string s3, .string d3, .bool n4, .string s4, .string d4, .bool n5, .string s5, .string d5, .bool p0, .string q0, .string r0, .bool p1, .string q1, .string r1, .bool p2, .string q2, .string r2, .bool p3, .string q3, .string r3, .bool p4, .string q4, .string r4, .bool p5, .string q5, .string r5, .int .i64 n, .int .i64 d] 56
 rw [← hq]
 clear hq
 go_cut [3, 4, 5, 6] from 21 to 28 (fun v u y5 y6 wx => ∃ gf gt, v = .pointer (some ⟨gf, 0, none⟩) ∧ u = .pointer (some ⟨gt, 0, none⟩) ∧ y5 = .int .i64 n ∧ y6 = .int .i64 d ∧ Cel wx gf [.bool n0, .string s0, .string d0, .bool n1, .string s1, .string d1, .bool n2, .string s2, .string d2, .bool n3, .string s3, .string d3, .bool n4, .string s4, .string d4, .bool n5, .string s5, .string d5] 28 ∧ Cel wx gt [.bool p0, .string q0, .string r0, .bool p1, .string q1, .string r1, .bool p2, .string q2, .string r2, .bool p3, .string q3, .string r3, .bool p4, .string q4, .string r4, .bool p5, .string q5, .string r5] 32 ∧ Below w0.heap.size w0 wx)
 case first =>
  have mk : Hid (∀ w', SB w0 w' → w'.cell? ⟨w.heap.size, 36, none⟩ = some (.int .i64 n) ∧ w'.cell? ⟨w.heap.size, 37, none⟩ = some (.int .i64 d)) := fun w' h => by
   have kh' := kh.below h
   exact ⟨kh'.cell 36, kh'.cell 37⟩
  refine wp_region_held_drew (S := SB w0) (by kernel_rfl) (bdrew _) (fun bc => ?_)
  refine WA.start (n := 14) (by kernel_rfl) ?_
  refine WA.tk 0 rfl ?_
  refine WA.tk 1 rfl ?_ (hy := yieldsIf_load_mid (by rfl) 28 _ rfl w.heap.size 0 rfl [.bool n0, .string s0, .string d0, .bool n1, .string s1, .string d1, .bool n2, .string s2, .string d2, .bool n3, .string s3, .string d3, .bool n4, .string s4, .string d4, .bool n5, .string s5, .string d5] _ (fun w' h => (kh.below h).rg 0 [.bool n0, .string s0, .string d0, .bool n1, .string s1, .string d1, .bool n2, .string s2, .string d2, .bool n3, .string s3, .string d3, .bool n4, .string s4, .string d4, .bool n5, .string s5, .string d5] [.bool p0, .string q0, .string r0, .bool p1, .string q1, .string r1, .bool p2, .string q2, .string r2, .bool p3, .string q3, .string r3, .bool p4, .string q4, .string r4, .bool p5, .string q5, .string r5, .int .i64 n, .int .i64 d] rfl) Tryz.underlying28 rfl (by kernel_rfl))
  refine WA.tk 2 rfl ?_
  refine WA.tk 3 rfl ?_ (hy := yieldsIf_load_mid (by rfl) 32 _ rfl w.heap.size 18 rfl [.bool p0, .string q0, .string r0, .bool p1, .string q1, .string r1, .bool p2, .string q2, .string r2, .bool p3, .string q3, .string r3, .bool p4, .string q4, .string r4, .bool p5, .string q5, .string r5] _ (fun w' h => (kh.below h).rg 18 [.bool p0, .string q0, .string r0, .bool p1, .string q1, .string r1, .bool p2, .string q2, .string r2, .bool p3, .string q3, .string r3, .bool p4, .string q4, .string r4, .bool p5, .string q5, .string r5] [.int .i64 n, .int .i64 d] rfl) Tryz.underlying32 rfl (by kernel_rfl))
  refine WA.tk 4 rfl ?_
  refine WA.tl 5 rfl ?_
  refine WA.tk 6 rfl ?_
  refine WA.tl 7 rfl ?_
  clear mk
  refine WA.gen2 (i := 8) (s := 3) (i' := 9) (s' := 4) undef undef (Pt w0 [.bool false, .string { data := #[] }, .string { data := #[] }, .bool false, .string { data := #[] }, .string { data := #[] }, .bool false, .string { data := #[] }, .string { data := #[] }, .bool false, .string { data := #[] }, .string { data := #[] }, .bool false, .string { data := #[] }, .string { data := #[] }, .bool false, .string { data := #[] }, .string { data := #[] }] 28) (Pt w0 [.bool false, .string { data := #[] }, .string { data := #[] }, .bool false, .string { data := #[] }, .string { data := #[] }, .bool false, .string { data := #[] }, .string { data := #[] }, .bool false, .string { data := #[] }, .string { data := #[] }, .bool false, .string { data := #[] }, .string { data := #[] }, .bool false, .string { data := #[] }, .string { data := #[] }] 32) (fun b b' x x' hz hy hn => ?_)
  simp only [Act.put, List.setIfInBounds_toArray, List.set_cons_zero, List.set_cons_succ]
  replace hz := P2.mk hz hy hn
  clear hy hn
  revert b b' x x'
  refine WA.fin2 8 9 rfl rfl bc ?_
  clear bc
  intro x x' w' hz bx bc
  obtain ⟨g0, rfl, h0, k0⟩ := hz.p rfl
  obtain ⟨g1, rfl, h1, k1⟩ := hz.p' rfl
  have n01 : ¬ g0 = g1 := fun e => hz.ne rfl rfl (by rw [e])
  clear bx hz
  refine WA.call 10 rfl (fun K hK => ?_)
  rw [if_pos (by rfl)]
  refine wp_store_row 28 _ _ rfl g0 #[.bool n0, .string s0, .string d0, .bool n1, .string s1, .string d1, .bool n2, .string s2, .string d2, .bool n3, .string s3, .string d3, .bool n4, .string s4, .string d4, .bool n5, .string s5, .string d5] rfl rfl 28 _ k0 (by kernel_rfl) rfl (by kernel_rfl) ?_
  refine hK.out _ _ (below_setRow bc h0 _) (fun _ => ?_)
  clear hK K
  replace bc := below_setRow bc h0 #[.bool n0, .string s0, .string d0, .bool n1, .string s1, .string d1, .bool n2, .string s2, .string d2, .bool n3, .string s3, .string d3, .bool n4, .string s4, .string d4, .bool n5, .string s5, .string d5]
  replace k1 := Cel.rowO k1 (fun e => n01 e.symm) #[.bool n0, .string s0, .string d0, .bool n1, .string s1, .string d1, .bool n2, .string s2, .string d2, .bool n3, .string s3, .string d3, .bool n4, .string s4, .string d4, .bool n5, .string s5, .string d5]
  replace k0 : Cel (w'.setRow g0 #[.bool n0, .string s0, .string d0, .bool n1, .string s1, .string d1, .bool n2, .string s2, .string d2, .bool n3, .string s3, .string d3, .bool n4, .string s4, .string d4, .bool n5, .string s5, .string d5]) g0 [.bool n0, .string s0, .string d0, .bool n1, .string s1, .string d1, .bool n2, .string s2, .string d2, .bool n3, .string s3, .string d3, .bool n4, .string s4, .string d4, .bool n5, .string s5, .string d5] 28 := setRow_heap _ _ _ _ _ _ k0
  generalize w'.setRow g0 #[.bool n0, .string s0, .string d0, .bool n1, .string s1, .string d1, .bool n2, .string s2, .string d2, .bool n3, .string s3, .string d3, .bool n4, .string s4, .string d4, .bool n5, .string s5, .string d5] = wa at *
  refine WA.call 11 rfl (fun K hK => ?_)
  rw [if_pos (by rfl)]
  refine wp_store_row 32 _ _ rfl g1 #[.bool p0, .string q0, .string r0, .bool p1, .string q1, .string r1, .bool p2, .string q2, .string r2, .bool p3, .string q3, .string r3, .bool p4, .string q4, .string r4, .bool p5, .string q5, .string r5] rfl rfl 32 _ k1 (by kernel_rfl) rfl (by kernel_rfl) ?_
  refine hK.out _ _ (below_setRow bc h1 _) (fun _ => ?_)
  clear hK K
  replace bc := below_setRow bc h1 #[.bool p0, .string q0, .string r0, .bool p1, .string q1, .string r1, .bool p2, .string q2, .string r2, .bool p3, .string q3, .string r3, .bool p4, .string q4, .string r4, .bool p5, .string q5, .string r5]
  replace k0 := Cel.rowO k0 n01 #[.bool p0, .string q0, .string r0, .bool p1, .string q1, .string r1, .bool p2, .string q2, .string r2, .bool p3, .string q3, .string r3, .bool p4, .string q4, .string r4, .bool p5, .string q5, .string r5]
  replace k1 : Cel (wa.setRow g1 #[.bool p0, .string q0, .string r0, .bool p1, .string q1, .string r1, .bool p2, .string q2, .string r2, .bool p3, .string q3, .string r3, .bool p4, .string q4, .string r4, .bool p5, .string q5, .string r5]) g1 [.bool p0, .string q0, .string r0, .bool p1, .string q1, .string r1, .bool p2, .string q2, .string r2, .bool p3, .string q3, .string r3, .bool p4, .string q4, .string r4, .bool p5, .string q5, .string r5] 32 := setRow_heap _ _ _ _ _ _ k1
  generalize wa.setRow g1 #[.bool p0, .string q0, .string r0, .bool p1, .string q1, .string r1, .bool p2, .string q2, .string r2, .bool p3, .string q3, .string r3, .bool p4, .string q4, .string r4, .bool p5, .string q5, .string r5] = wb at *
  refine WA.tk 12 rfl ?_
  refine WA.tk 13 rfl ?_
  refine WA.done (by kernel_rfl) ?_
  go_wp2_with fail
  go_meet
  exact ⟨_, _, rfl, rfl, rfl, rfl, k0, k1, bc⟩
 case rest =>
 obtain ⟨gf, gt, rfl, rfl, rfl, rfl, kf, kt, b1⟩ := hcut
 clear kh
 replace bb := Below.after bb b1
 clear b1
 go_wp2_with (first | (refine wpList_load_row rfl 28 _ rfl _ rfl 28 _ (0, 0) _ kf Tryz.underlying28 rfl (by kernel_rfl) ?_) | (refine wpList_load_row rfl 32 _ rfl _ rfl 32 _ (0, 0) _ kt Tryz.underlying32 rfl (by kernel_rfl) ?_))
 go_fit (HF.out _ bb)
 rintro e w1 ⟨rfl, b1⟩
 replace kf := kf.below b1
 replace kt := kt.below b1
 replace bb := Below.after bb b1
 clear b1
 clear kf kt
 go_wp2_with fail
 go_fit (HL.out _ bb)
 rintro e w9 ⟨rfl, b1⟩
 replace bb := Below.after bb b1
 clear b1
 go_wp2
 go_ret
 exact ⟨rfl, bb⟩
theorem halves_n (n0 n1 n2 n3 n4 n5 p0 p1 p2 p3 p4 p5 : Bool) (s0 d0 s1 d1 s2 d2 s3 d3 s4 d4 s5 d5 q0 r0 q1 r1 q2 r2 q3 r3 q4 r4 q5 r5 : ByteArray) (n d : Int) (E : Int) (hE : ¬ E = 0) (w : World)
  (HF : Hid (∀ w1, Below w.heap.size w w1 → Calls Tryz.prog 8 #[.agg #[.bool n0, .string s0, .string d0, .bool n1, .string s1, .string d1, .bool n2, .string s2, .string d2, .bool n3, .string s3, .string d3, .bool n4, .string s4, .string d4, .bool n5, .string s5, .string d5], .agg #[.bool p0, .string q0, .string r0, .bool p1, .string q1, .string r1, .bool p2, .string q2, .string r2, .bool p3, .string q3, .string r3, .bool p4, .string q4, .string r4, .bool p5, .string q5, .string r5]] w1 (Re w1 (.bool true))))
  (HT : Hid (∀ w1, Below w.heap.size w w1 → Calls Tryz.prog 18 #[.agg #[.bool n0, .string s0, .string d0, .bool n1, .string s1, .string d1, .bool n2, .string s2, .string d2, .bool n3, .string s3, .string d3, .bool n4, .string s4, .string d4, .bool n5, .string s5, .string d5], .agg #[.bool p0, .string q0, .string r0, .bool p1, .string q1, .string r1, .bool p2, .string q2, .string r2, .bool p3, .string q3, .string r3, .bool p4, .string q4, .string r4, .bool p5, .string q5, .string r5]] w1 (Re w1 (.int .i64 E))))
  (HL : Hid (∀ w1, Below w.heap.size w w1 → Calls Tryz.prog 9 #[] w1 (Re w1 (.bool true)))) :
  Calls Tryz.prog 7 #[.agg #[.bool n0, .string s0, .string d0, .bool n1, .string s1, .string d1, .bool n2, .string s2, .string d2, .bool n3, .string s3, .string d3, .bool n4, .string s4, .string d4, .bool n5, .string s5, .string d5, .bool p0, .string q0, .string r0, .bool p1, .string q1, .string r1, .bool p2, .string q2, .string r2, .bool p3, .string q3, .string r3, .bool p4, .string q4, .string r4, .bool p5, .string q5, .string r5, .int .i64 n, .int .i64 d]] w (Re w (.bool true)) := by
 go_enter Tryz.func7, Tryz.ntmps7
 go_upto_region 1 with fail
 obtain ⟨w0, hq, kh, bb⟩ := mk1 w [.bool n0, .string s0, .string d0, .bool n1, .string s1, .string d1, .bool n2, .string s2, .string d2, .bool n3, .string s3, .string d3, .bool n4, .string s4, .string d4, .bool n5, .string s5, .string d5, .bool p0, .string q0, .string r0, .bool p1, .string q1, .string r1, .bool p2, .string q2, .string r2, .bool p3, .string q3, .string r3, .bool p4, .string q4, .string r4, .bool p5, .string q5, .string r5, .int .i64 n, .int .i64 d] 56
 rw [← hq]
 clear hq
 go_cut [3, 4, 5, 6] from 21 to 28 (fun v u y5 y6 wx => ∃ gf gt, v = .pointer (some ⟨gf, 0, none⟩) ∧ u = .pointer (some ⟨gt, 0, none⟩) ∧ y5 = .int .i64 n ∧ y6 = .int .i64 d ∧ Cel wx gf [.bool n0, .string s0, .string d0, .bool n1, .string s1, .string d1, .bool n2, .string s2, .string d2, .bool n3, .string s3, .string d3, .bool n4, .string s4, .string d4, .bool n5, .string s5, .string d5] 28 ∧ Cel wx gt [.bool p0, .string q0, .string r0, .bool p1, .string q1, .string r1, .bool p2, .string q2, .string r2, .bool p3, .string q3, .string r3, .bool p4, .string q4, .string r4, .bool p5, .string q5, .string r5] 32 ∧ Below w0.heap.size w0 wx)
 case first =>
  have mk : Hid (∀ w', SB w0 w' → w'.cell? ⟨w.heap.size, 36, none⟩ = some (.int .i64 n) ∧ w'.cell? ⟨w.heap.size, 37, none⟩ = some (.int .i64 d)) := fun w' h => by
   have kh' := kh.below h
   exact ⟨kh'.cell 36, kh'.cell 37⟩
  refine wp_region_held_drew (S := SB w0) (by kernel_rfl) (bdrew _) (fun bc => ?_)
  refine WA.start (n := 14) (by kernel_rfl) ?_
  refine WA.tk 0 rfl ?_
  refine WA.tk 1 rfl ?_ (hy := yieldsIf_load_mid (by rfl) 28 _ rfl w.heap.size 0 rfl [.bool n0, .string s0, .string d0, .bool n1, .string s1, .string d1, .bool n2, .string s2, .string d2, .bool n3, .string s3, .string d3, .bool n4, .string s4, .string d4, .bool n5, .string s5, .string d5] _ (fun w' h => (kh.below h).rg 0 [.bool n0, .string s0, .string d0, .bool n1, .string s1, .string d1, .bool n2, .string s2, .string d2, .bool n3, .string s3, .string d3, .bool n4, .string s4, .string d4, .bool n5, .string s5, .string d5] [.bool p0, .string q0, .string r0, .bool p1, .string q1, .string r1, .bool p2, .string q2, .string r2, .bool p3, .string q3, .string r3, .bool p4, .string q4, .string r4, .bool p5, .string q5, .string r5, .int .i64 n, .int .i64 d] rfl) Tryz.underlying28 rfl (by kernel_rfl))
  refine WA.tk 2 rfl ?_
  refine WA.tk 3 rfl ?_ (hy := yieldsIf_load_mid (by rfl) 32 _ rfl w.heap.size 18 rfl [.bool p0, .string q0, .string r0, .bool p1, .string q1, .string r1, .bool p2, .string q2, .string r2, .bool p3, .string q3, .string r3, .bool p4, .string q4, .string r4, .bool p5, .string q5, .string r5] _ (fun w' h => (kh.below h).rg 18 [.bool p0, .string q0, .string r0, .bool p1, .string q1, .string r1, .bool p2, .string q2, .string r2, .bool p3, .string q3, .string r3, .bool p4, .string q4, .string r4, .bool p5, .string q5, .string r5] [.int .i64 n, .int .i64 d] rfl) Tryz.underlying32 rfl (by kernel_rfl))
  refine WA.tk 4 rfl ?_
  refine WA.tl 5 rfl ?_
  refine WA.tk 6 rfl ?_
  refine WA.tl 7 rfl ?_
  clear mk
  refine WA.gen2 (i := 8) (s := 3) (i' := 9) (s' := 4) undef undef (Pt w0 [.bool false, .string { data := #[] }, .string { data := #[] }, .bool false, .string { data := #[] }, .string { data := #[] }, .bool false, .string { data := #[] }, .string { data := #[] }, .bool false, .string { data := #[] }, .string { data := #[] }, .bool false, .string { data := #[] }, .string { data := #[] }, .bool false, .string { data := #[] }, .string { data := #[] }] 28) (Pt w0 [.bool false, .string { data := #[] }, .string { data := #[] }, .bool false, .string { data := #[] }, .string { data := #[] }, .bool false, .string { data := #[] }, .string { data := #[] }, .bool false, .string { data := #[] }, .string { data := #[] }, .bool false, .string { data := #[] }, .string { data := #[] }, .bool false, .string { data := #[] }, .string { data := #[] }] 32) (fun b b' x x' hz hy hn => ?_)
  simp only [Act.put, List.setIfInBounds_toArray, List.set_cons_zero, List.set_cons_succ]
  replace hz := P2.mk hz hy hn
  clear hy hn
  revert b b' x x'
  refine WA.fin2 8 9 rfl rfl bc ?_
  clear bc
  intro x x' w' hz bx bc
  obtain ⟨g0, rfl, h0, k0⟩ := hz.p rfl
  obtain ⟨g1, rfl, h1, k1⟩ := hz.p' rfl
  have n01 : ¬ g0 = g1 := fun e => hz.ne rfl rfl (by rw [e])
  clear bx hz
  refine WA.call 10 rfl (fun K hK => ?_)
  rw [if_pos (by rfl)]
  refine wp_store_row 28 _ _ rfl g0 #[.bool n0, .string s0, .string d0, .bool n1, .string s1, .string d1, .bool n2, .string s2, .string d2, .bool n3, .string s3, .string d3, .bool n4, .string s4, .string d4, .bool n5, .string s5, .string d5] rfl rfl 28 _ k0 (by kernel_rfl) rfl (by kernel_rfl) ?_
  refine hK.out _ _ (below_setRow bc h0 _) (fun _ => ?_)
  clear hK K
  replace bc := below_setRow bc h0 #[.bool n0, .string s0, .string d0, .bool n1, .string s1, .string d1, .bool n2, .string s2, .string d2, .bool n3, .string s3, .string d3, .bool n4, .string s4, .string d4, .bool n5, .string s5, .string d5]
  replace k1 := Cel.rowO k1 (fun e => n01 e.symm) #[.bool n0, .string s0, .string d0, .bool n1, .string s1, .string d1, .bool n2, .string s2, .string d2, .bool n3, .string s3, .string d3, .bool n4, .string s4, .string d4, .bool n5, .string s5, .string d5]
  replace k0 : Cel (w'.setRow g0 #[.bool n0, .string s0, .string d0, .bool n1, .string s1, .string d1, .bool n2, .string s2, .string d2, .bool n3, .string s3, .string d3, .bool n4, .string s4, .string d4, .bool n5, .string s5, .string d5]) g0 [.bool n0, .string s0, .string d0, .bool n1, .string s1, .string d1, .bool n2, .string s2, .string d2, .bool n3, .string s3, .string d3, .bool n4, .string s4, .string d4, .bool n5, .string s5, .string d5] 28 := setRow_heap _ _ _ _ _ _ k0
  generalize w'.setRow g0 #[.bool n0, .string s0, .string d0, .bool n1, .string s1, .string d1, .bool n2, .string s2, .string d2, .bool n3, .string s3, .string d3, .bool n4, .string s4, .string d4, .bool n5, .string s5, .string d5] = wa at *
  refine WA.call 11 rfl (fun K hK => ?_)
  rw [if_pos (by rfl)]
  refine wp_store_row 32 _ _ rfl g1 #[.bool p0, .string q0, .string r0, .bool p1, .string q1, .string r1, .bool p2, .string q2, .string r2, .bool p3, .string q3, .string r3, .bool p4, .string q4, .string r4, .bool p5, .string q5, .string r5] rfl rfl 32 _ k1 (by kernel_rfl) rfl (by kernel_rfl) ?_
  refine hK.out _ _ (below_setRow bc h1 _) (fun _ => ?_)
  clear hK K
  replace bc := below_setRow bc h1 #[.bool p0, .string q0, .string r0, .bool p1, .string q1, .string r1, .bool p2, .string q2, .string r2, .bool p3, .string q3, .string r3, .bool p4, .string q4, .string r4, .bool p5, .string q5, .string r5]
  replace k0 := Cel.rowO k0 n01 #[.bool p0, .string q0, .string r0, .bool p1, .string q1, .string r1, .bool p2, .string q2, .string r2, .bool p3, .string q3, .string r3, .bool p4, .string q4, .string r4, .bool p5, .string q5, .string r5]
  replace k1 : Cel (wa.setRow g1 #[.bool p0, .string q0, .string r0, .bool p1, .string q1, .string r1, .bool p2, .string q2, .string r2, .bool p3, .string q3, .string r3, .bool p4, .string q4, .string r4, .bool p5, .string q5, .string r5]) g1 [.bool p0, .string q0, .string r0, .bool p1, .string q1, .string r1, .bool p2, .string q2, .string r2, .bool p3, .string q3, .string r3, .bool p4, .string q4, .string r4, .bool p5, .string q5, .string r5] 32 := setRow_heap _ _ _ _ _ _ k1
  generalize wa.setRow g1 #[.bool p0, .string q0, .string r0, .bool p1, .string q1, .string r1, .bool p2, .string q2, .string r2, .bool p3, .string q3, .string r3, .bool p4, .string q4, .string r4, .bool p5, .string q5, .string r5] = wb at *
  refine WA.tk 12 rfl ?_
  refine WA.tk 13 rfl ?_
  refine WA.done (by kernel_rfl) ?_
  go_wp2_with fail
  go_meet
  exact ⟨_, _, rfl, rfl, rfl, rfl, k0, k1, bc⟩
 case rest =>
 obtain ⟨gf, gt, rfl, rfl, rfl, rfl, kf, kt, b1⟩ := hcut
 clear kh
 replace bb := Below.after bb b1
 clear b1
 go_wp2_with (first | (refine wpList_load_row rfl 28 _ rfl _ rfl 28 _ (0, 0) _ kf Tryz.underlying28 rfl (by kernel_rfl) ?_) | (refine wpList_load_row rfl 32 _ rfl _ rfl 32 _ (0, 0) _ kt Tryz.underlying32 rfl (by kernel_rfl) ?_))
 go_fit (HF.out _ bb)
 rintro e w1 ⟨rfl, b1⟩
 replace kf := kf.below b1
 replace kt := kt.below b1
 replace bb := Below.after bb b1
 clear b1
 go_wp2_with (first | (refine wpList_load_rowG (by rfl) 28 _ rfl _ rfl 28 _ (0, 0) _ kf Tryz.underlying28 rfl (by kernel_rfl) ?_) | (refine wpList_load_rowG (by rfl) 32 _ rfl _ rfl 32 _ (0, 0) _ kt Tryz.underlying32 rfl (by kernel_rfl) ?_))
 go_fit (HT.out _ bb)
 rintro e w2 ⟨rfl, b1⟩
 replace kf := kf.below b1
 replace kt := kt.below b1
 replace bb := Below.after bb b1
 clear b1
 clear kf kt
 go_wp2_with fail
 go_fit (HL.out _ bb)
 rintro e w9 ⟨rfl, b1⟩
 replace bb := Below.after bb b1
 clear b1
 go_wp2
 go_ret
 exact ⟨rfl, bb⟩
theorem halves_ok (n0 n1 n2 n3 n4 n5 p0 p1 p2 p3 p4 p5 : Bool) (s0 d0 s1 d1 s2 d2 s3 d3 s4 d4 s5 d5 q0 r0 q1 r1 q2 r2 q3 r3 q4 r4 q5 r5 : ByteArray) (n d : Int) (kN eN fN aN bN cN xN yN zN : Bool) (kS kD eS eD fS fD aS aD bS bD cS cD xS xD yS yD zS zD : ByteArray) (g1 : 2 ≤ d) (g2 : d ≤ 50) (g3 : 1 ≤ n) (g4 : n < d) (w : World)
  (HF : Hid (∀ w1, Below w.heap.size w w1 → Calls Tryz.prog 8 #[.agg #[.bool n0, .string s0, .string d0, .bool n1, .string s1, .string d1, .bool n2, .string s2, .string d2, .bool n3, .string s3, .string d3, .bool n4, .string s4, .string d4, .bool n5, .string s5, .string d5], .agg #[.bool p0, .string q0, .string r0, .bool p1, .string q1, .string r1, .bool p2, .string q2, .string r2, .bool p3, .string q3, .string r3, .bool p4, .string q4, .string r4, .bool p5, .string q5, .string r5]] w1 (Re w1 (.bool true))))
  (HT : Hid (∀ w1, Below w.heap.size w w1 → Calls Tryz.prog 18 #[.agg #[.bool n0, .string s0, .string d0, .bool n1, .string s1, .string d1, .bool n2, .string s2, .string d2, .bool n3, .string s3, .string d3, .bool n4, .string s4, .string d4, .bool n5, .string s5, .string d5], .agg #[.bool p0, .string q0, .string r0, .bool p1, .string q1, .string r1, .bool p2, .string q2, .string r2, .bool p3, .string q3, .string r3, .bool p4, .string q4, .string r4, .bool p5, .string q5, .string r5]] w1 (Re w1 (.int .i64 0))))
  (HL : Hid (∀ w1, Below w.heap.size w w1 → Calls Tryz.prog 9 #[] w1 (Re w1 (.bool true))))
  (HK : Hid (∀ w1, Below w.heap.size w w1 → Calls Tryz.prog 27 #[.int .i64 n, .int .i64 d] w1 (Re w1 (.agg #[.bool kN, .string kS, .string kD]))))
  (HX : Hid (∀ w1, Calls Tryz.prog 28 #[.agg #[.bool p0, .string q0, .string r0], .agg #[.bool p2, .string q2, .string r2], .agg #[.bool kN, .string kS, .string kD]] w1 (Re w1 (.agg #[.bool eN, .string eS, .string eD]))))
  (HY : Hid (∀ w1, Calls Tryz.prog 28 #[.agg #[.bool p1, .string q1, .string r1], .agg #[.bool p3, .string q3, .string r3], .agg #[.bool kN, .string kS, .string kD]] w1 (Re w1 (.agg #[.bool fN, .string fS, .string fD]))))
  (HA : Hid (∀ w1, Below w.heap.size w w1 → Calls Tryz.prog 15 #[.agg #[.bool n0, .string s0, .string d0, .bool n1, .string s1, .string d1, .bool n2, .string s2, .string d2, .bool n3, .string s3, .string d3, .bool n4, .string s4, .string d4, .bool n5, .string s5, .string d5], .agg #[.bool p0, .string q0, .string r0, .bool p1, .string q1, .string r1], .agg #[.bool p2, .string q2, .string r2, .bool p3, .string q3, .string r3], .agg #[.bool p4, .string q4, .string r4, .bool p5, .string q5, .string r5]] w1 (Re w1 (.tuple #[.agg #[.bool aN, .string aS, .string aD], .int .i64 0]))))
  (HB : Hid (∀ w1, Below w.heap.size w w1 → Calls Tryz.prog 15 #[.agg #[.bool n0, .string s0, .string d0, .bool n1, .string s1, .string d1, .bool n2, .string s2, .string d2, .bool n3, .string s3, .string d3, .bool n4, .string s4, .string d4, .bool n5, .string s5, .string d5], .agg #[.bool p0, .string q0, .string r0, .bool p1, .string q1, .string r1], .agg #[.bool eN, .string eS, .string eD, .bool fN, .string fS, .string fD], .agg #[.bool p4, .string q4, .string r4, .bool p5, .string q5, .string r5]] w1 (Re w1 (.tuple #[.agg #[.bool bN, .string bS, .string bD], .int .i64 0]))))
  (HC : Hid (∀ w1, Below w.heap.size w w1 → Calls Tryz.prog 15 #[.agg #[.bool n0, .string s0, .string d0, .bool n1, .string s1, .string d1, .bool n2, .string s2, .string d2, .bool n3, .string s3, .string d3, .bool n4, .string s4, .string d4, .bool n5, .string s5, .string d5], .agg #[.bool eN, .string eS, .string eD, .bool fN, .string fS, .string fD], .agg #[.bool p2, .string q2, .string r2, .bool p3, .string q3, .string r3], .agg #[.bool p4, .string q4, .string r4, .bool p5, .string q5, .string r5]] w1 (Re w1 (.tuple #[.agg #[.bool cN, .string cS, .string cD], .int .i64 0]))))
  (HU : Hid (∀ w1, Below w.heap.size w w1 → Calls Tryz.prog 17 #[.agg #[.bool n0, .string s0, .string d0, .bool n1, .string s1, .string d1, .bool n2, .string s2, .string d2, .bool n3, .string s3, .string d3, .bool n4, .string s4, .string d4, .bool n5, .string s5, .string d5], .agg #[.bool p0, .string q0, .string r0, .bool p1, .string q1, .string r1], .agg #[.bool p2, .string q2, .string r2, .bool p3, .string q3, .string r3], .agg #[.bool p4, .string q4, .string r4, .bool p5, .string q5, .string r5]] w1 (Re w1 (.tuple #[.agg #[.bool xN, .string xS, .string xD], .int .i64 0]))))
  (HV : Hid (∀ w1, Below w.heap.size w w1 → Calls Tryz.prog 17 #[.agg #[.bool n0, .string s0, .string d0, .bool n1, .string s1, .string d1, .bool n2, .string s2, .string d2, .bool n3, .string s3, .string d3, .bool n4, .string s4, .string d4, .bool n5, .string s5, .string d5], .agg #[.bool p0, .string q0, .string r0, .bool p1, .string q1, .string r1], .agg #[.bool eN, .string eS, .string eD, .bool fN, .string fS, .string fD], .agg #[.bool p4, .string q4, .string r4, .bool p5, .string q5, .string r5]] w1 (Re w1 (.tuple #[.agg #[.bool yN, .string yS, .string yD], .int .i64 0]))))
  (HW : Hid (∀ w1, Below w.heap.size w w1 → Calls Tryz.prog 17 #[.agg #[.bool n0, .string s0, .string d0, .bool n1, .string s1, .string d1, .bool n2, .string s2, .string d2, .bool n3, .string s3, .string d3, .bool n4, .string s4, .string d4, .bool n5, .string s5, .string d5], .agg #[.bool eN, .string eS, .string eD, .bool fN, .string fS, .string fD], .agg #[.bool p2, .string q2, .string r2, .bool p3, .string q3, .string r3], .agg #[.bool p4, .string q4, .string r4, .bool p5, .string q5, .string r5]] w1 (Re w1 (.tuple #[.agg #[.bool zN, .string zS, .string zD], .int .i64 0]))))
  (H1 : Hid (∀ w1, Calls Tryz.prog 24 #[.agg #[.bool bN, .string bS, .string bD], .agg #[.bool cN, .string cS, .string cD]] w1 (Re w1 (.agg #[.bool aN, .string aS, .string aD]))))
  (H2 : Hid (∀ w1, Calls Tryz.prog 24 #[.agg #[.bool yN, .string yS, .string yD], .agg #[.bool zN, .string zS, .string zD]] w1 (Re w1 (.agg #[.bool xN, .string xS, .string xD])))) :
  Calls Tryz.prog 7 #[.agg #[.bool n0, .string s0, .string d0, .bool n1, .string s1, .string d1, .bool n2, .string s2, .string d2, .bool n3, .string s3, .string d3, .bool n4, .string s4, .string d4, .bool n5, .string s5, .string d5, .bool p0, .string q0, .string r0, .bool p1, .string q1, .string r1, .bool p2, .string q2, .string r2, .bool p3, .string q3, .string r3, .bool p4, .string q4, .string r4, .bool p5, .string q5, .string r5, .int .i64 n, .int .i64 d]] w (Re w (.bool true)) := by
 go_enter Tryz.func7, Tryz.ntmps7
 go_upto_region 1 with fail
 obtain ⟨w0, hq, kh, bb⟩ := mk1 w [.bool n0, .string s0, .string d0, .bool n1, .string s1, .string d1, .bool n2, .string s2, .string d2, .bool n3, .string s3, .string d3, .bool n4, .string s4, .string d4, .bool n5, .string s5, .string d5, .bool p0, .string q0, .string r0, .bool p1, .string q1, .string r1, .bool p2, .string q2, .string r2, .bool p3, .string q3, .string r3, .bool p4, .string q4, .string r4, .bool p5, .string q5, .string r5, .int .i64 n, .int .i64 d] 56
 rw [← hq]
 clear hq
 go_cut [3, 4, 5, 6] from 21 to 28 (fun v u y5 y6 wx => ∃ gf gt, v = .pointer (some ⟨gf, 0, none⟩) ∧ u = .pointer (some ⟨gt, 0, none⟩) ∧ y5 = .int .i64 n ∧ y6 = .int .i64 d ∧ Cel wx gf [.bool n0, .string s0, .string d0, .bool n1, .string s1, .string d1, .bool n2, .string s2, .string d2, .bool n3, .string s3, .string d3, .bool n4, .string s4, .string d4, .bool n5, .string s5, .string d5] 28 ∧ Cel wx gt [.bool p0, .string q0, .string r0, .bool p1, .string q1, .string r1, .bool p2, .string q2, .string r2, .bool p3, .string q3, .string r3, .bool p4, .string q4, .string r4, .bool p5, .string q5, .string r5] 32 ∧ Below w0.heap.size w0 wx)
 case first =>
  have mk : Hid (∀ w', SB w0 w' → w'.cell? ⟨w.heap.size, 36, none⟩ = some (.int .i64 n) ∧ w'.cell? ⟨w.heap.size, 37, none⟩ = some (.int .i64 d)) := fun w' h => by
   have kh' := kh.below h
   exact ⟨kh'.cell 36, kh'.cell 37⟩
  refine wp_region_held_drew (S := SB w0) (by kernel_rfl) (bdrew _) (fun bc => ?_)
  refine WA.start (n := 14) (by kernel_rfl) ?_
  refine WA.tk 0 rfl ?_
  refine WA.tk 1 rfl ?_ (hy := yieldsIf_load_mid (by rfl) 28 _ rfl w.heap.size 0 rfl [.bool n0, .string s0, .string d0, .bool n1, .string s1, .string d1, .bool n2, .string s2, .string d2, .bool n3, .string s3, .string d3, .bool n4, .string s4, .string d4, .bool n5, .string s5, .string d5] _ (fun w' h => (kh.below h).rg 0 [.bool n0, .string s0, .string d0, .bool n1, .string s1, .string d1, .bool n2, .string s2, .string d2, .bool n3, .string s3, .string d3, .bool n4, .string s4, .string d4, .bool n5, .string s5, .string d5] [.bool p0, .string q0, .string r0, .bool p1, .string q1, .string r1, .bool p2, .string q2, .string r2, .bool p3, .string q3, .string r3, .bool p4, .string q4, .string r4, .bool p5, .string q5, .string r5, .int .i64 n, .int .i64 d] rfl) Tryz.underlying28 rfl (by kernel_rfl))
  refine WA.tk 2 rfl ?_
  refine WA.tk 3 rfl ?_ (hy := yieldsIf_load_mid (by rfl) 32 _ rfl w.heap.size 18 rfl [.bool p0, .string q0, .string r0, .bool p1, .string q1, .string r1, .bool p2, .string q2, .string r2, .bool p3, .string q3, .string r3, .bool p4, .string q4, .string r4, .bool p5, .string q5, .string r5] _ (fun w' h => (kh.below h).rg 18 [.bool p0, .string q0, .string r0, .bool p1, .string q1, .string r1, .bool p2, .string q2, .string r2, .bool p3, .string q3, .string r3, .bool p4, .string q4, .string r4, .bool p5, .string q5, .string r5] [.int .i64 n, .int .i64 d] rfl) Tryz.underlying32 rfl (by kernel_rfl))
  refine WA.tk 4 rfl ?_
  refine WA.tl 5 rfl ?_
  refine WA.tk 6 rfl ?_
  refine WA.tl 7 rfl ?_
  clear mk
  refine WA.gen2 (i := 8) (s := 3) (i' := 9) (s' := 4) undef undef (Pt w0 [.bool false, .string { data := #[] }, .string { data := #[] }, .bool false, .string { data := #[] }, .string { data := #[] }, .bool false, .string { data := #[] }, .string { data := #[] }, .bool false, .string { data := #[] }, .string { data := #[] }, .bool false, .string { data := #[] }, .string { data := #[] }, .bool false, .string { data := #[] }, .string { data := #[] }] 28) (Pt w0 [.bool false, .string { data := #[] }, .string { data := #[] }, .bool false, .string { data := #[] }, .string { data := #[] }, .bool false, .string { data := #[] }, .string { data := #[] }, .bool false, .string { data := #[] }, .string { data := #[] }, .bool false, .string { data := #[] }, .string { data := #[] }, .bool false, .string { data := #[] }, .string { data := #[] }] 32) (fun b b' x x' hz hy hn => ?_)
  simp only [Act.put, List.setIfInBounds_toArray, List.set_cons_zero, List.set_cons_succ]
  replace hz := P2.mk hz hy hn
  clear hy hn
  revert b b' x x'
  refine WA.fin2 8 9 rfl rfl bc ?_
  clear bc
  intro x x' w' hz bx bc
  obtain ⟨g0, rfl, h0, k0⟩ := hz.p rfl
  obtain ⟨g1, rfl, h1, k1⟩ := hz.p' rfl
  have n01 : ¬ g0 = g1 := fun e => hz.ne rfl rfl (by rw [e])
  clear bx hz
  refine WA.call 10 rfl (fun K hK => ?_)
  rw [if_pos (by rfl)]
  refine wp_store_row 28 _ _ rfl g0 #[.bool n0, .string s0, .string d0, .bool n1, .string s1, .string d1, .bool n2, .string s2, .string d2, .bool n3, .string s3, .string d3, .bool n4, .string s4, .string d4, .bool n5, .string s5, .string d5] rfl rfl 28 _ k0 (by kernel_rfl) rfl (by kernel_rfl) ?_
  refine hK.out _ _ (below_setRow bc h0 _) (fun _ => ?_)
  clear hK K
  replace bc := below_setRow bc h0 #[.bool n0, .string s0, .string d0, .bool n1, .string s1, .string d1, .bool n2, .string s2, .string d2, .bool n3, .string s3, .string d3, .bool n4, .string s4, .string d4, .bool n5, .string s5, .string d5]
  replace k1 := Cel.rowO k1 (fun e => n01 e.symm) #[.bool n0, .string s0, .string d0, .bool n1, .string s1, .string d1, .bool n2, .string s2, .string d2, .bool n3, .string s3, .string d3, .bool n4, .string s4, .string d4, .bool n5, .string s5, .string d5]
  replace k0 : Cel (w'.setRow g0 #[.bool n0, .string s0, .string d0, .bool n1, .string s1, .string d1, .bool n2, .string s2, .string d2, .bool n3, .string s3, .string d3, .bool n4, .string s4, .string d4, .bool n5, .string s5, .string d5]) g0 [.bool n0, .string s0, .string d0, .bool n1, .string s1, .string d1, .bool n2, .string s2, .string d2, .bool n3, .string s3, .string d3, .bool n4, .string s4, .string d4, .bool n5, .string s5, .string d5] 28 := setRow_heap _ _ _ _ _ _ k0
  generalize w'.setRow g0 #[.bool n0, .string s0, .string d0, .bool n1, .string s1, .string d1, .bool n2, .string s2, .string d2, .bool n3, .string s3, .string d3, .bool n4, .string s4, .string d4, .bool n5, .string s5, .string d5] = wa at *
  refine WA.call 11 rfl (fun K hK => ?_)
  rw [if_pos (by rfl)]
  refine wp_store_row 32 _ _ rfl g1 #[.bool p0, .string q0, .string r0, .bool p1, .string q1, .string r1, .bool p2, .string q2, .string r2, .bool p3, .string q3, .string r3, .bool p4, .string q4, .string r4, .bool p5, .string q5, .string r5] rfl rfl 32 _ k1 (by kernel_rfl) rfl (by kernel_rfl) ?_
  refine hK.out _ _ (below_setRow bc h1 _) (fun _ => ?_)
  clear hK K
  replace bc := below_setRow bc h1 #[.bool p0, .string q0, .string r0, .bool p1, .string q1, .string r1, .bool p2, .string q2, .string r2, .bool p3, .string q3, .string r3, .bool p4, .string q4, .string r4, .bool p5, .string q5, .string r5]
  replace k0 := Cel.rowO k0 n01 #[.bool p0, .string q0, .string r0, .bool p1, .string q1, .string r1, .bool p2, .string q2, .string r2, .bool p3, .string q3, .string r3, .bool p4, .string q4, .string r4, .bool p5, .string q5, .string r5]
  replace k1 : Cel (wa.setRow g1 #[.bool p0, .string q0, .string r0, .bool p1, .string q1, .string r1, .bool p2, .string q2, .string r2, .bool p3, .string q3, .string r3, .bool p4, .string q4, .string r4, .bool p5, .string q5, .string r5]) g1 [.bool p0, .string q0, .string r0, .bool p1, .string q1, .string r1, .bool p2, .string q2, .string r2, .bool p3, .string q3, .string r3, .bool p4, .string q4, .string r4, .bool p5, .string q5, .string r5] 32 := setRow_heap _ _ _ _ _ _ k1
  generalize wa.setRow g1 #[.bool p0, .string q0, .string r0, .bool p1, .string q1, .string r1, .bool p2, .string q2, .string r2, .bool p3, .string q3, .string r3, .bool p4, .string q4, .string r4, .bool p5, .string q5, .string r5] = wb at *
  refine WA.tk 12 rfl ?_
  refine WA.tk 13 rfl ?_
  refine WA.done (by kernel_rfl) ?_
  go_wp2_with fail
  go_meet
  exact ⟨_, _, rfl, rfl, rfl, rfl, k0, k1, bc⟩
 case rest =>
 obtain ⟨gf, gt, rfl, rfl, rfl, rfl, kf, kt, b1⟩ := hcut
 clear kh
 replace bb := Below.after bb b1
 clear b1
 go_wp2_with (first | (refine wpList_load_row rfl 28 _ rfl _ rfl 28 _ (0, 0) _ kf Tryz.underlying28 rfl (by kernel_rfl) ?_) | (refine wpList_load_row rfl 32 _ rfl _ rfl 32 _ (0, 0) _ kt Tryz.underlying32 rfl (by kernel_rfl) ?_))
 go_fit (HF.out _ bb)
 rintro e w1 ⟨rfl, b1⟩
 replace kf := kf.below b1
 replace kt := kt.below b1
 replace bb := Below.after bb b1
 clear b1
 go_wp2_with (first | (refine wpList_load_rowG (by rfl) 28 _ rfl _ rfl 28 _ (0, 0) _ kf Tryz.underlying28 rfl (by kernel_rfl) ?_) | (refine wpList_load_rowG (by rfl) 32 _ rfl _ rfl 32 _ (0, 0) _ kt Tryz.underlying32 rfl (by kernel_rfl) ?_))
 go_fit (HT.out _ bb)
 rintro e w2 ⟨rfl, b1⟩
 replace kf := kf.below b1
 replace kt := kt.below b1
 replace bb := Below.after bb b1
 clear b1
 go_wp2_with fail
 go_fit (HK.out _ bb)
 rintro e w3 ⟨rfl, b1⟩
 replace kf := kf.below b1
 replace kt := kt.below b1
 replace bb := Below.after bb b1
 clear b1
 go_upto_region 5 with fail
 obtain ⟨v3, hq, kk, b1⟩ := mk1 w3 [.bool kN, .string kS, .string kD] 26
 rw [← hq]
 clear hq
 replace kf := kf.below b1
 replace kt := kt.below b1
 replace bb := Below.after bb b1
 clear b1
 have mk : Hid (∀ w', SB v3 w' → (w'.cell? ⟨gt, 0, none⟩ = some (.bool p0) ∧ w'.cell? ⟨gt, 1, none⟩ = some (.string q0) ∧ w'.cell? ⟨gt, 2, none⟩ = some (.string r0) ∧ w'.cell? ⟨gt, 3, none⟩ = some (.bool p1) ∧ w'.cell? ⟨gt, 4, none⟩ = some (.string q1) ∧ w'.cell? ⟨gt, 5, none⟩ = some (.string r1) ∧ w'.cell? ⟨gt, 6, none⟩ = some (.bool p2) ∧ w'.cell? ⟨gt, 7, none⟩ = some (.string q2) ∧ w'.cell? ⟨gt, 8, none⟩ = some (.string r2) ∧ w'.cell? ⟨gt, 9, none⟩ = some (.bool p3) ∧ w'.cell? ⟨gt, 10, none⟩ = some (.string q3) ∧ w'.cell? ⟨gt, 11, none⟩ = some (.string r3)) ∧ (xc3 w' w3.heap.size (.bool kN) (.string kS) (.string kD))) := fun w' h => by
  have kt' := kt.below h
  have kk' := kk.below h
  exact ⟨⟨kt'.cell 0, kt'.cell 1, kt'.cell 2, kt'.cell 3, kt'.cell 4, kt'.cell 5, kt'.cell 6, kt'.cell 7, kt'.cell 8, kt'.cell 9, kt'.cell 10, kt'.cell 11⟩, ⟨kk'.cell 0, kk'.cell 1, kk'.cell 2⟩⟩
 go_cut [8] from 60 to 76 (fun v wx => ∃ gp, v = .pointer (some ⟨gp, 0, none⟩) ∧ Cel wx gp [.bool eN, .string eS, .string eD, .bool fN, .string fS, .string fD] 30 ∧ Below v3.heap.size v3 wx)
 case first =>
  refine wp_region_held_drew (S := SB v3) (by kernel_rfl) (bdrew _) (fun bc => ?_)
  refine WA.start (n := 19) (by kernel_rfl) ?_
  refine WA.tk 0 rfl ?_
  refine WA.tk 1 rfl ?_
  refine WA.tl 2 rfl ?_
  refine WA.tk 3 rfl ?_
  refine WA.tk 4 rfl ?_
  refine WA.tl 5 rfl ?_
  refine WA.tl 6 rfl ?_
  refine WA.tk 8 rfl ?_
  refine WA.tk 9 rfl ?_
  refine WA.tl 10 rfl ?_
  refine WA.tk 11 rfl ?_
  refine WA.tk 12 rfl ?_
  refine WA.tl 13 rfl ?_
  refine WA.tl 14 rfl ?_
  clear mk
  refine WA.genZ (i := 17) (s := 8) (Pt v3 [.bool false, .string { data := #[] }, .string { data := #[] }, .bool false, .string { data := #[] }, .string { data := #[] }] 30) (fun b x hz => ?_)
  simp only [Act.put, List.setIfInBounds_toArray, List.set_cons_zero, List.set_cons_succ]
  revert b x
  refine WA.one 19 32639 7 17 rfl rfl bc ?_
  clear bc
  intro b x w' hz bx bc K hK
  clear bx
  simp only [List.getElem_toArray, List.getElem_cons_succ, List.getElem_cons_zero]
  go_simp
  go_fit (HX.out _)
  rintro e wn ⟨rfl, bn⟩
  replace bc := Below.after bc bn
  try go_wp2_with fail
  refine hK.out _ _ bc (fun _ => ?_)
  replace hz := fun h => (hz h).below bn
  clear hK K bn
  revert b x
  refine WA.one 19 32767 15 17 rfl rfl bc ?_
  clear bc
  intro b x w' hz bx bc K hK
  clear bx
  simp only [List.getElem_toArray, List.getElem_cons_succ, List.getElem_cons_zero]
  go_simp
  go_fit (HY.out _)
  rintro e wn ⟨rfl, bn⟩
  replace bc := Below.after bc bn
  try go_wp2_with fail
  refine hK.out _ _ bc (fun _ => ?_)
  replace hz := fun h => (hz h).below bn
  clear hK K bn
  refine WA.tk 16 rfl ?_
  revert b x
  refine WA.fin 17 rfl bc ?_
  clear bc
  intro x w' hz bx bc
  obtain ⟨g0, rfl, h0, k0⟩ := hz
  clear bx
  refine WA.call 18 rfl (fun K hK => ?_)
  rw [if_pos (by rfl)]
  refine wp_store_row 30 _ _ rfl g0 #[.bool eN, .string eS, .string eD, .bool fN, .string fS, .string fD] rfl rfl 30 _ k0 (by kernel_rfl) rfl (by kernel_rfl) ?_
  refine hK.out _ _ (below_setRow bc h0 _) (fun _ => ?_)
  clear hK K
  replace bc := below_setRow bc h0 #[.bool eN, .string eS, .string eD, .bool fN, .string fS, .string fD]
  replace k0 : Cel (w'.setRow g0 #[.bool eN, .string eS, .string eD, .bool fN, .string fS, .string fD]) g0 [.bool eN, .string eS, .string eD, .bool fN, .string fS, .string fD] 30 := setRow_heap _ _ _ _ _ _ k0
  refine WA.done (by kernel_rfl) ?_
  go_wp2_with fail
  go_meet
  exact ⟨_, rfl, k0, bc⟩
 case rest =>
 obtain ⟨gp, rfl, kp, b1⟩ := hcut
 clear mk kk
 replace kf := kf.below b1
 replace kt := kt.below b1
 replace bb := Below.after bb b1
 clear b1
 go_wp2_with (first | (refine wpList_load_row rfl 28 _ rfl _ rfl 28 _ (0, 0) _ kf Tryz.underlying28 rfl (by kernel_rfl) ?_) | (refine wpList_load_mid rfl 30 _ rfl gt 0 rfl [.bool p0, .string q0, .string r0, .bool p1, .string q1, .string r1] _ (kt.rg 0 [.bool p0, .string q0, .string r0, .bool p1, .string q1, .string r1] [.bool p2, .string q2, .string r2, .bool p3, .string q3, .string r3, .bool p4, .string q4, .string r4, .bool p5, .string q5, .string r5] rfl) Tryz.underlying30 rfl (by kernel_rfl) ?_) | (refine wpList_load_mid rfl 30 _ rfl gt 6 rfl [.bool p2, .string q2, .string r2, .bool p3, .string q3, .string r3] _ (kt.rg 6 [.bool p2, .string q2, .string r2, .bool p3, .string q3, .string r3] [.bool p4, .string q4, .string r4, .bool p5, .string q5, .string r5] rfl) Tryz.underlying30 rfl (by kernel_rfl) ?_) | (refine wpList_load_mid rfl 30 _ rfl gt 12 rfl [.bool p4, .string q4, .string r4, .bool p5, .string q5, .string r5] _ (kt.rg 12 [.bool p4, .string q4, .string r4, .bool p5, .string q5, .string r5] [] rfl) Tryz.underlying30 rfl (by kernel_rfl) ?_))
 go_fit (HA.out _ bb)
 rintro e w4 ⟨rfl, b1⟩
 replace kf := kf.below b1
 replace kt := kt.below b1
 replace kp := kp.below b1
 replace bb := Below.after bb b1
 clear b1
 go_upto_region 7 with fail
 obtain ⟨v4, hq, ma, b1⟩ := mk1 w4 [.bool aN, .string aS, .string aD] 26
 rw [← hq]
 clear hq
 replace kf := kf.below b1
 replace kt := kt.below b1
 replace kp := kp.below b1
 replace bb := Below.after bb b1
 clear b1
 go_wp2_with (first | (refine wpList_load_row rfl 28 _ rfl _ rfl 28 _ (0, 0) _ kf Tryz.underlying28 rfl (by kernel_rfl) ?_) | (refine wpList_load_mid rfl 30 _ rfl gt 0 rfl [.bool p0, .string q0, .string r0, .bool p1, .string q1, .string r1] _ (kt.rg 0 [.bool p0, .string q0, .string r0, .bool p1, .string q1, .string r1] [.bool p2, .string q2, .string r2, .bool p3, .string q3, .string r3, .bool p4, .string q4, .string r4, .bool p5, .string q5, .string r5] rfl) Tryz.underlying30 rfl (by kernel_rfl) ?_) | (refine wpList_load_row rfl 30 _ rfl _ rfl 30 _ (0, 0) _ kp Tryz.underlying30 rfl (by kernel_rfl) ?_) | (refine wpList_load_mid rfl 30 _ rfl gt 12 rfl [.bool p4, .string q4, .string r4, .bool p5, .string q5, .string r5] _ (kt.rg 12 [.bool p4, .string q4, .string r4, .bool p5, .string q5, .string r5] [] rfl) Tryz.underlying30 rfl (by kernel_rfl) ?_))
 go_fit (HB.out _ bb)
 rintro e w5 ⟨rfl, b1⟩
 replace kf := kf.below b1
 replace kt := kt.below b1
 replace kp := kp.below b1
 replace ma := ma.below b1
 replace bb := Below.after bb b1
 clear b1
 go_upto_region 8 with fail
 obtain ⟨v5, hq, mb, b1⟩ := mk1 w5 [.bool bN, .string bS, .string bD] 26
 rw [← hq]
 clear hq
 replace kf := kf.below b1
 replace kt := kt.below b1
 replace kp := kp.below b1
 replace ma := ma.below b1
 replace bb := Below.after bb b1
 clear b1
 go_wp2_with (first | (refine wpList_load_row rfl 28 _ rfl _ rfl 28 _ (0, 0) _ kf Tryz.underlying28 rfl (by kernel_rfl) ?_) | (refine wpList_load_row rfl 30 _ rfl _ rfl 30 _ (0, 0) _ kp Tryz.underlying30 rfl (by kernel_rfl) ?_) | (refine wpList_load_mid rfl 30 _ rfl gt 6 rfl [.bool p2, .string q2, .string r2, .bool p3, .string q3, .string r3] _ (kt.rg 6 [.bool p2, .string q2, .string r2, .bool p3, .string q3, .string r3] [.bool p4, .string q4, .string r4, .bool p5, .string q5, .string r5] rfl) Tryz.underlying30 rfl (by kernel_rfl) ?_) | (refine wpList_load_mid rfl 30 _ rfl gt 12 rfl [.bool p4, .string q4, .string r4, .bool p5, .string q5, .string r5] _ (kt.rg 12 [.bool p4, .string q4, .string r4, .bool p5, .string q5, .string r5] [] rfl) Tryz.underlying30 rfl (by kernel_rfl) ?_))
 go_fit (HC.out _ bb)
 rintro e w6 ⟨rfl, b1⟩
 replace kf := kf.below b1
 replace kt := kt.below b1
 replace kp := kp.below b1
 replace ma := ma.below b1
 replace mb := mb.below b1
 replace bb := Below.after bb b1
 clear b1
 go_upto_region 9 with fail
 obtain ⟨v6, hq, mc, b1⟩ := mk1 w6 [.bool cN, .string cS, .string cD] 26
 rw [← hq]
 clear hq
 replace kf := kf.below b1
 replace kt := kt.below b1
 replace kp := kp.below b1
 replace ma := ma.below b1
 replace mb := mb.below b1
 replace bb := Below.after bb b1
 clear b1
 go_wp2_with (first | (refine wpList_load_row rfl 28 _ rfl _ rfl 28 _ (0, 0) _ kf Tryz.underlying28 rfl (by kernel_rfl) ?_) | (refine wpList_load_mid rfl 30 _ rfl gt 0 rfl [.bool p0, .string q0, .string r0, .bool p1, .string q1, .string r1] _ (kt.rg 0 [.bool p0, .string q0, .string r0, .bool p1, .string q1, .string r1] [.bool p2, .string q2, .string r2, .bool p3, .string q3, .string r3, .bool p4, .string q4, .string r4, .bool p5, .string q5, .string r5] rfl) Tryz.underlying30 rfl (by kernel_rfl) ?_) | (refine wpList_load_mid rfl 30 _ rfl gt 6 rfl [.bool p2, .string q2, .string r2, .bool p3, .string q3, .string r3] _ (kt.rg 6 [.bool p2, .string q2, .string r2, .bool p3, .string q3, .string r3] [.bool p4, .string q4, .string r4, .bool p5, .string q5, .string r5] rfl) Tryz.underlying30 rfl (by kernel_rfl) ?_) | (refine wpList_load_mid rfl 30 _ rfl gt 12 rfl [.bool p4, .string q4, .string r4, .bool p5, .string q5, .string r5] _ (kt.rg 12 [.bool p4, .string q4, .string r4, .bool p5, .string q5, .string r5] [] rfl) Tryz.underlying30 rfl (by kernel_rfl) ?_))
 go_fit (HU.out _ bb)
 rintro e w7 ⟨rfl, b1⟩
 replace kf := kf.below b1
 replace kt := kt.below b1
 replace kp := kp.below b1
 replace ma := ma.below b1
 replace mb := mb.below b1
 replace mc := mc.below b1
 replace bb := Below.after bb b1
 clear b1
 go_upto_region 10 with fail
 obtain ⟨v7, hq, mx, b1⟩ := mk1 w7 [.bool xN, .string xS, .string xD] 26
 rw [← hq]
 clear hq
 replace kf := kf.below b1
 replace kt := kt.below b1
 replace kp := kp.below b1
 replace ma := ma.below b1
 replace mb := mb.below b1
 replace mc := mc.below b1
 replace bb := Below.after bb b1
 clear b1
 go_wp2_with (first | (refine wpList_load_row rfl 28 _ rfl _ rfl 28 _ (0, 0) _ kf Tryz.underlying28 rfl (by kernel_rfl) ?_) | (refine wpList_load_mid rfl 30 _ rfl gt 0 rfl [.bool p0, .string q0, .string r0, .bool p1, .string q1, .string r1] _ (kt.rg 0 [.bool p0, .string q0, .string r0, .bool p1, .string q1, .string r1] [.bool p2, .string q2, .string r2, .bool p3, .string q3, .string r3, .bool p4, .string q4, .string r4, .bool p5, .string q5, .string r5] rfl) Tryz.underlying30 rfl (by kernel_rfl) ?_) | (refine wpList_load_row rfl 30 _ rfl _ rfl 30 _ (0, 0) _ kp Tryz.underlying30 rfl (by kernel_rfl) ?_) | (refine wpList_load_mid rfl 30 _ rfl gt 12 rfl [.bool p4, .string q4, .string r4, .bool p5, .string q5, .string r5] _ (kt.rg 12 [.bool p4, .string q4, .string r4, .bool p5, .string q5, .string r5] [] rfl) Tryz.underlying30 rfl (by kernel_rfl) ?_))
 go_fit (HV.out _ bb)
 rintro e w8 ⟨rfl, b1⟩
 replace kf := kf.below b1
 replace kt := kt.below b1
 replace kp := kp.below b1
 replace ma := ma.below b1
 replace mb := mb.below b1
 replace mc := mc.below b1
 replace mx := mx.below b1
 replace bb := Below.after bb b1
 clear b1
 go_upto_region 11 with fail
 obtain ⟨v8, hq, my, b1⟩ := mk1 w8 [.bool yN, .string yS, .string yD] 26
 rw [← hq]
 clear hq
 replace kf := kf.below b1
 replace kt := kt.below b1
 replace kp := kp.below b1
 replace ma := ma.below b1
 replace mb := mb.below b1
 replace mc := mc.below b1
 replace mx := mx.below b1
 replace bb := Below.after bb b1
 clear b1
 go_wp2_with (first | (refine wpList_load_row rfl 28 _ rfl _ rfl 28 _ (0, 0) _ kf Tryz.underlying28 rfl (by kernel_rfl) ?_) | (refine wpList_load_row rfl 30 _ rfl _ rfl 30 _ (0, 0) _ kp Tryz.underlying30 rfl (by kernel_rfl) ?_) | (refine wpList_load_mid rfl 30 _ rfl gt 6 rfl [.bool p2, .string q2, .string r2, .bool p3, .string q3, .string r3] _ (kt.rg 6 [.bool p2, .string q2, .string r2, .bool p3, .string q3, .string r3] [.bool p4, .string q4, .string r4, .bool p5, .string q5, .string r5] rfl) Tryz.underlying30 rfl (by kernel_rfl) ?_) | (refine wpList_load_mid rfl 30 _ rfl gt 12 rfl [.bool p4, .string q4, .string r4, .bool p5, .string q5, .string r5] _ (kt.rg 12 [.bool p4, .string q4, .string r4, .bool p5, .string q5, .string r5] [] rfl) Tryz.underlying30 rfl (by kernel_rfl) ?_))
 go_fit (HW.out _ bb)
 rintro e w9 ⟨rfl, b1⟩
 replace kf := kf.below b1
 replace kt := kt.below b1
 replace kp := kp.below b1
 replace ma := ma.below b1
 replace mb := mb.below b1
 replace mc := mc.below b1
 replace mx := mx.below b1
 replace my := my.below b1
 replace bb := Below.after bb b1
 clear b1
 clear kf kt kp
 go_upto_region 14 with fail
 obtain ⟨v9, hq, mz, b1⟩ := mk1 w9 [.bool zN, .string zS, .string zD] 26
 rw [← hq]
 clear hq
 replace ma := ma.below b1
 replace mb := mb.below b1
 replace mc := mc.below b1
 replace mx := mx.below b1
 replace my := my.below b1
 replace bb := Below.after bb b1
 clear b1
 have bd := bdrew v9
 replace ma := ma.below bd
 replace mb := mb.below bd
 replace mc := mc.below bd
 replace mx := mx.below bd
 replace my := my.below bd
 replace mz := mz.below bd
 replace bb := Below.after bb bd
 clear bd
 refine wp_region_held_drew (S := fun w' => (xc3 w' w4.heap.size (.bool aN) (.string aS) (.string aD)) ∧ (xc3 w' w5.heap.size (.bool bN) (.string bS) (.string bD)) ∧ (xc3 w' w6.heap.size (.bool cN) (.string cS) (.string cD)) ∧ (xc3 w' w7.heap.size (.bool xN) (.string xS) (.string xD)) ∧ (xc3 w' w8.heap.size (.bool yN) (.string yS) (.string yD)) ∧ (xc3 w' w9.heap.size (.bool zN) (.string zS) (.string zD))) (by kernel_rfl) ⟨⟨ma.cell 0, ma.cell 1, ma.cell 2⟩, ⟨mb.cell 0, mb.cell 1, mb.cell 2⟩, ⟨mc.cell 0, mc.cell 1, mc.cell 2⟩, ⟨mx.cell 0, mx.cell 1, mx.cell 2⟩, ⟨my.cell 0, my.cell 1, my.cell 2⟩, ⟨mz.cell 0, mz.cell 1, mz.cell 2⟩⟩ (fun hS => ?_)
 generalize v9.drew = wd at *
 refine WA.start (n := 16) (by kernel_rfl) ?_
 refine WA.tp 0 rfl ?_
 refine WA.tp 1 rfl ?_
 refine WA.tp 2 rfl ?_
 clear hS
 refine WA.cal 3 rfl (fun K hK => ?_)
 simp only [List.getElem_toArray, List.getElem_cons_succ, List.getElem_cons_zero]
 go_simp
 go_fit (H1.out _)
 rintro e wm3 ⟨rfl, b1⟩
 replace ma := ma.below b1
 replace mb := mb.below b1
 replace mc := mc.below b1
 replace mx := mx.below b1
 replace my := my.below b1
 replace mz := mz.below b1
 replace bb := Below.after bb b1
 clear b1
 try go_wp2_with fail
 refine hK.out _ _ ⟨⟨ma.cell 0, ma.cell 1, ma.cell 2⟩, ⟨mb.cell 0, mb.cell 1, mb.cell 2⟩, ⟨mc.cell 0, mc.cell 1, mc.cell 2⟩, ⟨mx.cell 0, mx.cell 1, mx.cell 2⟩, ⟨my.cell 0, my.cell 1, my.cell 2⟩, ⟨mz.cell 0, mz.cell 1, mz.cell 2⟩⟩ (fun hS => ?_)
 clear hK K
 refine WA.tp 4 rfl ?_
 refine WA.tp 5 rfl ?_
 refine WA.tp 6 rfl ?_
 refine WA.tp 7 rfl ?_
 refine WA.tp 8 rfl ?_
 clear hS
 refine WA.cal 9 rfl (fun K hK => ?_)
 simp only [List.getElem_toArray, List.getElem_cons_succ, List.getElem_cons_zero]
 go_simp
 go_fit (H2.out _)
 rintro e wm9 ⟨rfl, b1⟩
 replace ma := ma.below b1
 replace mb := mb.below b1
 replace mc := mc.below b1
 replace mx := mx.below b1
 replace my := my.below b1
 replace mz := mz.below b1
 replace bb := Below.after bb b1
 clear b1
 try go_wp2_with fail
 refine hK.out _ _ ⟨⟨ma.cell 0, ma.cell 1, ma.cell 2⟩, ⟨mb.cell 0, mb.cell 1, mb.cell 2⟩, ⟨mc.cell 0, mc.cell 1, mc.cell 2⟩, ⟨mx.cell 0, mx.cell 1, mx.cell 2⟩, ⟨my.cell 0, my.cell 1, my.cell 2⟩, ⟨mz.cell 0, mz.cell 1, mz.cell 2⟩⟩ (fun hS => ?_)
 clear hK K
 refine WA.tp 10 rfl ?_
 refine WA.tp 11 rfl ?_
 refine WA.tp 12 rfl ?_
 clear hS
 refine WA.cal 13 rfl (fun K hK => ?_)
 simp only [List.getElem_toArray, List.getElem_cons_succ, List.getElem_cons_zero]
 go_simp
 go_fit (HL.out _ bb)
 rintro e wm13 ⟨rfl, b1⟩
 replace ma := ma.below b1
 replace mb := mb.below b1
 replace mc := mc.below b1
 replace mx := mx.below b1
 replace my := my.below b1
 replace mz := mz.below b1
 replace bb := Below.after bb b1
 clear b1
 try go_wp2_with fail
 refine hK.out _ _ ⟨⟨ma.cell 0, ma.cell 1, ma.cell 2⟩, ⟨mb.cell 0, mb.cell 1, mb.cell 2⟩, ⟨mc.cell 0, mc.cell 1, mc.cell 2⟩, ⟨mx.cell 0, mx.cell 1, mx.cell 2⟩, ⟨my.cell 0, my.cell 1, my.cell 2⟩, ⟨mz.cell 0, mz.cell 1, mz.cell 2⟩⟩ (fun hS => ?_)
 clear hK K
 refine WA.tp 14 rfl ?_
 refine WA.tp 15 rfl ?_
 refine WA.done (by kernel_rfl) ?_
 clear hS ma mb mc mx my mz
 go_wp2
 go_ret
 exact ⟨rfl, bb⟩
theorem between_walk (aN bN kN dN mN rN : Bool) (aS aD bS bD kS kD dS dD mS mD rS rD : ByteArray) (w : World)
  (H1 : Hid (∀ w1, Calls Tryz.prog 53 #[.agg #[.bool bN, .string bS, .string bD], .agg #[.bool aN, .string aS, .string aD]] w1 (Re w1 (.agg #[.bool dN, .string dS, .string dD]))))
  (H2 : Hid (∀ w1, Calls Tryz.prog 40 #[.agg #[.bool dN, .string dS, .string dD], .agg #[.bool kN, .string kS, .string kD]] w1 (Re w1 (.agg #[.bool mN, .string mS, .string mD]))))
  (H3 : Hid (∀ w1, Calls Tryz.prog 24 #[.agg #[.bool aN, .string aS, .string aD], .agg #[.bool mN, .string mS, .string mD]] w1 (Re w1 (.agg #[.bool rN, .string rS, .string rD])))) :
  Calls Tryz.prog 28 #[.agg #[.bool aN, .string aS, .string aD], .agg #[.bool bN, .string bS, .string bD], .agg #[.bool kN, .string kS, .string kD]] w (Re w (.agg #[.bool rN, .string rS, .string rD])) := by
 go_enter Tryz.func28, Tryz.ntmps28
 go_upto_region 1 with fail
 obtain ⟨w0, hq, ka, kb, kk, kr, bb⟩ := mk4 w [.bool aN, .string aS, .string aD] [.bool bN, .string bS, .string bD] [.bool kN, .string kS, .string kD] [.bool false, .string { data := #[] }, .string { data := #[] }] 26 26 26 26
 rw [← hq]
 clear hq
 have bd := bdrew w0
 replace ka := ka.below bd
 replace kb := kb.below bd
 replace kk := kk.below bd
 replace kr := kr.below bd
 replace bb := Below.after bb bd
 clear bd
 refine wp_region_held_drew (S := fun w' => (xc3 w' w.heap.size (.bool aN) (.string aS) (.string aD)) ∧ (xc3 w' (w.heap.size + 1) (.bool bN) (.string bS) (.string bD)) ∧ (xc3 w' (w.heap.size + 1 + 1) (.bool kN) (.string kS) (.string kD))) (by kernel_rfl) ⟨⟨ka.cell 0, ka.cell 1, ka.cell 2⟩, ⟨kb.cell 0, kb.cell 1, kb.cell 2⟩, ⟨kk.cell 0, kk.cell 1, kk.cell 2⟩⟩ (fun hS => ?_)
 generalize w0.drew = wd at *
 refine WA.start (n := 8) (by kernel_rfl) ?_
 refine WA.tp 0 rfl ?_
 refine WA.tp 1 rfl ?_
 refine WA.tp 2 rfl ?_
 refine WA.tp 4 rfl ?_
 clear hS
 refine WA.cal 3 rfl (fun K hK => ?_)
 simp only [List.getElem_toArray, List.getElem_cons_succ, List.getElem_cons_zero]
 go_simp
 go_fit (H1.out _)
 rintro e wm3 ⟨rfl, b1⟩
 replace ka := ka.below b1
 replace kb := kb.below b1
 replace kk := kk.below b1
 replace kr := kr.below b1
 replace bb := Below.after bb b1
 clear b1
 try go_wp2_with fail
 refine hK.out _ _ ⟨⟨ka.cell 0, ka.cell 1, ka.cell 2⟩, ⟨kb.cell 0, kb.cell 1, kb.cell 2⟩, ⟨kk.cell 0, kk.cell 1, kk.cell 2⟩⟩ (fun hS => ?_)
 clear hK K
 clear hS
 refine WA.cal 5 rfl (fun K hK => ?_)
 simp only [List.getElem_toArray, List.getElem_cons_succ, List.getElem_cons_zero]
 go_simp
 go_fit (H2.out _)
 rintro e wm5 ⟨rfl, b1⟩
 replace ka := ka.below b1
 replace kb := kb.below b1
 replace kk := kk.below b1
 replace kr := kr.below b1
 replace bb := Below.after bb b1
 clear b1
 try go_wp2_with fail
 refine hK.out _ _ ⟨⟨ka.cell 0, ka.cell 1, ka.cell 2⟩, ⟨kb.cell 0, kb.cell 1, kb.cell 2⟩, ⟨kk.cell 0, kk.cell 1, kk.cell 2⟩⟩ (fun hS => ?_)
 clear hK K
 clear hS
 refine WA.cal 6 rfl (fun K hK => ?_)
 simp only [List.getElem_toArray, List.getElem_cons_succ, List.getElem_cons_zero]
 go_simp
 go_fit (H3.out _)
 rintro e wm6 ⟨rfl, b1⟩
 replace ka := ka.below b1
 replace kb := kb.below b1
 replace kk := kk.below b1
 replace kr := kr.below b1
 replace bb := Below.after bb b1
 clear b1
 try go_wp2_with fail
 refine hK.out _ _ ⟨⟨ka.cell 0, ka.cell 1, ka.cell 2⟩, ⟨kb.cell 0, kb.cell 1, kb.cell 2⟩, ⟨kk.cell 0, kk.cell 1, kk.cell 2⟩⟩ (fun hS => ?_)
 clear hK K
 clear hS
 refine WA.cal 7 rfl (fun K hK => ?_)
 rw [if_pos (by rfl)]
 refine wp_store_row 26 _ _ rfl _ #[.bool rN, .string rS, .string rD] rfl rfl 26 _ kr (by kernel_rfl) rfl (by kernel_rfl) ?_
 replace bb := below_setRow (g := w.heap.size + 1 + 1 + 1) bb (by omega) #[.bool rN, .string rS, .string rD]
 replace ka := Cel.rowO (g' := w.heap.size + 1 + 1 + 1) ka (by omega) #[.bool rN, .string rS, .string rD]
 replace kb := Cel.rowO (g' := w.heap.size + 1 + 1 + 1) kb (by omega) #[.bool rN, .string rS, .string rD]
 replace kk := Cel.rowO (g' := w.heap.size + 1 + 1 + 1) kk (by omega) #[.bool rN, .string rS, .string rD]
 replace kr : Cel (World.setRow _ _ #[.bool rN, .string rS, .string rD]) _ [.bool rN, .string rS, .string rD] 26 := setRow_heap _ _ _ _ _ _ kr
 refine hK.out _ _ ⟨⟨ka.cell 0, ka.cell 1, ka.cell 2⟩, ⟨kb.cell 0, kb.cell 1, kb.cell 2⟩, ⟨kk.cell 0, kk.cell 1, kk.cell 2⟩⟩ (fun hS => ?_)
 clear hK K
 refine WA.done (by kernel_rfl) ?_
 clear hS
 clear ka kb kk
 go_wp2
 exact post_q (p := 6) (by kernel_rfl) rfl rfl kr ⟨rfl, bb⟩
theorem betweenI (x y k : Rat) {K : Nat} (hK : K ≤ 1000) (bx : Bq x K) (bY : Bq y K) (bk : Bq k K) (w : World) : Calls Tryz.prog 28 #[rq x, rq y, rq k] w (Re w (rq (x + (y - x) * k))) :=
 between_walk _ _ _ _ _ _ _ _ _ _ _ _ _ _ _ _ _ _ w (fun w1 => rlessI y x (K := K) (by omega) bY bx w1) (fun w1 => rtimesI (y - x) k (K := K + K + 1) (by omega) (vqm_sub bY bx) (bq_mono bk (by omega)) w1) (fun w1 => rsumI x ((y - x) * k) (K := K + K + 1 + K) (by omega) (bq_mono bx (by omega)) (vqm_mul (vqm_sub bY bx) bk) w1)
theorem rabs_of {x : Rat} (h : 0 ≤ x) : rabs x = x := by
 unfold rabs
 rw [Int.natAbs_of_nonneg (Rat.num_nonneg.2 h)]
 exact Rat.mkRat_self x
theorem rabs_mul {x k : Rat} (h : 0 < k) : rabs (x * k) = rabs x * k := by
 rcases Rat.le_total (a := 0) (b := x) with q | q
 ·rw [rabs_of q, rabs_of (Rat.mul_nonneg q (Rat.le_of_lt h))]
 ·have q' : 0 ≤ -x := by grind
  rw [← rabs_neg (x * k), ← rabs_neg x, rabs_of q', show -(x * k) = (-x) * k by grind, rabs_of (Rat.mul_nonneg q' (Rat.le_of_lt h))]
theorem part_bq {x y : Rat} {n d : Int} (bx : Bq x 30) (bY : Bq y 30) (g1 : 0 < d) (g2 : d ≤ 50) (g3 : 1 ≤ n) (g4 : n < d) : Bq (x + (y - x) * Rat.divInt n d) 64 := by
 have h : Bq (Rat.divInt n d) 1 := bq_divI g1 (by unfold Bd; omega) (by unfold Bd; omega)
 have h' : Bq (Rat.divInt (d - n) d) 1 := bq_divI g1 (by unfold Bd; omega) (by unfold Bd; omega)
 have e : Rat.divInt (d - n) d = 1 - Rat.divInt n d := by
  have hd : ((d : Int) : Rat) ≠ 0 := fun e => by
   have q : ((d : Int) : Rat) = ((0 : Int) : Rat) := e
   rw [Rat.intCast_inj] at q
   omega
  rw [Rat.divInt_eq_div, Rat.divInt_eq_div, Rat.intCast_sub]
  grind
 have := vqm_add (vqm_mul bx h') (vqm_mul bY h)
 rw [e] at this
 refine bq_mono ?_ (show 30 + 1 + (30 + 1) + 1 ≤ 64 by omega)
 have f : x + (y - x) * Rat.divInt n d = x * (1 - Rat.divInt n d) + y * Rat.divInt n d := by grind
 rw [f]
 exact this
theorem frac_in {n d : Int} (g1 : 0 < d) (g3 : 1 ≤ n) (g4 : n < d) : 0 < Rat.divInt n d ∧ 0 < 1 - Rat.divInt n d := by
 have hd : (0 : Rat) < ((d : Int) : Rat) := by
  have := Rat.intCast_lt_intCast.2 g1
  exact this
 have hn : (0 : Rat) < ((n : Int) : Rat) := by
  have := Rat.intCast_lt_intCast.2 (show 0 < n by omega)
  exact this
 have hl : ((n : Int) : Rat) < ((d : Int) : Rat) := Rat.intCast_lt_intCast.2 g4
 rw [Rat.divInt_eq_div]
 have h1 : 0 < ((n : Int) : Rat) / ((d : Int) : Rat) := by rw [Rat.lt_div_iff hd]; grind
 have h2 : ((n : Int) : Rat) / ((d : Int) : Rat) < 1 := by rw [Rat.div_lt_iff hd]; grind
 exact ⟨h1, by grind⟩
theorem halves7_law (n0 n1 n2 n3 n4 n5 p0 p1 p2 p3 p4 p5 : Bool) (s0 d0 s1 d1 s2 d2 s3 d3 s4 d4 s5 d5 q0 r0 q1 r1 q2 r2 q3 r3 q4 r4 q5 r5 : ByteArray) (n d : Int) (w : World) (hT : Tab w) (hP : PTab w) :
  Calls Tryz.prog 7 #[.agg #[.bool n0, .string s0, .string d0, .bool n1, .string s1, .string d1, .bool n2, .string s2, .string d2, .bool n3, .string s3, .string d3, .bool n4, .string s4, .string d4, .bool n5, .string s5, .string d5, .bool p0, .string q0, .string r0, .bool p1, .string q1, .string r1, .bool p2, .string q2, .string r2, .bool p3, .string q3, .string r3, .bool p4, .string q4, .string r4, .bool p5, .string q5, .string r5, .int .i64 n, .int .i64 d]] w (Re w (.bool true)) := by
 have HL : ∀ w1, Below w.heap.size w w1 → Calls Tryz.prog 9 #[] w1 (Re w1 (.bool true)) := fun w1 b => live7_any w1 (hT.below b) (hP.below b)
 cases hb : (allB (fun k => sh7 (six6 s0 s1 s2 s3 s4 s5 k) (six6 d0 d1 d2 d3 d4 d5 k)) 6 && allB (fun k => sh7 (f4 q0 q2 q4 q4 k) (f4 r0 r2 r4 r4 k) && sh7 (f4 q1 q3 q5 q5 k) (f4 r1 r3 r5 r5 k)) 3) with
 | false =>
  refine halves_l _ _ _ _ _ _ _ _ _ _ _ _ _ _ _ _ _ _ _ _ _ _ _ _ _ _ _ _ _ _ _ _ _ _ _ _ n d w (fun w1 b => ?_) HL
  have := few7E n0 n1 n2 n3 n4 n5 p0 p1 p2 p3 p4 p5 s0 d0 s1 d1 s2 d2 s3 d3 s4 d4 s5 d5 q0 r0 q1 r1 q2 r2 q3 r3 q4 r4 q5 r5 w1
  rw [hb] at this
  exact this
 | true =>
  have HF : ∀ w1, Below w.heap.size w w1 → Calls Tryz.prog 8 #[.agg #[.bool n0, .string s0, .string d0, .bool n1, .string s1, .string d1, .bool n2, .string s2, .string d2, .bool n3, .string s3, .string d3, .bool n4, .string s4, .string d4, .bool n5, .string s5, .string d5], .agg #[.bool p0, .string q0, .string r0, .bool p1, .string q1, .string r1, .bool p2, .string q2, .string r2, .bool p3, .string q3, .string r3, .bool p4, .string q4, .string r4, .bool p5, .string q5, .string r5]] w1 (Re w1 (.bool true)) := fun w1 b => by
   have := few7E n0 n1 n2 n3 n4 n5 p0 p1 p2 p3 p4 p5 s0 d0 s1 d1 s2 d2 s3 d3 s4 d4 s5 d5 q0 r0 q1 r1 q2 r2 q3 r3 q4 r4 q5 r5 w1
   rw [hb] at this
   exact this
  rcases tri7 n0 n1 n2 n3 n4 n5 p0 p1 p2 p3 p4 p5 s0 d0 s1 d1 s2 d2 s3 d3 s4 d4 s5 d5 q0 r0 q1 r1 q2 r2 q3 r3 q4 r4 q5 r5 hb with ⟨E, hE, H3⟩ | ⟨y0, y1, y2, y3, y4, y5, x0, z0, x1, z1, x2, z2, hf, ht, hr, ⟨b0, c0, b1, c1, b2, c2⟩, hA, H3⟩
  ·exact halves_n _ _ _ _ _ _ _ _ _ _ _ _ _ _ _ _ _ _ _ _ _ _ _ _ _ _ _ _ _ _ _ _ _ _ _ _ n d E hE w HF (fun w1 _ => H3 w1) HL
  ·rw [hf, ht] at HF
   simp only [Value.agg.injEq, Array.mk.injEq, List.cons.injEq, Value.bool.injEq, Value.string.injEq, and_true] at hf ht
   obtain ⟨rfl, rfl, rfl, rfl, rfl, rfl, rfl, rfl, rfl, rfl, rfl, rfl, rfl, rfl, rfl, rfl, rfl, rfl⟩ := hf
   obtain ⟨rfl, rfl, rfl, rfl, rfl, rfl, rfl, rfl, rfl, rfl, rfl, rfl, rfl, rfl, rfl, rfl, rfl, rfl⟩ := ht
   clear hb
   by_cases g1 : d < 2
   ·exact halves_b1 _ _ _ _ _ _ _ _ _ _ _ _ _ _ _ _ _ _ _ _ _ _ _ _ _ _ _ _ _ _ _ _ _ _ _ _ n d g1 w HF (fun w1 _ => H3 w1) HL
   by_cases g2 : 50 < d
   ·exact halves_b2 _ _ _ _ _ _ _ _ _ _ _ _ _ _ _ _ _ _ _ _ _ _ _ _ _ _ _ _ _ _ _ _ _ _ _ _ n d g1 g2 w HF (fun w1 _ => H3 w1) HL
   by_cases g3 : n < 1
   ·exact halves_b3 _ _ _ _ _ _ _ _ _ _ _ _ _ _ _ _ _ _ _ _ _ _ _ _ _ _ _ _ _ _ _ _ _ _ _ _ n d g1 g2 g3 w HF (fun w1 _ => H3 w1) HL
   by_cases g4 : d ≤ n
   ·exact halves_b4 _ _ _ _ _ _ _ _ _ _ _ _ _ _ _ _ _ _ _ _ _ _ _ _ _ _ _ _ _ _ _ _ _ _ _ _ n d g1 g2 g3 g4 w HF (fun w1 _ => H3 w1) HL
   obtain ⟨k0, k1⟩ := frac_in (n := n) (d := d) (by omega) (by omega) (by omega)
   have be := part_bq (n := n) (d := d) b0 b1 (by omega) (by omega) (by omega) (by omega)
   have bf := part_bq (n := n) (d := d) c0 c1 (by omega) (by omega) (by omega) (by omega)
   have bk : Bq (Rat.divInt n d) 1 := bq_divI (by omega) (by unfold Bd; omega) (by unfold Bd; omega)
   have HK : ∀ w1, Below w.heap.size w w1 → Calls Tryz.prog 27 #[.int .i64 n, .int .i64 d] w1 (Re w1 (rq (Rat.divInt n d))) := fun w1 _ => frac7I n d (by omega) (by omega) (by omega) (by omega) w1
   obtain ⟨k, hk⟩ : ∃ k, k = Rat.divInt n d := ⟨_, rfl⟩
   rw [← hk] at k0 k1 be bf bk HK
   have hr6 : ∀ q, q < 6 → Bq ((six y0 y1 y2 y3 y4 y5) q) 64 := fun q hq => bq_mono (hr q hq) (by omega)
   have m0 := bq_mono b0 (show 30 ≤ 64 by omega)
   have m1 := bq_mono c0 (show 30 ≤ 64 by omega)
   have m2 := bq_mono b1 (show 30 ≤ 64 by omega)
   have m3 := bq_mono c1 (show 30 ≤ 64 by omega)
   have m4 := bq_mono b2 (show 30 ≤ 64 by omega)
   have m5 := bq_mono c2 (show 30 ≤ 64 by omega)
   have a1 := area_hb x0 z0 x1 z1 x2 z2 k
   have a2 := area_hc x0 z0 x1 z1 x2 z2 k
   have r1 := rabs_mul (x := ((x1 - x0) * (z2 - z0) - (z1 - z0) * (x2 - x0))) k0
   have r2 := rabs_mul (x := ((x1 - x0) * (z2 - z0) - (z1 - z0) * (x2 - x0))) k1
   have n1 : ((x1 - x0) * (z2 - z0) - (z1 - z0) * (x2 - x0)) * k ≠ 0 := fun e => by rcases Rat.mul_eq_zero.1 e with q | q <;> grind
   have n2 : ((x1 - x0) * (z2 - z0) - (z1 - z0) * (x2 - x0)) * (1 - k) ≠ 0 := fun e => by rcases Rat.mul_eq_zero.1 e with q | q <;> grind
   have ih := int_half (six y0 y1 y2 y3 y4 y5) x0 z0 x1 z1 x2 z2 k
   have qh := sq_half (six y0 y1 y2 y3 y4 y5) x0 z0 x1 z1 x2 z2 k
   have sB := six_bq x0 z0 (x0 + (x1 - x0) * k) (z0 + (z1 - z0) * k) x2 z2 m0 m1 be bf m4 m5
   have sC := six_bq (x0 + (x1 - x0) * k) (z0 + (z1 - z0) * k) x1 z1 x2 z2 be bf m2 m3 m4 m5
   have ba := rabs_bq (area_bqK x0 z0 x1 z1 x2 z2 b0 c0 b1 c1 b2 c2)
   have bk1 : Bq (1 - k) 1 := by
    rw [hk, show (1 : Rat) - Rat.divInt n d = Rat.divInt (d - n) d by
     have hd : ((d : Int) : Rat) ≠ 0 := fun e => by
      have q : ((d : Int) : Rat) = ((0 : Int) : Rat) := e
      rw [Rat.intCast_inj] at q
      omega
     rw [Rat.divInt_eq_div, Rat.divInt_eq_div, Rat.intCast_sub]
     grind]
    exact bq_divI (by omega) (by unfold Bd; omega) (by unfold Bd; omega)
   have wI : ∀ j, j < 6 → -100 ≤ inW j ∧ inW j ≤ 100 := by decide
   have bB : Bq (rabs ((x1 - x0) * (z2 - z0) - (z1 - z0) * (x2 - x0)) * k * lsum inW (Fn (six y0 y1 y2 y3 y4 y5) (six x0 (x0 + (x1 - x0) * k) x2 z0 (z0 + (z1 - z0) * k) z2)) * Rat.divInt 1 (120 : Nat)) 2000 := bq_mono (vqm_mul (vqm_mul (vqm_mul ba bk) (lsum_bq hr6 sB wI)) (bq_unit 120 (by omega) (by omega))) (by omega)
   have bC : Bq (rabs ((x1 - x0) * (z2 - z0) - (z1 - z0) * (x2 - x0)) * (1 - k) * lsum inW (Fn (six y0 y1 y2 y3 y4 y5) (six (x0 + (x1 - x0) * k) x1 x2 (z0 + (z1 - z0) * k) z1 z2)) * Rat.divInt 1 (120 : Nat)) 2000 := bq_mono (vqm_mul (vqm_mul (vqm_mul ba bk1) (lsum_bq hr6 sC wI)) (bq_unit 120 (by omega) (by omega))) (by omega)
   have bY : Bq (rabs ((x1 - x0) * (z2 - z0) - (z1 - z0) * (x2 - x0)) * k * qs (Fn (six y0 y1 y2 y3 y4 y5) (six x0 (x0 + (x1 - x0) * k) x2 z0 (z0 + (z1 - z0) * k) z2)) * Rat.divInt 1 (360 : Nat)) 3500 := bq_mono (vqm_mul (vqm_mul (vqm_mul ba bk) (qs_bq hr6 sB)) (bq_unit 360 (by omega) (by omega))) (by omega)
   have bZ : Bq (rabs ((x1 - x0) * (z2 - z0) - (z1 - z0) * (x2 - x0)) * (1 - k) * qs (Fn (six y0 y1 y2 y3 y4 y5) (six (x0 + (x1 - x0) * k) x1 x2 (z0 + (z1 - z0) * k) z1 z2)) * Rat.divInt 1 (360 : Nat)) 3500 := bq_mono (vqm_mul (vqm_mul (vqm_mul ba bk1) (qs_bq hr6 sC)) (bq_unit 360 (by omega) (by omega))) (by omega)
   have IA := fun (w1 : World) (b : Below w.heap.size w w1) => intI (six y0 y1 y2 y3 y4 y5) x0 z0 x1 z1 x2 z2 (K := 30) (by omega) hr b0 c0 b1 c1 b2 c2 w1 (hT.below b) (hP.below b) hA (x := (rabs ((x1 - x0) * (z2 - z0) - (z1 - z0) * (x2 - x0)) * k * lsum inW (Fn (six y0 y1 y2 y3 y4 y5) (six x0 (x0 + (x1 - x0) * k) x2 z0 (z0 + (z1 - z0) * k) z2)) * Rat.divInt 1 (120 : Nat)) + (rabs ((x1 - x0) * (z2 - z0) - (z1 - z0) * (x2 - x0)) * (1 - k) * lsum inW (Fn (six y0 y1 y2 y3 y4 y5) (six (x0 + (x1 - x0) * k) x1 x2 (z0 + (z1 - z0) * k) z1 z2)) * Rat.divInt 1 (120 : Nat))) (by rw [← ih]; grind)
   have IB := fun (w1 : World) (b : Below w.heap.size w w1) => intI (six y0 y1 y2 y3 y4 y5) x0 z0 (x0 + (x1 - x0) * k) (z0 + (z1 - z0) * k) x2 z2 (K := 64) (by omega) hr6 m0 m1 be bf m4 m5 w1 (hT.below b) (hP.below b) (by rw [a1]; exact n1) (x := (rabs ((x1 - x0) * (z2 - z0) - (z1 - z0) * (x2 - x0)) * k * lsum inW (Fn (six y0 y1 y2 y3 y4 y5) (six x0 (x0 + (x1 - x0) * k) x2 z0 (z0 + (z1 - z0) * k) z2)) * Rat.divInt 1 (120 : Nat))) (by rw [a1, r1])
   have IC := fun (w1 : World) (b : Below w.heap.size w w1) => intI (six y0 y1 y2 y3 y4 y5) (x0 + (x1 - x0) * k) (z0 + (z1 - z0) * k) x1 z1 x2 z2 (K := 64) (by omega) hr6 be bf m2 m3 m4 m5 w1 (hT.below b) (hP.below b) (by rw [a2]; exact n2) (x := (rabs ((x1 - x0) * (z2 - z0) - (z1 - z0) * (x2 - x0)) * (1 - k) * lsum inW (Fn (six y0 y1 y2 y3 y4 y5) (six (x0 + (x1 - x0) * k) x1 x2 (z0 + (z1 - z0) * k) z1 z2)) * Rat.divInt 1 (120 : Nat))) (by rw [a2, r2])
   have QA := fun (w1 : World) (b : Below w.heap.size w w1) => squI (six y0 y1 y2 y3 y4 y5) x0 z0 x1 z1 x2 z2 (K := 30) (by omega) hr b0 c0 b1 c1 b2 c2 w1 (hT.below b) (hP.below b) hA (x := (rabs ((x1 - x0) * (z2 - z0) - (z1 - z0) * (x2 - x0)) * k * qs (Fn (six y0 y1 y2 y3 y4 y5) (six x0 (x0 + (x1 - x0) * k) x2 z0 (z0 + (z1 - z0) * k) z2)) * Rat.divInt 1 (360 : Nat)) + (rabs ((x1 - x0) * (z2 - z0) - (z1 - z0) * (x2 - x0)) * (1 - k) * qs (Fn (six y0 y1 y2 y3 y4 y5) (six (x0 + (x1 - x0) * k) x1 x2 (z0 + (z1 - z0) * k) z1 z2)) * Rat.divInt 1 (360 : Nat))) (by rw [← qh]; grind)
   have QB := fun (w1 : World) (b : Below w.heap.size w w1) => squI (six y0 y1 y2 y3 y4 y5) x0 z0 (x0 + (x1 - x0) * k) (z0 + (z1 - z0) * k) x2 z2 (K := 64) (by omega) hr6 m0 m1 be bf m4 m5 w1 (hT.below b) (hP.below b) (by rw [a1]; exact n1) (x := (rabs ((x1 - x0) * (z2 - z0) - (z1 - z0) * (x2 - x0)) * k * qs (Fn (six y0 y1 y2 y3 y4 y5) (six x0 (x0 + (x1 - x0) * k) x2 z0 (z0 + (z1 - z0) * k) z2)) * Rat.divInt 1 (360 : Nat))) (by rw [a1, r1])
   have QC := fun (w1 : World) (b : Below w.heap.size w w1) => squI (six y0 y1 y2 y3 y4 y5) (x0 + (x1 - x0) * k) (z0 + (z1 - z0) * k) x1 z1 x2 z2 (K := 64) (by omega) hr6 be bf m2 m3 m4 m5 w1 (hT.below b) (hP.below b) (by rw [a2]; exact n2) (x := (rabs ((x1 - x0) * (z2 - z0) - (z1 - z0) * (x2 - x0)) * (1 - k) * qs (Fn (six y0 y1 y2 y3 y4 y5) (six (x0 + (x1 - x0) * k) x1 x2 (z0 + (z1 - z0) * k) z1 z2)) * Rat.divInt 1 (360 : Nat))) (by rw [a2, r2])
   have S1 := fun (w1 : World) => rsumI (rabs ((x1 - x0) * (z2 - z0) - (z1 - z0) * (x2 - x0)) * k * lsum inW (Fn (six y0 y1 y2 y3 y4 y5) (six x0 (x0 + (x1 - x0) * k) x2 z0 (z0 + (z1 - z0) * k) z2)) * Rat.divInt 1 (120 : Nat)) (rabs ((x1 - x0) * (z2 - z0) - (z1 - z0) * (x2 - x0)) * (1 - k) * lsum inW (Fn (six y0 y1 y2 y3 y4 y5) (six (x0 + (x1 - x0) * k) x1 x2 (z0 + (z1 - z0) * k) z1 z2)) * Rat.divInt 1 (120 : Nat)) (K := 2000) (by omega) bB bC w1
   have S2 := fun (w1 : World) => rsumI (rabs ((x1 - x0) * (z2 - z0) - (z1 - z0) * (x2 - x0)) * k * qs (Fn (six y0 y1 y2 y3 y4 y5) (six x0 (x0 + (x1 - x0) * k) x2 z0 (z0 + (z1 - z0) * k) z2)) * Rat.divInt 1 (360 : Nat)) (rabs ((x1 - x0) * (z2 - z0) - (z1 - z0) * (x2 - x0)) * (1 - k) * qs (Fn (six y0 y1 y2 y3 y4 y5) (six (x0 + (x1 - x0) * k) x1 x2 (z0 + (z1 - z0) * k) z1 z2)) * Rat.divInt 1 (360 : Nat)) (K := 3500) (by omega) bY bZ w1
   exact halves_ok _ _ _ _ _ _ _ _ _ _ _ _ _ _ _ _ _ _ _ _ _ _ _ _ _ _ _ _ _ _ _ _ _ _ _ _ n d _ _ _ _ _ _ _ _ _ _ _ _ _ _ _ _ _ _ _ _ _ _ _ _ _ _ _ (by omega) (by omega) (by omega) (by omega) w HF (fun w1 _ => H3 w1) HL HK (fun w1 => betweenI x0 x1 k (K := 30) (by omega) b0 b1 (bq_mono bk (by omega)) w1) (fun w1 => betweenI z0 z1 k (K := 30) (by omega) c0 c1 (bq_mono bk (by omega)) w1) IA IB IC QA QB QC S1 S2
end Go.Proofs.YtbafjmjcepcckaaGreatDoor
