/-
  gussetlaw07: PolyLinear, walked.
  gussetlaw07: PolyLinear holds.
-/
import Derived.Test.YtbafjmjcepcckaaGreatDoorO43
set_option maxRecDepth 100000
set_option maxHeartbeats 16000000
namespace Go.Proofs.YtbafjmjcepcckaaGreatDoor
open Go.RowKit
theorem linear_ok (n0 n1 n2 n3 n4 n5 p0 p1 p2 p3 p4 p5 : Bool) (s0 d0 s1 d1 s2 d2 s3 d3 s4 d4 s5 d5 q0 r0 q1 r1 q2 r2 q3 r3 q4 r4 q5 r5 : ByteArray) (g0N g1N g2N g3N g4N g5N : Bool) (g0S g0D g1S g1D g2S g2D g3S g3D g4S g4D g5S g5D : ByteArray) (s0N s1N s2N s3N s4N s5N : Bool) (s0S s0D s1S s1D s2S s2D s3S s3D s4S s4D s5S s5D : ByteArray) (aN bN cN dN kN x0N x1N x2N y0N y1N y2N z0N z1N z2N u0N u1N u2N : Bool) (aS aD bS bD cS cD dS dD kS kD x0S x0D x1S x1D x2S x2D y0S y0D y1S y1D y2S y2D z0S z0D z1S z1D z2S z2D u0S u0D u1S u1D u2S u2D : ByteArray) (w : World)
  (HF : Hid (∀ w1, Below w.heap.size w w1 → Calls Tryz.prog 8 #[.agg #[.bool n0, .string s0, .string d0, .bool n1, .string s1, .string d1, .bool n2, .string s2, .string d2, .bool n3, .string s3, .string d3, .bool n4, .string s4, .string d4, .bool n5, .string s5, .string d5], .agg #[.bool p0, .string q0, .string r0, .bool p1, .string q1, .string r1, .bool p2, .string q2, .string r2, .bool p3, .string q3, .string r3, .bool p4, .string q4, .string r4, .bool p5, .string q5, .string r5]] w1 (Re w1 (.bool true))))
  (HG : Hid (∀ w1, Below w.heap.size w w1 → Calls Tryz.prog 8 #[.agg #[.bool g0N, .string g0S, .string g0D, .bool g1N, .string g1S, .string g1D, .bool g2N, .string g2S, .string g2D, .bool g3N, .string g3S, .string g3D, .bool g4N, .string g4S, .string g4D, .bool g5N, .string g5S, .string g5D], .agg #[.bool p0, .string q0, .string r0, .bool p1, .string q1, .string r1, .bool p2, .string q2, .string r2, .bool p3, .string q3, .string r3, .bool p4, .string q4, .string r4, .bool p5, .string q5, .string r5]] w1 (Re w1 (.bool true))))
  (HT : Hid (∀ w1, Below w.heap.size w w1 → Calls Tryz.prog 18 #[.agg #[.bool n0, .string s0, .string d0, .bool n1, .string s1, .string d1, .bool n2, .string s2, .string d2, .bool n3, .string s3, .string d3, .bool n4, .string s4, .string d4, .bool n5, .string s5, .string d5], .agg #[.bool p0, .string q0, .string r0, .bool p1, .string q1, .string r1, .bool p2, .string q2, .string r2, .bool p3, .string q3, .string r3, .bool p4, .string q4, .string r4, .bool p5, .string q5, .string r5]] w1 (Re w1 (.int .i64 0))))
  (HC : Hid (∀ w1, Below w.heap.size w w1 → Calls Tryz.prog 11 #[.agg #[.bool g0N, .string g0S, .string g0D, .bool g1N, .string g1S, .string g1D, .bool g2N, .string g2S, .string g2D, .bool g3N, .string g3S, .string g3D, .bool g4N, .string g4S, .string g4D, .bool g5N, .string g5S, .string g5D]] w1 (Re w1 (.int .i64 0))))
  (HL : Hid (∀ w1, Below w.heap.size w w1 → Calls Tryz.prog 9 #[] w1 (Re w1 (.bool true))))
  (HO : Hid (∀ w1, Calls Tryz.prog 23 #[.int .i64 2] w1 (Re w1 (.agg #[.bool kN, .string kS, .string kD]))))
  (HA : Hid (∀ w1, Calls Tryz.prog 22 #[.agg #[.bool n0, .string s0, .string d0, .bool n1, .string s1, .string d1, .bool n2, .string s2, .string d2, .bool n3, .string s3, .string d3, .bool n4, .string s4, .string d4, .bool n5, .string s5, .string d5], .agg #[.bool g0N, .string g0S, .string g0D, .bool g1N, .string g1S, .string g1D, .bool g2N, .string g2S, .string g2D, .bool g3N, .string g3S, .string g3D, .bool g4N, .string g4S, .string g4D, .bool g5N, .string g5S, .string g5D], .agg #[.bool kN, .string kS, .string kD]] w1 (Re w1 (.agg #[.bool s0N, .string s0S, .string s0D, .bool s1N, .string s1S, .string s1D, .bool s2N, .string s2S, .string s2D, .bool s3N, .string s3S, .string s3D, .bool s4N, .string s4S, .string s4D, .bool s5N, .string s5S, .string s5D]))))
  (I1 : Hid (∀ w1, Below w.heap.size w w1 → Calls Tryz.prog 15 #[.agg #[.bool n0, .string s0, .string d0, .bool n1, .string s1, .string d1, .bool n2, .string s2, .string d2, .bool n3, .string s3, .string d3, .bool n4, .string s4, .string d4, .bool n5, .string s5, .string d5], .agg #[.bool p0, .string q0, .string r0, .bool p1, .string q1, .string r1], .agg #[.bool p2, .string q2, .string r2, .bool p3, .string q3, .string r3], .agg #[.bool p4, .string q4, .string r4, .bool p5, .string q5, .string r5]] w1 (Re w1 (.tuple #[.agg #[.bool aN, .string aS, .string aD], .int .i64 0]))))
  (I2 : Hid (∀ w1, Below w.heap.size w w1 → Calls Tryz.prog 15 #[.agg #[.bool g0N, .string g0S, .string g0D, .bool g1N, .string g1S, .string g1D, .bool g2N, .string g2S, .string g2D, .bool g3N, .string g3S, .string g3D, .bool g4N, .string g4S, .string g4D, .bool g5N, .string g5S, .string g5D], .agg #[.bool p0, .string q0, .string r0, .bool p1, .string q1, .string r1], .agg #[.bool p2, .string q2, .string r2, .bool p3, .string q3, .string r3], .agg #[.bool p4, .string q4, .string r4, .bool p5, .string q5, .string r5]] w1 (Re w1 (.tuple #[.agg #[.bool bN, .string bS, .string bD], .int .i64 0]))))
  (I3 : Hid (∀ w1, Below w.heap.size w w1 → Calls Tryz.prog 15 #[.agg #[.bool s0N, .string s0S, .string s0D, .bool s1N, .string s1S, .string s1D, .bool s2N, .string s2S, .string s2D, .bool s3N, .string s3S, .string s3D, .bool s4N, .string s4S, .string s4D, .bool s5N, .string s5S, .string s5D], .agg #[.bool p0, .string q0, .string r0, .bool p1, .string q1, .string r1], .agg #[.bool p2, .string q2, .string r2, .bool p3, .string q3, .string r3], .agg #[.bool p4, .string q4, .string r4, .bool p5, .string q5, .string r5]] w1 (Re w1 (.tuple #[.agg #[.bool cN, .string cS, .string cD], .int .i64 0]))))
  (L1 : Hid (∀ w1, Below w.heap.size w w1 → Calls Tryz.prog 16 #[.agg #[.bool n0, .string s0, .string d0, .bool n1, .string s1, .string d1, .bool n2, .string s2, .string d2, .bool n3, .string s3, .string d3, .bool n4, .string s4, .string d4, .bool n5, .string s5, .string d5], .agg #[.bool p0, .string q0, .string r0, .bool p1, .string q1, .string r1], .agg #[.bool p2, .string q2, .string r2, .bool p3, .string q3, .string r3], .agg #[.bool p4, .string q4, .string r4, .bool p5, .string q5, .string r5]] w1 (Re w1 (.tuple #[.agg #[.bool x0N, .string x0S, .string x0D, .bool x1N, .string x1S, .string x1D, .bool x2N, .string x2S, .string x2D], .int .i64 0]))))
  (L2 : Hid (∀ w1, Below w.heap.size w w1 → Calls Tryz.prog 16 #[.agg #[.bool g0N, .string g0S, .string g0D, .bool g1N, .string g1S, .string g1D, .bool g2N, .string g2S, .string g2D, .bool g3N, .string g3S, .string g3D, .bool g4N, .string g4S, .string g4D, .bool g5N, .string g5S, .string g5D], .agg #[.bool p0, .string q0, .string r0, .bool p1, .string q1, .string r1], .agg #[.bool p2, .string q2, .string r2, .bool p3, .string q3, .string r3], .agg #[.bool p4, .string q4, .string r4, .bool p5, .string q5, .string r5]] w1 (Re w1 (.tuple #[.agg #[.bool y0N, .string y0S, .string y0D, .bool y1N, .string y1S, .string y1D, .bool y2N, .string y2S, .string y2D], .int .i64 0]))))
  (L3 : Hid (∀ w1, Below w.heap.size w w1 → Calls Tryz.prog 16 #[.agg #[.bool s0N, .string s0S, .string s0D, .bool s1N, .string s1S, .string s1D, .bool s2N, .string s2S, .string s2D, .bool s3N, .string s3S, .string s3D, .bool s4N, .string s4S, .string s4D, .bool s5N, .string s5S, .string s5D], .agg #[.bool p0, .string q0, .string r0, .bool p1, .string q1, .string r1], .agg #[.bool p2, .string q2, .string r2, .bool p3, .string q3, .string r3], .agg #[.bool p4, .string q4, .string r4, .bool p5, .string q5, .string r5]] w1 (Re w1 (.tuple #[.agg #[.bool z0N, .string z0S, .string z0D, .bool z1N, .string z1S, .string z1D, .bool z2N, .string z2S, .string z2D], .int .i64 0]))))
  (A0 : Hid (∀ w1, Calls Tryz.prog 24 #[.agg #[.bool y0N, .string y0S, .string y0D], .agg #[.bool y0N, .string y0S, .string y0D]] w1 (Re w1 (.agg #[.bool u0N, .string u0S, .string u0D]))))
  (B0 : Hid (∀ w1, Calls Tryz.prog 24 #[.agg #[.bool x0N, .string x0S, .string x0D], .agg #[.bool u0N, .string u0S, .string u0D]] w1 (Re w1 (.agg #[.bool z0N, .string z0S, .string z0D]))))
  (A1 : Hid (∀ w1, Calls Tryz.prog 24 #[.agg #[.bool y1N, .string y1S, .string y1D], .agg #[.bool y1N, .string y1S, .string y1D]] w1 (Re w1 (.agg #[.bool u1N, .string u1S, .string u1D]))))
  (B1 : Hid (∀ w1, Calls Tryz.prog 24 #[.agg #[.bool x1N, .string x1S, .string x1D], .agg #[.bool u1N, .string u1S, .string u1D]] w1 (Re w1 (.agg #[.bool z1N, .string z1S, .string z1D]))))
  (A2 : Hid (∀ w1, Calls Tryz.prog 24 #[.agg #[.bool y2N, .string y2S, .string y2D], .agg #[.bool y2N, .string y2S, .string y2D]] w1 (Re w1 (.agg #[.bool u2N, .string u2S, .string u2D]))))
  (B2 : Hid (∀ w1, Calls Tryz.prog 24 #[.agg #[.bool x2N, .string x2S, .string x2D], .agg #[.bool u2N, .string u2S, .string u2D]] w1 (Re w1 (.agg #[.bool z2N, .string z2S, .string z2D]))))
  (A3 : Hid (∀ w1, Calls Tryz.prog 24 #[.agg #[.bool bN, .string bS, .string bD], .agg #[.bool bN, .string bS, .string bD]] w1 (Re w1 (.agg #[.bool dN, .string dS, .string dD]))))
  (B3 : Hid (∀ w1, Calls Tryz.prog 24 #[.agg #[.bool aN, .string aS, .string aD], .agg #[.bool dN, .string dS, .string dD]] w1 (Re w1 (.agg #[.bool cN, .string cS, .string cD])))) :
  Calls Tryz.prog 5 #[.agg #[.bool n0, .string s0, .string d0, .bool n1, .string s1, .string d1, .bool n2, .string s2, .string d2, .bool n3, .string s3, .string d3, .bool n4, .string s4, .string d4, .bool n5, .string s5, .string d5], .agg #[.bool g0N, .string g0S, .string g0D, .bool g1N, .string g1S, .string g1D, .bool g2N, .string g2S, .string g2D, .bool g3N, .string g3S, .string g3D, .bool g4N, .string g4S, .string g4D, .bool g5N, .string g5S, .string g5D], .agg #[.bool p0, .string q0, .string r0, .bool p1, .string q1, .string r1, .bool p2, .string q2, .string r2, .bool p3, .string q3, .string r3, .bool p4, .string q4, .string r4, .bool p5, .string q5, .string r5]] w (Re w (.bool true)) := by
 go_enter Tryz.func5, Tryz.ntmps5
 go_upto_region 1 with fail
 obtain ⟨w0, hq, kf, kg, kt, bb⟩ := mk3 w [.bool n0, .string s0, .string d0, .bool n1, .string s1, .string d1, .bool n2, .string s2, .string d2, .bool n3, .string s3, .string d3, .bool n4, .string s4, .string d4, .bool n5, .string s5, .string d5] [.bool g0N, .string g0S, .string g0D, .bool g1N, .string g1S, .string g1D, .bool g2N, .string g2S, .string g2D, .bool g3N, .string g3S, .string g3D, .bool g4N, .string g4S, .string g4D, .bool g5N, .string g5S, .string g5D] [.bool p0, .string q0, .string r0, .bool p1, .string q1, .string r1, .bool p2, .string q2, .string r2, .bool p3, .string q3, .string r3, .bool p4, .string q4, .string r4, .bool p5, .string q5, .string r5] 28 28 32
 rw [← hq]
 clear hq
 go_wp2_with (first | (refine wpList_load_row rfl 28 _ rfl _ rfl 28 _ (0, 0) _ kf Tryz.underlying28 rfl (by kernel_rfl) ?_) | (refine wpList_load_row rfl 32 _ rfl _ rfl 32 _ (0, 0) _ kt Tryz.underlying32 rfl (by kernel_rfl) ?_))
 go_fit (HF.out _ bb)
 rintro e w1 ⟨rfl, b1⟩
 replace kf := kf.below b1
 replace kg := kg.below b1
 replace kt := kt.below b1
 replace bb := Below.after bb b1
 clear b1
 go_wp2_with (first | (refine wpList_load_rowG (by rfl) 28 _ rfl _ rfl 28 _ (0, 0) _ kg Tryz.underlying28 rfl (by kernel_rfl) ?_) | (refine wpList_load_rowG (by rfl) 32 _ rfl _ rfl 32 _ (0, 0) _ kt Tryz.underlying32 rfl (by kernel_rfl) ?_))
 go_fit (HG.out _ bb)
 rintro e w2 ⟨rfl, b1⟩
 replace kf := kf.below b1
 replace kg := kg.below b1
 replace kt := kt.below b1
 replace bb := Below.after bb b1
 clear b1
 go_wp2_with (first | (refine wpList_load_rowG (by rfl) 28 _ rfl _ rfl 28 _ (0, 0) _ kf Tryz.underlying28 rfl (by kernel_rfl) ?_) | (refine wpList_load_rowG (by rfl) 32 _ rfl _ rfl 32 _ (0, 0) _ kt Tryz.underlying32 rfl (by kernel_rfl) ?_))
 go_fit (HT.out _ bb)
 rintro e w3 ⟨rfl, b1⟩
 replace kf := kf.below b1
 replace kg := kg.below b1
 replace kt := kt.below b1
 replace bb := Below.after bb b1
 clear b1
 go_wp2_with (first | (refine wpList_load_rowG (by rfl) 28 _ rfl _ rfl 28 _ (0, 0) _ kg Tryz.underlying28 rfl (by kernel_rfl) ?_))
 go_fit (HC.out _ bb)
 rintro e w4 ⟨rfl, b1⟩
 replace kf := kf.below b1
 replace kg := kg.below b1
 replace kt := kt.below b1
 replace bb := Below.after bb b1
 clear b1
 go_upto_region 3 with fail
 go_cut [7] from 43 to 46 (fun v wx => ∃ gs, v = .pointer (some ⟨gs, 0, none⟩) ∧ Cel wx gs [.bool s0N, .string s0S, .string s0D, .bool s1N, .string s1S, .string s1D, .bool s2N, .string s2S, .string s2D, .bool s3N, .string s3S, .string s3D, .bool s4N, .string s4S, .string s4D, .bool s5N, .string s5S, .string s5D] 28 ∧ Below w4.heap.size w4 wx)
 case first =>
  refine wp_region_held_drew (S := SB w4) (by kernel_rfl) (bdrew _) (fun bc => ?_)
  refine WA.start (n := 6) (by kernel_rfl) ?_
  refine WA.tk 0 rfl ?_ (hy := yieldsIf_load_mid (by rfl) 28 _ rfl (w.heap.size) 0 rfl [.bool n0, .string s0, .string d0, .bool n1, .string s1, .string d1, .bool n2, .string s2, .string d2, .bool n3, .string s3, .string d3, .bool n4, .string s4, .string d4, .bool n5, .string s5, .string d5] _ (fun w' h => (kf.below h).rg 0 [.bool n0, .string s0, .string d0, .bool n1, .string s1, .string d1, .bool n2, .string s2, .string d2, .bool n3, .string s3, .string d3, .bool n4, .string s4, .string d4, .bool n5, .string s5, .string d5] [] rfl) Tryz.underlying28 rfl (by kernel_rfl))
  refine WA.tk 1 rfl ?_ (hy := yieldsIf_load_mid (by rfl) 28 _ rfl (w.heap.size + 1) 0 rfl [.bool g0N, .string g0S, .string g0D, .bool g1N, .string g1S, .string g1D, .bool g2N, .string g2S, .string g2D, .bool g3N, .string g3S, .string g3D, .bool g4N, .string g4S, .string g4D, .bool g5N, .string g5S, .string g5D] _ (fun w' h => (kg.below h).rg 0 [.bool g0N, .string g0S, .string g0D, .bool g1N, .string g1S, .string g1D, .bool g2N, .string g2S, .string g2D, .bool g3N, .string g3S, .string g3D, .bool g4N, .string g4S, .string g4D, .bool g5N, .string g5S, .string g5D] [] rfl) Tryz.underlying28 rfl (by kernel_rfl))
  refine WA.genZ (i := 4) (s := 7) (Pt w4 [.bool false, .string { data := #[] }, .string { data := #[] }, .bool false, .string { data := #[] }, .string { data := #[] }, .bool false, .string { data := #[] }, .string { data := #[] }, .bool false, .string { data := #[] }, .string { data := #[] }, .bool false, .string { data := #[] }, .string { data := #[] }, .bool false, .string { data := #[] }, .string { data := #[] }] 28) (fun b x hz => ?_)
  simp only [Act.put, List.setIfInBounds_toArray, List.set_cons_zero, List.set_cons_succ]
  revert b x
  refine WA.one 6 3 2 4 rfl rfl bc ?_
  clear bc
  intro b x w' hz bx bc K hK
  clear bx
  simp only [List.getElem_toArray, List.getElem_cons_succ, List.getElem_cons_zero]
  go_simp
  go_fit (HO.out _)
  rintro e wn ⟨rfl, bn⟩
  replace bc := Below.after bc bn
  try go_wp2_with fail
  refine hK.out _ _ bc (fun _ => ?_)
  replace hz := fun h => (hz h).below bn
  clear hK K bn
  revert b x
  refine WA.one 6 7 3 4 rfl rfl bc ?_
  clear bc
  intro b x w' hz bx bc K hK
  clear bx
  simp only [List.getElem_toArray, List.getElem_cons_succ, List.getElem_cons_zero]
  go_simp
  go_fit (HA.out _)
  rintro e wn ⟨rfl, bn⟩
  replace bc := Below.after bc bn
  try go_wp2_with fail
  refine hK.out _ _ bc (fun _ => ?_)
  replace hz := fun h => (hz h).below bn
  clear hK K bn
  revert b x
  refine WA.fin 4 rfl bc ?_
  clear bc
  intro x w' hz bx bc
  obtain ⟨g0, rfl, h0, k0⟩ := hz
  clear bx
  refine WA.call 5 rfl (fun K hK => ?_)
  rw [if_pos (by rfl)]
  refine wp_store_row 28 _ _ rfl g0 #[.bool s0N, .string s0S, .string s0D, .bool s1N, .string s1S, .string s1D, .bool s2N, .string s2S, .string s2D, .bool s3N, .string s3S, .string s3D, .bool s4N, .string s4S, .string s4D, .bool s5N, .string s5S, .string s5D] rfl rfl 28 _ k0 (by kernel_rfl) rfl (by kernel_rfl) ?_
  refine hK.out _ _ (below_setRow bc h0 _) (fun _ => ?_)
  clear hK K
  replace bc := below_setRow bc h0 #[.bool s0N, .string s0S, .string s0D, .bool s1N, .string s1S, .string s1D, .bool s2N, .string s2S, .string s2D, .bool s3N, .string s3S, .string s3D, .bool s4N, .string s4S, .string s4D, .bool s5N, .string s5S, .string s5D]
  replace k0 : Cel (w'.setRow g0 #[.bool s0N, .string s0S, .string s0D, .bool s1N, .string s1S, .string s1D, .bool s2N, .string s2S, .string s2D, .bool s3N, .string s3S, .string s3D, .bool s4N, .string s4S, .string s4D, .bool s5N, .string s5S, .string s5D]) g0 [.bool s0N, .string s0S, .string s0D, .bool s1N, .string s1S, .string s1D, .bool s2N, .string s2S, .string s2D, .bool s3N, .string s3S, .string s3D, .bool s4N, .string s4S, .string s4D, .bool s5N, .string s5S, .string s5D] 28 := setRow_heap _ _ _ _ _ _ k0
  generalize w'.setRow g0 #[.bool s0N, .string s0S, .string s0D, .bool s1N, .string s1S, .string s1D, .bool s2N, .string s2S, .string s2D, .bool s3N, .string s3S, .string s3D, .bool s4N, .string s4S, .string s4D, .bool s5N, .string s5S, .string s5D] = wa at *
  refine WA.done (by kernel_rfl) ?_
  go_wp2_with fail
  go_meet
  exact ⟨_, rfl, k0, bc⟩
 case rest =>
 obtain ⟨gs, rfl, ks, b1⟩ := hcut
 replace kf := kf.below b1
 replace kg := kg.below b1
 replace kt := kt.below b1
 replace bb := Below.after bb b1
 clear b1
 go_wp2_with (first | (refine wpList_load_row rfl 28 _ rfl _ rfl 28 _ (0, 0) _ kf Tryz.underlying28 rfl (by kernel_rfl) ?_) | (refine wpList_load_mid rfl 30 _ rfl (w.heap.size + 1 + 1) 0 rfl [.bool p0, .string q0, .string r0, .bool p1, .string q1, .string r1] _ (kt.rg 0 [.bool p0, .string q0, .string r0, .bool p1, .string q1, .string r1] [.bool p2, .string q2, .string r2, .bool p3, .string q3, .string r3, .bool p4, .string q4, .string r4, .bool p5, .string q5, .string r5] rfl) Tryz.underlying30 rfl (by kernel_rfl) ?_) | (refine wpList_load_mid rfl 30 _ rfl (w.heap.size + 1 + 1) 6 rfl [.bool p2, .string q2, .string r2, .bool p3, .string q3, .string r3] _ (kt.rg 6 [.bool p2, .string q2, .string r2, .bool p3, .string q3, .string r3] [.bool p4, .string q4, .string r4, .bool p5, .string q5, .string r5] rfl) Tryz.underlying30 rfl (by kernel_rfl) ?_) | (refine wpList_load_mid rfl 30 _ rfl (w.heap.size + 1 + 1) 12 rfl [.bool p4, .string q4, .string r4, .bool p5, .string q5, .string r5] _ (kt.rg 12 [.bool p4, .string q4, .string r4, .bool p5, .string q5, .string r5] [] rfl) Tryz.underlying30 rfl (by kernel_rfl) ?_))
 go_fit (I1.out _ bb)
 rintro e w5 ⟨rfl, b1⟩
 replace kf := kf.below b1
 replace kg := kg.below b1
 replace kt := kt.below b1
 replace ks := ks.below b1
 replace bb := Below.after bb b1
 clear b1
 go_upto_region 5 with fail
 obtain ⟨v5, hq, ma, b1⟩ := mk1 w5 [.bool aN, .string aS, .string aD] 26
 rw [← hq]
 clear hq
 replace kf := kf.below b1
 replace kg := kg.below b1
 replace kt := kt.below b1
 replace ks := ks.below b1
 replace bb := Below.after bb b1
 clear b1
 go_wp2_with (first | (refine wpList_load_row rfl 28 _ rfl _ rfl 28 _ (0, 0) _ kg Tryz.underlying28 rfl (by kernel_rfl) ?_) | (refine wpList_load_mid rfl 30 _ rfl (w.heap.size + 1 + 1) 0 rfl [.bool p0, .string q0, .string r0, .bool p1, .string q1, .string r1] _ (kt.rg 0 [.bool p0, .string q0, .string r0, .bool p1, .string q1, .string r1] [.bool p2, .string q2, .string r2, .bool p3, .string q3, .string r3, .bool p4, .string q4, .string r4, .bool p5, .string q5, .string r5] rfl) Tryz.underlying30 rfl (by kernel_rfl) ?_) | (refine wpList_load_mid rfl 30 _ rfl (w.heap.size + 1 + 1) 6 rfl [.bool p2, .string q2, .string r2, .bool p3, .string q3, .string r3] _ (kt.rg 6 [.bool p2, .string q2, .string r2, .bool p3, .string q3, .string r3] [.bool p4, .string q4, .string r4, .bool p5, .string q5, .string r5] rfl) Tryz.underlying30 rfl (by kernel_rfl) ?_) | (refine wpList_load_mid rfl 30 _ rfl (w.heap.size + 1 + 1) 12 rfl [.bool p4, .string q4, .string r4, .bool p5, .string q5, .string r5] _ (kt.rg 12 [.bool p4, .string q4, .string r4, .bool p5, .string q5, .string r5] [] rfl) Tryz.underlying30 rfl (by kernel_rfl) ?_))
 go_fit (I2.out _ bb)
 rintro e w6 ⟨rfl, b1⟩
 replace kf := kf.below b1
 replace kg := kg.below b1
 replace kt := kt.below b1
 replace ks := ks.below b1
 replace ma := ma.below b1
 replace bb := Below.after bb b1
 clear b1
 go_upto_region 6 with fail
 obtain ⟨v6, hq, mb, b1⟩ := mk1 w6 [.bool bN, .string bS, .string bD] 26
 rw [← hq]
 clear hq
 replace kf := kf.below b1
 replace kg := kg.below b1
 replace kt := kt.below b1
 replace ks := ks.below b1
 replace ma := ma.below b1
 replace bb := Below.after bb b1
 clear b1
 go_wp2_with (first | (refine wpList_load_row rfl 28 _ rfl _ rfl 28 _ (0, 0) _ ks Tryz.underlying28 rfl (by kernel_rfl) ?_) | (refine wpList_load_mid rfl 30 _ rfl (w.heap.size + 1 + 1) 0 rfl [.bool p0, .string q0, .string r0, .bool p1, .string q1, .string r1] _ (kt.rg 0 [.bool p0, .string q0, .string r0, .bool p1, .string q1, .string r1] [.bool p2, .string q2, .string r2, .bool p3, .string q3, .string r3, .bool p4, .string q4, .string r4, .bool p5, .string q5, .string r5] rfl) Tryz.underlying30 rfl (by kernel_rfl) ?_) | (refine wpList_load_mid rfl 30 _ rfl (w.heap.size + 1 + 1) 6 rfl [.bool p2, .string q2, .string r2, .bool p3, .string q3, .string r3] _ (kt.rg 6 [.bool p2, .string q2, .string r2, .bool p3, .string q3, .string r3] [.bool p4, .string q4, .string r4, .bool p5, .string q5, .string r5] rfl) Tryz.underlying30 rfl (by kernel_rfl) ?_) | (refine wpList_load_mid rfl 30 _ rfl (w.heap.size + 1 + 1) 12 rfl [.bool p4, .string q4, .string r4, .bool p5, .string q5, .string r5] _ (kt.rg 12 [.bool p4, .string q4, .string r4, .bool p5, .string q5, .string r5] [] rfl) Tryz.underlying30 rfl (by kernel_rfl) ?_))
 go_fit (I3.out _ bb)
 rintro e w7 ⟨rfl, b1⟩
 replace kf := kf.below b1
 replace kg := kg.below b1
 replace kt := kt.below b1
 replace ks := ks.below b1
 replace ma := ma.below b1
 replace mb := mb.below b1
 replace bb := Below.after bb b1
 clear b1
 go_upto_region 7 with fail
 obtain ⟨v7, hq, mc, b1⟩ := mk1 w7 [.bool cN, .string cS, .string cD] 26
 rw [← hq]
 clear hq
 replace kf := kf.below b1
 replace kg := kg.below b1
 replace kt := kt.below b1
 replace ks := ks.below b1
 replace ma := ma.below b1
 replace mb := mb.below b1
 replace bb := Below.after bb b1
 clear b1
 go_wp2_with (first | (refine wpList_load_row rfl 28 _ rfl _ rfl 28 _ (0, 0) _ kf Tryz.underlying28 rfl (by kernel_rfl) ?_) | (refine wpList_load_mid rfl 30 _ rfl (w.heap.size + 1 + 1) 0 rfl [.bool p0, .string q0, .string r0, .bool p1, .string q1, .string r1] _ (kt.rg 0 [.bool p0, .string q0, .string r0, .bool p1, .string q1, .string r1] [.bool p2, .string q2, .string r2, .bool p3, .string q3, .string r3, .bool p4, .string q4, .string r4, .bool p5, .string q5, .string r5] rfl) Tryz.underlying30 rfl (by kernel_rfl) ?_) | (refine wpList_load_mid rfl 30 _ rfl (w.heap.size + 1 + 1) 6 rfl [.bool p2, .string q2, .string r2, .bool p3, .string q3, .string r3] _ (kt.rg 6 [.bool p2, .string q2, .string r2, .bool p3, .string q3, .string r3] [.bool p4, .string q4, .string r4, .bool p5, .string q5, .string r5] rfl) Tryz.underlying30 rfl (by kernel_rfl) ?_) | (refine wpList_load_mid rfl 30 _ rfl (w.heap.size + 1 + 1) 12 rfl [.bool p4, .string q4, .string r4, .bool p5, .string q5, .string r5] _ (kt.rg 12 [.bool p4, .string q4, .string r4, .bool p5, .string q5, .string r5] [] rfl) Tryz.underlying30 rfl (by kernel_rfl) ?_))
 go_fit (L1.out _ bb)
 rintro e w8 ⟨rfl, b1⟩
 replace kf := kf.below b1
 replace kg := kg.below b1
 replace kt := kt.below b1
 replace ks := ks.below b1
 replace ma := ma.below b1
 replace mb := mb.below b1
 replace mc := mc.below b1
 replace bb := Below.after bb b1
 clear b1
 go_upto_region 8 with fail
 obtain ⟨v8, hq, mx, b1⟩ := mk1 w8 [.bool x0N, .string x0S, .string x0D, .bool x1N, .string x1S, .string x1D, .bool x2N, .string x2S, .string x2D] 43
 rw [← hq]
 clear hq
 replace kf := kf.below b1
 replace kg := kg.below b1
 replace kt := kt.below b1
 replace ks := ks.below b1
 replace ma := ma.below b1
 replace mb := mb.below b1
 replace mc := mc.below b1
 replace bb := Below.after bb b1
 clear b1
 go_wp2_with (first | (refine wpList_load_row rfl 28 _ rfl _ rfl 28 _ (0, 0) _ kg Tryz.underlying28 rfl (by kernel_rfl) ?_) | (refine wpList_load_mid rfl 30 _ rfl (w.heap.size + 1 + 1) 0 rfl [.bool p0, .string q0, .string r0, .bool p1, .string q1, .string r1] _ (kt.rg 0 [.bool p0, .string q0, .string r0, .bool p1, .string q1, .string r1] [.bool p2, .string q2, .string r2, .bool p3, .string q3, .string r3, .bool p4, .string q4, .string r4, .bool p5, .string q5, .string r5] rfl) Tryz.underlying30 rfl (by kernel_rfl) ?_) | (refine wpList_load_mid rfl 30 _ rfl (w.heap.size + 1 + 1) 6 rfl [.bool p2, .string q2, .string r2, .bool p3, .string q3, .string r3] _ (kt.rg 6 [.bool p2, .string q2, .string r2, .bool p3, .string q3, .string r3] [.bool p4, .string q4, .string r4, .bool p5, .string q5, .string r5] rfl) Tryz.underlying30 rfl (by kernel_rfl) ?_) | (refine wpList_load_mid rfl 30 _ rfl (w.heap.size + 1 + 1) 12 rfl [.bool p4, .string q4, .string r4, .bool p5, .string q5, .string r5] _ (kt.rg 12 [.bool p4, .string q4, .string r4, .bool p5, .string q5, .string r5] [] rfl) Tryz.underlying30 rfl (by kernel_rfl) ?_))
 go_fit (L2.out _ bb)
 rintro e w9 ⟨rfl, b1⟩
 replace kf := kf.below b1
 replace kg := kg.below b1
 replace kt := kt.below b1
 replace ks := ks.below b1
 replace ma := ma.below b1
 replace mb := mb.below b1
 replace mc := mc.below b1
 replace mx := mx.below b1
 replace bb := Below.after bb b1
 clear b1
 go_upto_region 9 with fail
 obtain ⟨v9, hq, my, b1⟩ := mk1 w9 [.bool y0N, .string y0S, .string y0D, .bool y1N, .string y1S, .string y1D, .bool y2N, .string y2S, .string y2D] 43
 rw [← hq]
 clear hq
 replace kf := kf.below b1
 replace kg := kg.below b1
 replace kt := kt.below b1
 replace ks := ks.below b1
 replace ma := ma.below b1
 replace mb := mb.below b1
 replace mc := mc.below b1
 replace mx := mx.below b1
 replace bb := Below.after bb b1
 clear b1
 go_wp2_with (first | (refine wpList_load_row rfl 28 _ rfl _ rfl 28 _ (0, 0) _ ks Tryz.underlying28 rfl (by kernel_rfl) ?_) | (refine wpList_load_mid rfl 30 _ rfl (w.heap.size + 1 + 1) 0 rfl [.bool p0, .string q0, .string r0, .bool p1, .string q1, .string r1] _ (kt.rg 0 [.bool p0, .string q0, .string r0, .bool p1, .string q1, .string r1] [.bool p2, .string q2, .string r2, .bool p3, .string q3, .string r3, .bool p4, .string q4, .string r4, .bool p5, .string q5, .string r5] rfl) Tryz.underlying30 rfl (by kernel_rfl) ?_) | (refine wpList_load_mid rfl 30 _ rfl (w.heap.size + 1 + 1) 6 rfl [.bool p2, .string q2, .string r2, .bool p3, .string q3, .string r3] _ (kt.rg 6 [.bool p2, .string q2, .string r2, .bool p3, .string q3, .string r3] [.bool p4, .string q4, .string r4, .bool p5, .string q5, .string r5] rfl) Tryz.underlying30 rfl (by kernel_rfl) ?_) | (refine wpList_load_mid rfl 30 _ rfl (w.heap.size + 1 + 1) 12 rfl [.bool p4, .string q4, .string r4, .bool p5, .string q5, .string r5] _ (kt.rg 12 [.bool p4, .string q4, .string r4, .bool p5, .string q5, .string r5] [] rfl) Tryz.underlying30 rfl (by kernel_rfl) ?_))
 go_fit (L3.out _ bb)
 rintro e w10 ⟨rfl, b1⟩
 replace kf := kf.below b1
 replace kg := kg.below b1
 replace kt := kt.below b1
 replace ks := ks.below b1
 replace ma := ma.below b1
 replace mb := mb.below b1
 replace mc := mc.below b1
 replace mx := mx.below b1
 replace my := my.below b1
 replace bb := Below.after bb b1
 clear b1
 clear kf kg kt ks
 go_upto_region 12 with fail
 obtain ⟨v10, hq, mz, b1⟩ := mk1 w10 [.bool z0N, .string z0S, .string z0D, .bool z1N, .string z1S, .string z1D, .bool z2N, .string z2S, .string z2D] 43
 rw [← hq]
 clear hq
 replace ma := ma.below b1
 replace mb := mb.below b1
 replace mc := mc.below b1
 replace mx := mx.below b1
 replace my := my.below b1
 replace bb := Below.after bb b1
 clear b1
 go_wp2_with fail
 refine wp_loop_rounds 4 ?_
 rw [rounds_succ]
 go_wp2_with fail
 have bd := bdrew v10
 replace ma := ma.below bd
 replace mb := mb.below bd
 replace mc := mc.below bd
 replace mx := mx.below bd
 replace my := my.below bd
 replace mz := mz.below bd
 replace bb := Below.after bb bd
 clear bd
 refine wp_region_held_drew (S := fun w' => w'.rangeAt (w10.heap.size) 0 [.bool z0N, .string z0S, .string z0D] ∧ w'.rangeAt (w8.heap.size) 0 [.bool x0N, .string x0S, .string x0D] ∧ w'.rangeAt (w9.heap.size) 0 [.bool y0N, .string y0S, .string y0D]) (by kernel_rfl) ⟨mz.rg 0 [.bool z0N, .string z0S, .string z0D] [.bool z1N, .string z1S, .string z1D, .bool z2N, .string z2S, .string z2D] rfl, mx.rg 0 [.bool x0N, .string x0S, .string x0D] [.bool x1N, .string x1S, .string x1D, .bool x2N, .string x2S, .string x2D] rfl, my.rg 0 [.bool y0N, .string y0S, .string y0D] [.bool y1N, .string y1S, .string y1D, .bool y2N, .string y2S, .string y2D] rfl⟩ (fun hS => ?_)
 generalize v10.drew = wd0 at *
 refine WA.start (n := 15) (by kernel_rfl) ?_
 refine WA.tp 0 rfl ?_
 refine WA.tp 1 rfl ?_
 refine WA.tp 2 rfl ?_ (hy := yieldsIf_load_mid (by rfl) 26 _ rfl (w10.heap.size) 0 rfl [.bool z0N, .string z0S, .string z0D] _ (fun w' h => h.1) Tryz.underlying26 rfl (by kernel_rfl))
 refine WA.tp 3 rfl ?_
 refine WA.tp 4 rfl ?_
 refine WA.tp 5 rfl ?_ (hy := yieldsIf_load_mid (by rfl) 26 _ rfl (w8.heap.size) 0 rfl [.bool x0N, .string x0S, .string x0D] _ (fun w' h => h.2.1) Tryz.underlying26 rfl (by kernel_rfl))
 refine WA.tp 6 rfl ?_
 refine WA.tp 7 rfl ?_
 refine WA.tp 8 rfl ?_ (hy := yieldsIf_load_mid (by rfl) 26 _ rfl (w9.heap.size) 0 rfl [.bool y0N, .string y0S, .string y0D] _ (fun w' h => h.2.2) Tryz.underlying26 rfl (by kernel_rfl))
 refine WA.tp 9 rfl ?_
 refine WA.tp 10 rfl ?_
 refine WA.tp 11 rfl ?_ (hy := yieldsIf_load_mid (by rfl) 26 _ rfl (w9.heap.size) 0 rfl [.bool y0N, .string y0S, .string y0D] _ (fun w' h => h.2.2) Tryz.underlying26 rfl (by kernel_rfl))
 clear hS
 refine WA.cal 12 rfl (fun K hK => ?_)
 simp only [List.getElem_toArray, List.getElem_cons_succ, List.getElem_cons_zero]
 go_simp
 go_fit (A0.out _)
 rintro e wm12 ⟨rfl, b1⟩
 replace ma := ma.below b1
 replace mb := mb.below b1
 replace mc := mc.below b1
 replace mx := mx.below b1
 replace my := my.below b1
 replace mz := mz.below b1
 replace bb := Below.after bb b1
 clear b1
 try go_wp2_with fail
 refine hK.out _ _ ⟨mz.rg 0 [.bool z0N, .string z0S, .string z0D] [.bool z1N, .string z1S, .string z1D, .bool z2N, .string z2S, .string z2D] rfl, mx.rg 0 [.bool x0N, .string x0S, .string x0D] [.bool x1N, .string x1S, .string x1D, .bool x2N, .string x2S, .string x2D] rfl, my.rg 0 [.bool y0N, .string y0S, .string y0D] [.bool y1N, .string y1S, .string y1D, .bool y2N, .string y2S, .string y2D] rfl⟩ (fun hS => ?_)
 clear hK K
 clear hS
 refine WA.cal 13 rfl (fun K hK => ?_)
 simp only [List.getElem_toArray, List.getElem_cons_succ, List.getElem_cons_zero]
 go_simp
 go_fit (B0.out _)
 rintro e wm13 ⟨rfl, b1⟩
 replace ma := ma.below b1
 replace mb := mb.below b1
 replace mc := mc.below b1
 replace mx := mx.below b1
 replace my := my.below b1
 replace mz := mz.below b1
 replace bb := Below.after bb b1
 clear b1
 try go_wp2_with fail
 refine hK.out _ _ ⟨mz.rg 0 [.bool z0N, .string z0S, .string z0D] [.bool z1N, .string z1S, .string z1D, .bool z2N, .string z2S, .string z2D] rfl, mx.rg 0 [.bool x0N, .string x0S, .string x0D] [.bool x1N, .string x1S, .string x1D, .bool x2N, .string x2S, .string x2D] rfl, my.rg 0 [.bool y0N, .string y0S, .string y0D] [.bool y1N, .string y1S, .string y1D, .bool y2N, .string y2S, .string y2D] rfl⟩ (fun hS => ?_)
 clear hK K
 refine WA.tp 14 rfl ?_
 refine WA.done (by kernel_rfl) ?_
 clear hS
 go_wp2_with fail
 rw [rounds_succ]
 go_wp2_with fail
 have bd := bdrew wm13
 replace ma := ma.below bd
 replace mb := mb.below bd
 replace mc := mc.below bd
 replace mx := mx.below bd
 replace my := my.below bd
 replace mz := mz.below bd
 replace bb := Below.after bb bd
 clear bd
 refine wp_region_held_drew (S := fun w' => w'.rangeAt (w10.heap.size) 3 [.bool z1N, .string z1S, .string z1D] ∧ w'.rangeAt (w8.heap.size) 3 [.bool x1N, .string x1S, .string x1D] ∧ w'.rangeAt (w9.heap.size) 3 [.bool y1N, .string y1S, .string y1D]) (by kernel_rfl) ⟨mz.rg 3 [.bool z1N, .string z1S, .string z1D] [.bool z2N, .string z2S, .string z2D] rfl, mx.rg 3 [.bool x1N, .string x1S, .string x1D] [.bool x2N, .string x2S, .string x2D] rfl, my.rg 3 [.bool y1N, .string y1S, .string y1D] [.bool y2N, .string y2S, .string y2D] rfl⟩ (fun hS => ?_)
 generalize wm13.drew = wd1 at *
 refine WA.start (n := 15) (by kernel_rfl) ?_
 refine WA.tp 0 rfl ?_
 refine WA.tp 1 rfl ?_
 refine WA.tp 2 rfl ?_ (hy := yieldsIf_load_mid (by rfl) 26 _ rfl (w10.heap.size) 3 rfl [.bool z1N, .string z1S, .string z1D] _ (fun w' h => h.1) Tryz.underlying26 rfl (by kernel_rfl))
 refine WA.tp 3 rfl ?_
 refine WA.tp 4 rfl ?_
 refine WA.tp 5 rfl ?_ (hy := yieldsIf_load_mid (by rfl) 26 _ rfl (w8.heap.size) 3 rfl [.bool x1N, .string x1S, .string x1D] _ (fun w' h => h.2.1) Tryz.underlying26 rfl (by kernel_rfl))
 refine WA.tp 6 rfl ?_
 refine WA.tp 7 rfl ?_
 refine WA.tp 8 rfl ?_ (hy := yieldsIf_load_mid (by rfl) 26 _ rfl (w9.heap.size) 3 rfl [.bool y1N, .string y1S, .string y1D] _ (fun w' h => h.2.2) Tryz.underlying26 rfl (by kernel_rfl))
 refine WA.tp 9 rfl ?_
 refine WA.tp 10 rfl ?_
 refine WA.tp 11 rfl ?_ (hy := yieldsIf_load_mid (by rfl) 26 _ rfl (w9.heap.size) 3 rfl [.bool y1N, .string y1S, .string y1D] _ (fun w' h => h.2.2) Tryz.underlying26 rfl (by kernel_rfl))
 clear hS
 refine WA.cal 12 rfl (fun K hK => ?_)
 simp only [List.getElem_toArray, List.getElem_cons_succ, List.getElem_cons_zero]
 go_simp
 go_fit (A1.out _)
 rintro e wm12 ⟨rfl, b1⟩
 replace ma := ma.below b1
 replace mb := mb.below b1
 replace mc := mc.below b1
 replace mx := mx.below b1
 replace my := my.below b1
 replace mz := mz.below b1
 replace bb := Below.after bb b1
 clear b1
 try go_wp2_with fail
 refine hK.out _ _ ⟨mz.rg 3 [.bool z1N, .string z1S, .string z1D] [.bool z2N, .string z2S, .string z2D] rfl, mx.rg 3 [.bool x1N, .string x1S, .string x1D] [.bool x2N, .string x2S, .string x2D] rfl, my.rg 3 [.bool y1N, .string y1S, .string y1D] [.bool y2N, .string y2S, .string y2D] rfl⟩ (fun hS => ?_)
 clear hK K
 clear hS
 refine WA.cal 13 rfl (fun K hK => ?_)
 simp only [List.getElem_toArray, List.getElem_cons_succ, List.getElem_cons_zero]
 go_simp
 go_fit (B1.out _)
 rintro e wm13 ⟨rfl, b1⟩
 replace ma := ma.below b1
 replace mb := mb.below b1
 replace mc := mc.below b1
 replace mx := mx.below b1
 replace my := my.below b1
 replace mz := mz.below b1
 replace bb := Below.after bb b1
 clear b1
 try go_wp2_with fail
 refine hK.out _ _ ⟨mz.rg 3 [.bool z1N, .string z1S, .string z1D] [.bool z2N, .string z2S, .string z2D] rfl, mx.rg 3 [.bool x1N, .string x1S, .string x1D] [.bool x2N, .string x2S, .string x2D] rfl, my.rg 3 [.bool y1N, .string y1S, .string y1D] [.bool y2N, .string y2S, .string y2D] rfl⟩ (fun hS => ?_)
 clear hK K
 refine WA.tp 14 rfl ?_
 refine WA.done (by kernel_rfl) ?_
 clear hS
 go_wp2_with fail
 rw [rounds_succ]
 go_wp2_with fail
 have bd := bdrew wm13
 replace ma := ma.below bd
 replace mb := mb.below bd
 replace mc := mc.below bd
 replace mx := mx.below bd
 replace my := my.below bd
 replace mz := mz.below bd
 replace bb := Below.after bb bd
 clear bd
 refine wp_region_held_drew (S := fun w' => w'.rangeAt (w10.heap.size) 6 [.bool z2N, .string z2S, .string z2D] ∧ w'.rangeAt (w8.heap.size) 6 [.bool x2N, .string x2S, .string x2D] ∧ w'.rangeAt (w9.heap.size) 6 [.bool y2N, .string y2S, .string y2D]) (by kernel_rfl) ⟨mz.rg 6 [.bool z2N, .string z2S, .string z2D] [] rfl, mx.rg 6 [.bool x2N, .string x2S, .string x2D] [] rfl, my.rg 6 [.bool y2N, .string y2S, .string y2D] [] rfl⟩ (fun hS => ?_)
 generalize wm13.drew = wd2 at *
 refine WA.start (n := 15) (by kernel_rfl) ?_
 refine WA.tp 0 rfl ?_
 refine WA.tp 1 rfl ?_
 refine WA.tp 2 rfl ?_ (hy := yieldsIf_load_mid (by rfl) 26 _ rfl (w10.heap.size) 6 rfl [.bool z2N, .string z2S, .string z2D] _ (fun w' h => h.1) Tryz.underlying26 rfl (by kernel_rfl))
 refine WA.tp 3 rfl ?_
 refine WA.tp 4 rfl ?_
 refine WA.tp 5 rfl ?_ (hy := yieldsIf_load_mid (by rfl) 26 _ rfl (w8.heap.size) 6 rfl [.bool x2N, .string x2S, .string x2D] _ (fun w' h => h.2.1) Tryz.underlying26 rfl (by kernel_rfl))
 refine WA.tp 6 rfl ?_
 refine WA.tp 7 rfl ?_
 refine WA.tp 8 rfl ?_ (hy := yieldsIf_load_mid (by rfl) 26 _ rfl (w9.heap.size) 6 rfl [.bool y2N, .string y2S, .string y2D] _ (fun w' h => h.2.2) Tryz.underlying26 rfl (by kernel_rfl))
 refine WA.tp 9 rfl ?_
 refine WA.tp 10 rfl ?_
 refine WA.tp 11 rfl ?_ (hy := yieldsIf_load_mid (by rfl) 26 _ rfl (w9.heap.size) 6 rfl [.bool y2N, .string y2S, .string y2D] _ (fun w' h => h.2.2) Tryz.underlying26 rfl (by kernel_rfl))
 clear hS
 refine WA.cal 12 rfl (fun K hK => ?_)
 simp only [List.getElem_toArray, List.getElem_cons_succ, List.getElem_cons_zero]
 go_simp
 go_fit (A2.out _)
 rintro e wm12 ⟨rfl, b1⟩
 replace ma := ma.below b1
 replace mb := mb.below b1
 replace mc := mc.below b1
 replace mx := mx.below b1
 replace my := my.below b1
 replace mz := mz.below b1
 replace bb := Below.after bb b1
 clear b1
 try go_wp2_with fail
 refine hK.out _ _ ⟨mz.rg 6 [.bool z2N, .string z2S, .string z2D] [] rfl, mx.rg 6 [.bool x2N, .string x2S, .string x2D] [] rfl, my.rg 6 [.bool y2N, .string y2S, .string y2D] [] rfl⟩ (fun hS => ?_)
 clear hK K
 clear hS
 refine WA.cal 13 rfl (fun K hK => ?_)
 simp only [List.getElem_toArray, List.getElem_cons_succ, List.getElem_cons_zero]
 go_simp
 go_fit (B2.out _)
 rintro e wm13 ⟨rfl, b1⟩
 replace ma := ma.below b1
 replace mb := mb.below b1
 replace mc := mc.below b1
 replace mx := mx.below b1
 replace my := my.below b1
 replace mz := mz.below b1
 replace bb := Below.after bb b1
 clear b1
 try go_wp2_with fail
 refine hK.out _ _ ⟨mz.rg 6 [.bool z2N, .string z2S, .string z2D] [] rfl, mx.rg 6 [.bool x2N, .string x2S, .string x2D] [] rfl, my.rg 6 [.bool y2N, .string y2S, .string y2D] [] rfl⟩ (fun hS => ?_)
 clear hK K
 refine WA.tp 14 rfl ?_
 refine WA.done (by kernel_rfl) ?_
 clear hS
 go_wp2_with fail
 rw [rounds_succ]
 go_upto_region 17 with fail
 have bd := bdrew wm13
 replace ma := ma.below bd
 replace mb := mb.below bd
 replace mc := mc.below bd
 replace mx := mx.below bd
 replace my := my.below bd
 replace mz := mz.below bd
 replace bb := Below.after bb bd
 clear bd
 refine wp_region_held_drew (S := fun w' => w'.rangeAt (w7.heap.size) 0 [.bool cN, .string cS, .string cD] ∧ w'.rangeAt (w5.heap.size) 0 [.bool aN, .string aS, .string aD] ∧ w'.rangeAt (w6.heap.size) 0 [.bool bN, .string bS, .string bD]) (by kernel_rfl) ⟨mc.rg 0 [.bool cN, .string cS, .string cD] [] rfl, ma.rg 0 [.bool aN, .string aS, .string aD] [] rfl, mb.rg 0 [.bool bN, .string bS, .string bD] [] rfl⟩ (fun hS => ?_)
 generalize wm13.drew = wd3 at *
 refine WA.start (n := 11) (by kernel_rfl) ?_
 refine WA.tp 0 rfl ?_ (hy := yieldsIf_load_mid (by rfl) 26 _ rfl (w7.heap.size) 0 rfl [.bool cN, .string cS, .string cD] _ (fun w' h => h.1) Tryz.underlying26 rfl (by kernel_rfl))
 refine WA.tp 1 rfl ?_ (hy := yieldsIf_load_mid (by rfl) 26 _ rfl (w5.heap.size) 0 rfl [.bool aN, .string aS, .string aD] _ (fun w' h => h.2.1) Tryz.underlying26 rfl (by kernel_rfl))
 refine WA.tp 2 rfl ?_ (hy := yieldsIf_load_mid (by rfl) 26 _ rfl (w6.heap.size) 0 rfl [.bool bN, .string bS, .string bD] _ (fun w' h => h.2.2) Tryz.underlying26 rfl (by kernel_rfl))
 refine WA.tp 3 rfl ?_ (hy := yieldsIf_load_mid (by rfl) 26 _ rfl (w6.heap.size) 0 rfl [.bool bN, .string bS, .string bD] _ (fun w' h => h.2.2) Tryz.underlying26 rfl (by kernel_rfl))
 clear hS
 refine WA.cal 4 rfl (fun K hK => ?_)
 simp only [List.getElem_toArray, List.getElem_cons_succ, List.getElem_cons_zero]
 go_simp
 go_fit (A3.out _)
 rintro e wm4 ⟨rfl, b1⟩
 replace ma := ma.below b1
 replace mb := mb.below b1
 replace mc := mc.below b1
 replace mx := mx.below b1
 replace my := my.below b1
 replace mz := mz.below b1
 replace bb := Below.after bb b1
 clear b1
 try go_wp2_with fail
 refine hK.out _ _ ⟨mc.rg 0 [.bool cN, .string cS, .string cD] [] rfl, ma.rg 0 [.bool aN, .string aS, .string aD] [] rfl, mb.rg 0 [.bool bN, .string bS, .string bD] [] rfl⟩ (fun hS => ?_)
 clear hK K
 clear hS
 refine WA.cal 5 rfl (fun K hK => ?_)
 simp only [List.getElem_toArray, List.getElem_cons_succ, List.getElem_cons_zero]
 go_simp
 go_fit (B3.out _)
 rintro e wm5 ⟨rfl, b1⟩
 replace ma := ma.below b1
 replace mb := mb.below b1
 replace mc := mc.below b1
 replace mx := mx.below b1
 replace my := my.below b1
 replace mz := mz.below b1
 replace bb := Below.after bb b1
 clear b1
 try go_wp2_with fail
 refine hK.out _ _ ⟨mc.rg 0 [.bool cN, .string cS, .string cD] [] rfl, ma.rg 0 [.bool aN, .string aS, .string aD] [] rfl, mb.rg 0 [.bool bN, .string bS, .string bD] [] rfl⟩ (fun hS => ?_)
 clear hK K
 refine WA.tp 6 rfl ?_
 refine WA.tp 7 rfl ?_
 clear hS
 refine WA.cal 8 rfl (fun K hK => ?_)
 simp only [List.getElem_toArray, List.getElem_cons_succ, List.getElem_cons_zero]
 go_simp
 go_fit (HL.out _ bb)
 rintro e wm8 ⟨rfl, b1⟩
 replace ma := ma.below b1
 replace mb := mb.below b1
 replace mc := mc.below b1
 replace mx := mx.below b1
 replace my := my.below b1
 replace mz := mz.below b1
 replace bb := Below.after bb b1
 clear b1
 try go_wp2_with fail
 refine hK.out _ _ ⟨mc.rg 0 [.bool cN, .string cS, .string cD] [] rfl, ma.rg 0 [.bool aN, .string aS, .string aD] [] rfl, mb.rg 0 [.bool bN, .string bS, .string bD] [] rfl⟩ (fun hS => ?_)
 clear hK K
 refine WA.tp 9 rfl ?_
 refine WA.tp 10 rfl ?_
 refine WA.done (by kernel_rfl) ?_
 clear hS
 clear ma mb mc mx my mz
 go_wp2
 go_ret
 exact ⟨rfl, bb⟩
theorem fn_lin (r q s : Nat → Rat) (k : Rat) (j : Nat) : Fn (fun i => r i + q i * k) s j = Fn r s j + Fn q s j * k := by
 unfold Fn ev
 grind
theorem lsum_lin (r q s : Nat → Rat) (W : Nat → Int) : lsum W (Fn (fun i => r i + q i * ((2 : Int) : Rat)) s) = lsum W (Fn r s) + (lsum W (Fn q s) + lsum W (Fn q s)) := by
 unfold lsum
 simp only [fn_lin]
 have e : (((2 : Int) : Rat)) = 2 := rfl
 rw [e]
 grind
theorem part_lin (a c l m : Rat) : a * (l + (m + m)) * c = a * l * c + (a * m * c + a * m * c) := by grind
theorem rq_two : rq ((2 : Int) : Rat) = .agg #[.bool (nfZ 2), .string (sfZ 2), .string ⟨#[1]⟩] := by
 have e : strOf 1 = ⟨#[1]⟩ := by decide +kernel
 simp only [rq, Rat.num_intCast, Rat.den_intCast, e]
theorem add7I (r q : Nat → Rat) (hr : ∀ k, k < 6 → Bq (r k) 30) (hq : ∀ k, k < 6 → Bq (q k) 30) (w : World) : Calls Tryz.prog 22 #[fq6 r, fq6 q, rq ((2 : Int) : Rat)] w (Re w (fq6 (fun i => r i + q i * ((2 : Int) : Rat)))) :=
 add7_walk (fun i => nfZ (r i).num) (fun i => nfZ (q i).num) (fun i => nfZ (q i * ((2 : Int) : Rat)).num) (fun i => nfZ (r i + q i * ((2 : Int) : Rat)).num) (fun i => sfZ (r i).num) (fun i => strOf (r i).den) (fun i => sfZ (q i).num) (fun i => strOf (q i).den) (fun i => sfZ (q i * ((2 : Int) : Rat)).num) (fun i => strOf (q i * ((2 : Int) : Rat)).den) (fun i => sfZ (r i + q i * ((2 : Int) : Rat)).num) (fun i => strOf (r i + q i * ((2 : Int) : Rat)).den) _ _ _ w
  (fun i w1 hi => rtimesI (q i) ((2 : Int) : Rat) (K := 30) (by omega) (hq i hi) (bq_mono (bq_int 2 (by omega) (by omega)) (by omega)) w1)
  (fun i w1 hi => rsumI (r i) (q i * ((2 : Int) : Rat)) (K := 30 + 1) (by omega) (bq_mono (hr i hi) (by omega)) (vqm_mul (hq i hi) (bq_int 2 (by omega) (by omega))) w1)
theorem hw3 : ∀ k, k < 3 → ∀ j, j < 6 → -100 ≤ ldW k j ∧ ldW k j ≤ 100 := by decide
theorem linear7_law (n0 n1 n2 n3 n4 n5 p0 p1 p2 p3 p4 p5 : Bool) (s0 d0 s1 d1 s2 d2 s3 d3 s4 d4 s5 d5 q0 r0 q1 r1 q2 r2 q3 r3 q4 r4 q5 r5 : ByteArray) (g0N g1N g2N g3N g4N g5N : Bool) (g0S g0D g1S g1D g2S g2D g3S g3D g4S g4D g5S g5D : ByteArray) (w : World) (hT : Tab w) (hP : PTab w) (hQ : LTab w) :
  Calls Tryz.prog 5 #[.agg #[.bool n0, .string s0, .string d0, .bool n1, .string s1, .string d1, .bool n2, .string s2, .string d2, .bool n3, .string s3, .string d3, .bool n4, .string s4, .string d4, .bool n5, .string s5, .string d5], .agg #[.bool g0N, .string g0S, .string g0D, .bool g1N, .string g1S, .string g1D, .bool g2N, .string g2S, .string g2D, .bool g3N, .string g3S, .string g3D, .bool g4N, .string g4S, .string g4D, .bool g5N, .string g5S, .string g5D], .agg #[.bool p0, .string q0, .string r0, .bool p1, .string q1, .string r1, .bool p2, .string q2, .string r2, .bool p3, .string q3, .string r3, .bool p4, .string q4, .string r4, .bool p5, .string q5, .string r5]] w (Re w (.bool true)) := by
 have HL : ∀ w1, Below w.heap.size w w1 → Calls Tryz.prog 9 #[] w1 (Re w1 (.bool true)) := fun w1 b => live7_any w1 (hT.below b) (hP.below b)
 have HFE := fun w1 => few7E n0 n1 n2 n3 n4 n5 p0 p1 p2 p3 p4 p5 s0 d0 s1 d1 s2 d2 s3 d3 s4 d4 s5 d5 q0 r0 q1 r1 q2 r2 q3 r3 q4 r4 q5 r5 w1
 have HGE := fun w1 => few7E g0N g1N g2N g3N g4N g5N p0 p1 p2 p3 p4 p5 g0S g0D g1S g1D g2S g2D g3S g3D g4S g4D g5S g5D q0 r0 q1 r1 q2 r2 q3 r3 q4 r4 q5 r5 w1
 cases hb : (allB (fun k => sh7 (six6 s0 s1 s2 s3 s4 s5 k) (six6 d0 d1 d2 d3 d4 d5 k)) 6 && allB (fun k => sh7 (f4 q0 q2 q4 q4 k) (f4 r0 r2 r4 r4 k) && sh7 (f4 q1 q3 q5 q5 k) (f4 r1 r3 r5 r5 k)) 3) with
 | false =>
  rw [hb] at HFE
  exact linear_l1 _ _ _ _ _ _ _ _ _ _ _ _ _ _ _ _ _ _ _ _ _ _ _ _ _ _ _ _ _ _ _ _ _ _ _ _ _ _ _ _ _ _ _ _ _ _ _ _ _ _ _ _ _ _ w (fun w1 _ => HFE w1) HL
 | true =>
  have HF : ∀ w1, Below w.heap.size w w1 → Calls Tryz.prog 8 #[.agg #[.bool n0, .string s0, .string d0, .bool n1, .string s1, .string d1, .bool n2, .string s2, .string d2, .bool n3, .string s3, .string d3, .bool n4, .string s4, .string d4, .bool n5, .string s5, .string d5], .agg #[.bool p0, .string q0, .string r0, .bool p1, .string q1, .string r1, .bool p2, .string q2, .string r2, .bool p3, .string q3, .string r3, .bool p4, .string q4, .string r4, .bool p5, .string q5, .string r5]] w1 (Re w1 (.bool true)) := fun w1 b => by
   have := HFE w1
   rw [hb] at this
   exact this
  clear HFE
  cases hg : (allB (fun k => sh7 (six6 g0S g1S g2S g3S g4S g5S k) (six6 g0D g1D g2D g3D g4D g5D k)) 6 && allB (fun k => sh7 (f4 q0 q2 q4 q4 k) (f4 r0 r2 r4 r4 k) && sh7 (f4 q1 q3 q5 q5 k) (f4 r1 r3 r5 r5 k)) 3) with
  | false =>
   rw [hg] at HGE
   exact linear_l2 _ _ _ _ _ _ _ _ _ _ _ _ _ _ _ _ _ _ _ _ _ _ _ _ _ _ _ _ _ _ _ _ _ _ _ _ _ _ _ _ _ _ _ _ _ _ _ _ _ _ _ _ _ _ w HF (fun w1 _ => HGE w1) HL
  | true =>
   have HG : ∀ w1, Below w.heap.size w w1 → Calls Tryz.prog 8 #[.agg #[.bool g0N, .string g0S, .string g0D, .bool g1N, .string g1S, .string g1D, .bool g2N, .string g2S, .string g2D, .bool g3N, .string g3S, .string g3D, .bool g4N, .string g4S, .string g4D, .bool g5N, .string g5S, .string g5D], .agg #[.bool p0, .string q0, .string r0, .bool p1, .string q1, .string r1, .bool p2, .string q2, .string r2, .bool p3, .string q3, .string r3, .bool p4, .string q4, .string r4, .bool p5, .string q5, .string r5]] w1 (Re w1 (.bool true)) := fun w1 b => by
    have := HGE w1
    rw [hg] at this
    exact this
   clear HGE
   rcases tri7 n0 n1 n2 n3 n4 n5 p0 p1 p2 p3 p4 p5 s0 d0 s1 d1 s2 d2 s3 d3 s4 d4 s5 d5 q0 r0 q1 r1 q2 r2 q3 r3 q4 r4 q5 r5 hb with ⟨E, hE, H3⟩ | ⟨y0, y1, y2, y3, y4, y5, x0, z0, x1, z1, x2, z2, hf, ht, hr, ⟨b0, c0, b1, c1, b2, c2⟩, hA, H3⟩
   ·exact linear_n _ _ _ _ _ _ _ _ _ _ _ _ _ _ _ _ _ _ _ _ _ _ _ _ _ _ _ _ _ _ _ _ _ _ _ _ _ _ _ _ _ _ _ _ _ _ _ _ _ _ _ _ _ _ E hE w HF HG (fun w1 _ => H3 w1) HL
   ·rw [Bool.and_eq_true] at hg
    have zg : ∀ k, k < 6 → (six6 g0S g1S g2S g3S g4S g5S k).size ≤ 30 ∧ (six6 g0D g1D g2D g3D g4D g5D k).size ≤ 30 := fun k hk => sh7_sz (allB_all hg.1 k hk)
    have HC : ∀ w1, Calls Tryz.prog 11 #[.agg #[.bool g0N, .string g0S, .string g0D, .bool g1N, .string g1S, .string g1D, .bool g2N, .string g2S, .string g2D, .bool g3N, .string g3S, .string g3D, .bool g4N, .string g4S, .string g4D, .bool g5N, .string g5S, .string g5D]] w1 (Re w1 (.int .i64 (firstE (fun k => chkq (six6 g0N g1N g2N g3N g4N g5N k) (six6 g0S g1S g2S g3S g4S g5S k) (six6 g0D g1D g2D g3D g4D g5D k)) 6 : Nat))) := fun w1 =>
     rcheck7 (six6 g0N g1N g2N g3N g4N g5N) (six6 g0S g1S g2S g3S g4S g5S) (six6 g0D g1D g2D g3D g4D g5D) w1 (fun k hk => ⟨by have := (zg k hk).1; omega, by have := (zg k hk).2; omega⟩)
    rw [hf, ht] at HF
    rw [ht] at HG
    simp only [Value.agg.injEq, Array.mk.injEq, List.cons.injEq, Value.bool.injEq, Value.string.injEq, and_true] at hf ht
    obtain ⟨rfl, rfl, rfl, rfl, rfl, rfl, rfl, rfl, rfl, rfl, rfl, rfl, rfl, rfl, rfl, rfl, rfl, rfl⟩ := hf
    obtain ⟨rfl, rfl, rfl, rfl, rfl, rfl, rfl, rfl, rfl, rfl, rfl, rfl, rfl, rfl, rfl, rfl, rfl, rfl⟩ := ht
    clear hb
    by_cases h1 : firstE (fun k => chkq (six6 g0N g1N g2N g3N g4N g5N k) (six6 g0S g1S g2S g3S g4S g5S k) (six6 g0D g1D g2D g3D g4D g5D k)) 6 = 0
    ·rw [h1] at HC
     have a := firstE_zero h1
     obtain ⟨t0, e0, rfl, rfl, rfl⟩ := canon (a 0 (by omega)) (zg 0 (by omega))
     obtain ⟨t1, e1, rfl, rfl, rfl⟩ := canon (a 1 (by omega)) (zg 1 (by omega))
     obtain ⟨t2, e2, rfl, rfl, rfl⟩ := canon (a 2 (by omega)) (zg 2 (by omega))
     obtain ⟨t3, e3, rfl, rfl, rfl⟩ := canon (a 3 (by omega)) (zg 3 (by omega))
     obtain ⟨t4, e4, rfl, rfl, rfl⟩ := canon (a 4 (by omega)) (zg 4 (by omega))
     obtain ⟨t5, e5, rfl, rfl, rfl⟩ := canon (a 5 (by omega)) (zg 5 (by omega))
     clear a zg hg h1
     have hq : ∀ k, k < 6 → Bq ((six t0 t1 t2 t3 t4 t5) k) 30 := fun k hk => by
      match k, hk with
      | 0, _ => exact e0
      | 1, _ => exact e1
      | 2, _ => exact e2
      | 3, _ => exact e3
      | 4, _ => exact e4
      | 5, _ => exact e5
     have hz : ∀ k, k < 6 → Bq ((fun i => (six y0 y1 y2 y3 y4 y5) i + (six t0 t1 t2 t3 t4 t5) i * ((2 : Int) : Rat)) k) 62 := fun k hk => bq_mono (vqm_add (hr k hk) (vqm_mul (hq k hk) (bq_int 2 (by omega) (by omega)))) (by omega)
     have hs := six_bq x0 z0 x1 z1 x2 z2 b0 c0 b1 c1 b2 c2
     have ba := rabs_bq (area_bqK x0 z0 x1 z1 x2 z2 b0 c0 b1 c1 b2 c2)
     have wI : ∀ j, j < 6 → -100 ≤ inW j ∧ inW j ≤ 100 := by decide
     have bl : ∀ (g : Nat → Rat) k, (∀ k, k < 6 → Bq (g k) 30) → k < 3 → Bq (rabs ((x1 - x0) * (z2 - z0) - (z1 - z0) * (x2 - x0)) * lsum (ldW k) (Fn g (six x0 x1 x2 z0 z1 z2)) * Rat.divInt 1 (120 : Nat)) 950 := fun g k hg hk => bq_mono (vqm_mul (vqm_mul ba (lsum_bq hg hs (hw3 k hk))) (bq_unit 120 (by omega) (by omega))) (by omega)
     have bi : ∀ (g : Nat → Rat), (∀ k, k < 6 → Bq (g k) 30) → Bq (rabs ((x1 - x0) * (z2 - z0) - (z1 - z0) * (x2 - x0)) * lsum inW (Fn g (six x0 x1 x2 z0 z1 z2)) * Rat.divInt 1 (120 : Nat)) 950 := fun g hg => bq_mono (vqm_mul (vqm_mul ba (lsum_bq hg hs wI)) (bq_unit 120 (by omega) (by omega))) (by omega)
     have m0 := bq_mono b0 (show 30 ≤ 62 by omega)
     have m1 := bq_mono c0 (show 30 ≤ 62 by omega)
     have m2 := bq_mono b1 (show 30 ≤ 62 by omega)
     have m3 := bq_mono c1 (show 30 ≤ 62 by omega)
     have m4 := bq_mono b2 (show 30 ≤ 62 by omega)
     have m5 := bq_mono c2 (show 30 ≤ 62 by omega)
     have I1 := fun (w1 : World) (b : Below w.heap.size w w1) => intI (six y0 y1 y2 y3 y4 y5) x0 z0 x1 z1 x2 z2 (K := 30) (by omega) hr b0 c0 b1 c1 b2 c2 w1 (hT.below b) (hP.below b) hA (x := (rabs ((x1 - x0) * (z2 - z0) - (z1 - z0) * (x2 - x0)) * lsum inW (Fn (six y0 y1 y2 y3 y4 y5) (six x0 x1 x2 z0 z1 z2)) * Rat.divInt 1 (120 : Nat))) rfl
     have I2 := fun (w1 : World) (b : Below w.heap.size w w1) => intI (six t0 t1 t2 t3 t4 t5) x0 z0 x1 z1 x2 z2 (K := 30) (by omega) hq b0 c0 b1 c1 b2 c2 w1 (hT.below b) (hP.below b) hA (x := (rabs ((x1 - x0) * (z2 - z0) - (z1 - z0) * (x2 - x0)) * lsum inW (Fn (six t0 t1 t2 t3 t4 t5) (six x0 x1 x2 z0 z1 z2)) * Rat.divInt 1 (120 : Nat))) rfl
     have I3 := fun (w1 : World) (b : Below w.heap.size w w1) => intI (fun i => (six y0 y1 y2 y3 y4 y5) i + (six t0 t1 t2 t3 t4 t5) i * ((2 : Int) : Rat)) x0 z0 x1 z1 x2 z2 (K := 62) (by omega) hz m0 m1 m2 m3 m4 m5 w1 (hT.below b) (hP.below b) hA (x := (rabs ((x1 - x0) * (z2 - z0) - (z1 - z0) * (x2 - x0)) * lsum inW (Fn (six y0 y1 y2 y3 y4 y5) (six x0 x1 x2 z0 z1 z2)) * Rat.divInt 1 (120 : Nat)) + ((rabs ((x1 - x0) * (z2 - z0) - (z1 - z0) * (x2 - x0)) * lsum inW (Fn (six t0 t1 t2 t3 t4 t5) (six x0 x1 x2 z0 z1 z2)) * Rat.divInt 1 (120 : Nat)) + (rabs ((x1 - x0) * (z2 - z0) - (z1 - z0) * (x2 - x0)) * lsum inW (Fn (six t0 t1 t2 t3 t4 t5) (six x0 x1 x2 z0 z1 z2)) * Rat.divInt 1 (120 : Nat)))) (by rw [lsum_lin, part_lin])
     have L1 := fun (w1 : World) (b : Below w.heap.size w w1) => lodI (six y0 y1 y2 y3 y4 y5) x0 z0 x1 z1 x2 z2 (K := 30) (by omega) hr b0 c0 b1 c1 b2 c2 w1 (hT.below b) (hP.below b) (hQ.below b) hA
     have L2 := fun (w1 : World) (b : Below w.heap.size w w1) => lodI (six t0 t1 t2 t3 t4 t5) x0 z0 x1 z1 x2 z2 (K := 30) (by omega) hq b0 c0 b1 c1 b2 c2 w1 (hT.below b) (hP.below b) (hQ.below b) hA
     have L3 := fun (w1 : World) (b : Below w.heap.size w w1) => lodI (fun i => (six y0 y1 y2 y3 y4 y5) i + (six t0 t1 t2 t3 t4 t5) i * ((2 : Int) : Rat)) x0 z0 x1 z1 x2 z2 (K := 62) (by omega) hz m0 m1 m2 m3 m4 m5 w1 (hT.below b) (hP.below b) (hQ.below b) hA
     rw [lsum_lin, lsum_lin, lsum_lin, part_lin, part_lin, part_lin] at L3
     exact linear_ok _ _ _ _ _ _ _ _ _ _ _ _ _ _ _ _ _ _ _ _ _ _ _ _ _ _ _ _ _ _ _ _ _ _ _ _ _ _ _ _ _ _ _ _ _ _ _ _ _ _ _ _ _ _ _ _ _ _ _ _ _ _ _ _ _ _ _ _ _ _ _ _ _ _ _ _ _ _ _ _ _ _ _ _ _ _ _ _ _ _ _ _ _ _ _ _ _ _ _ _ _ _ _ _ _ _ _ _ _ _ _ _ _ _ _ _ _ _ _ _ _ _ _ w HF HG (fun w1 _ => H3 w1) (fun w1 _ => HC w1) HL (fun w1 => by have := roq_any 2 (by omega) (by omega) w1; rw [← rq_two] at this; exact this) (fun w1 => add7I (six y0 y1 y2 y3 y4 y5) (six t0 t1 t2 t3 t4 t5) hr hq w1) I1 I2 I3 L1 L2 L3
      (fun w1 => rsumI (rabs ((x1 - x0) * (z2 - z0) - (z1 - z0) * (x2 - x0)) * lsum (ldW 0) (Fn (six t0 t1 t2 t3 t4 t5) (six x0 x1 x2 z0 z1 z2)) * Rat.divInt 1 (120 : Nat)) (rabs ((x1 - x0) * (z2 - z0) - (z1 - z0) * (x2 - x0)) * lsum (ldW 0) (Fn (six t0 t1 t2 t3 t4 t5) (six x0 x1 x2 z0 z1 z2)) * Rat.divInt 1 (120 : Nat)) (K := 950) (by omega) (bl _ 0 hq (by omega)) (bl _ 0 hq (by omega)) w1) (fun w1 => rsumI (rabs ((x1 - x0) * (z2 - z0) - (z1 - z0) * (x2 - x0)) * lsum (ldW 0) (Fn (six y0 y1 y2 y3 y4 y5) (six x0 x1 x2 z0 z1 z2)) * Rat.divInt 1 (120 : Nat)) ((rabs ((x1 - x0) * (z2 - z0) - (z1 - z0) * (x2 - x0)) * lsum (ldW 0) (Fn (six t0 t1 t2 t3 t4 t5) (six x0 x1 x2 z0 z1 z2)) * Rat.divInt 1 (120 : Nat)) + (rabs ((x1 - x0) * (z2 - z0) - (z1 - z0) * (x2 - x0)) * lsum (ldW 0) (Fn (six t0 t1 t2 t3 t4 t5) (six x0 x1 x2 z0 z1 z2)) * Rat.divInt 1 (120 : Nat))) (K := 950 + 950 + 1) (by omega) (bq_mono (bl _ 0 hr (by omega)) (by omega)) (vqm_add (bl _ 0 hq (by omega)) (bl _ 0 hq (by omega))) w1)
      (fun w1 => rsumI (rabs ((x1 - x0) * (z2 - z0) - (z1 - z0) * (x2 - x0)) * lsum (ldW 1) (Fn (six t0 t1 t2 t3 t4 t5) (six x0 x1 x2 z0 z1 z2)) * Rat.divInt 1 (120 : Nat)) (rabs ((x1 - x0) * (z2 - z0) - (z1 - z0) * (x2 - x0)) * lsum (ldW 1) (Fn (six t0 t1 t2 t3 t4 t5) (six x0 x1 x2 z0 z1 z2)) * Rat.divInt 1 (120 : Nat)) (K := 950) (by omega) (bl _ 1 hq (by omega)) (bl _ 1 hq (by omega)) w1) (fun w1 => rsumI (rabs ((x1 - x0) * (z2 - z0) - (z1 - z0) * (x2 - x0)) * lsum (ldW 1) (Fn (six y0 y1 y2 y3 y4 y5) (six x0 x1 x2 z0 z1 z2)) * Rat.divInt 1 (120 : Nat)) ((rabs ((x1 - x0) * (z2 - z0) - (z1 - z0) * (x2 - x0)) * lsum (ldW 1) (Fn (six t0 t1 t2 t3 t4 t5) (six x0 x1 x2 z0 z1 z2)) * Rat.divInt 1 (120 : Nat)) + (rabs ((x1 - x0) * (z2 - z0) - (z1 - z0) * (x2 - x0)) * lsum (ldW 1) (Fn (six t0 t1 t2 t3 t4 t5) (six x0 x1 x2 z0 z1 z2)) * Rat.divInt 1 (120 : Nat))) (K := 950 + 950 + 1) (by omega) (bq_mono (bl _ 1 hr (by omega)) (by omega)) (vqm_add (bl _ 1 hq (by omega)) (bl _ 1 hq (by omega))) w1)
      (fun w1 => rsumI (rabs ((x1 - x0) * (z2 - z0) - (z1 - z0) * (x2 - x0)) * lsum (ldW 2) (Fn (six t0 t1 t2 t3 t4 t5) (six x0 x1 x2 z0 z1 z2)) * Rat.divInt 1 (120 : Nat)) (rabs ((x1 - x0) * (z2 - z0) - (z1 - z0) * (x2 - x0)) * lsum (ldW 2) (Fn (six t0 t1 t2 t3 t4 t5) (six x0 x1 x2 z0 z1 z2)) * Rat.divInt 1 (120 : Nat)) (K := 950) (by omega) (bl _ 2 hq (by omega)) (bl _ 2 hq (by omega)) w1) (fun w1 => rsumI (rabs ((x1 - x0) * (z2 - z0) - (z1 - z0) * (x2 - x0)) * lsum (ldW 2) (Fn (six y0 y1 y2 y3 y4 y5) (six x0 x1 x2 z0 z1 z2)) * Rat.divInt 1 (120 : Nat)) ((rabs ((x1 - x0) * (z2 - z0) - (z1 - z0) * (x2 - x0)) * lsum (ldW 2) (Fn (six t0 t1 t2 t3 t4 t5) (six x0 x1 x2 z0 z1 z2)) * Rat.divInt 1 (120 : Nat)) + (rabs ((x1 - x0) * (z2 - z0) - (z1 - z0) * (x2 - x0)) * lsum (ldW 2) (Fn (six t0 t1 t2 t3 t4 t5) (six x0 x1 x2 z0 z1 z2)) * Rat.divInt 1 (120 : Nat))) (K := 950 + 950 + 1) (by omega) (bq_mono (bl _ 2 hr (by omega)) (by omega)) (vqm_add (bl _ 2 hq (by omega)) (bl _ 2 hq (by omega))) w1)
      (fun w1 => rsumI (rabs ((x1 - x0) * (z2 - z0) - (z1 - z0) * (x2 - x0)) * lsum inW (Fn (six t0 t1 t2 t3 t4 t5) (six x0 x1 x2 z0 z1 z2)) * Rat.divInt 1 (120 : Nat)) (rabs ((x1 - x0) * (z2 - z0) - (z1 - z0) * (x2 - x0)) * lsum inW (Fn (six t0 t1 t2 t3 t4 t5) (six x0 x1 x2 z0 z1 z2)) * Rat.divInt 1 (120 : Nat)) (K := 950) (by omega) (bi _ hq) (bi _ hq) w1) (fun w1 => rsumI (rabs ((x1 - x0) * (z2 - z0) - (z1 - z0) * (x2 - x0)) * lsum inW (Fn (six y0 y1 y2 y3 y4 y5) (six x0 x1 x2 z0 z1 z2)) * Rat.divInt 1 (120 : Nat)) ((rabs ((x1 - x0) * (z2 - z0) - (z1 - z0) * (x2 - x0)) * lsum inW (Fn (six t0 t1 t2 t3 t4 t5) (six x0 x1 x2 z0 z1 z2)) * Rat.divInt 1 (120 : Nat)) + (rabs ((x1 - x0) * (z2 - z0) - (z1 - z0) * (x2 - x0)) * lsum inW (Fn (six t0 t1 t2 t3 t4 t5) (six x0 x1 x2 z0 z1 z2)) * Rat.divInt 1 (120 : Nat))) (K := 950 + 950 + 1) (by omega) (bq_mono (bi _ hr) (by omega)) (vqm_add (bi _ hq) (bi _ hq)) w1)
    ·exact linear_c _ _ _ _ _ _ _ _ _ _ _ _ _ _ _ _ _ _ _ _ _ _ _ _ _ _ _ _ _ _ _ _ _ _ _ _ _ _ _ _ _ _ _ _ _ _ _ _ _ _ _ _ _ _ _ (fun e => h1 (by omega)) w HF HG (fun w1 _ => H3 w1) (fun w1 _ => HC w1) HL
theorem linear7_row (n0 n1 n2 n3 n4 n5 g0N g1N g2N g3N g4N g5N p0 p1 p2 p3 p4 p5 : Bool) (s0 d0 s1 d1 s2 d2 s3 d3 s4 d4 s5 d5 g0S g0D g1S g1D g2S g2D g3S g3D g4S g4D g5S g5D q0 r0 q1 r1 q2 r2 q3 r3 q4 r4 q5 r5 : ByteArray) (w : World) (hT : Tab w) (hP : PTab w) (hQ : LTab w) :
  Calls Tryz.prog 5 #[.agg #[.bool n0, .string s0, .string d0, .bool n1, .string s1, .string d1, .bool n2, .string s2, .string d2, .bool n3, .string s3, .string d3, .bool n4, .string s4, .string d4, .bool n5, .string s5, .string d5], .agg #[.bool g0N, .string g0S, .string g0D, .bool g1N, .string g1S, .string g1D, .bool g2N, .string g2S, .string g2D, .bool g3N, .string g3S, .string g3D, .bool g4N, .string g4S, .string g4D, .bool g5N, .string g5S, .string g5D], .agg #[.bool p0, .string q0, .string r0, .bool p1, .string q1, .string r1, .bool p2, .string q2, .string r2, .bool p3, .string q3, .string r3, .bool p4, .string q4, .string r4, .bool p5, .string q5, .string r5]] w (Re w (.bool true)) :=
 linear7_law n0 n1 n2 n3 n4 n5 p0 p1 p2 p3 p4 p5 s0 d0 s1 d1 s2 d2 s3 d3 s4 d4 s5 d5 q0 r0 q1 r1 q2 r2 q3 r3 q4 r4 q5 r5 g0N g1N g2N g3N g4N g5N g0S g0D g1S g1D g2S g2D g3S g3D g4S g4D g5S g5D w hT hP hQ
end Go.Proofs.YtbafjmjcepcckaaGreatDoor
