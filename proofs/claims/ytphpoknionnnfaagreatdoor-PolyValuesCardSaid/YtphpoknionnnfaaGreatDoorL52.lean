/-
  gussetlaw07: small.
-/
import Derived.Test.YtphpoknionnnfaaGreatDoorL35
import Derived.Test.YtphpoknionnnfaaGreatDoorL36
namespace Go.Proofs.YtphpoknionnnfaaGreatDoor
open Go.RowKit
theorem load_f18 {w : World} {g : Nat} {cs : List Value} (h : Cel w g cs 28) (hl : cs.length = 18) : (loadVar 28 ⟨g, 0, none⟩).run Tryz.prog w = .ok (.agg cs.toArray) w :=
 run_loadVar_row w g 28 28 cs.toArray (0, 0) _ h Tryz.underlying28 rfl (by rw [List.size_toArray, hl]; kernel_rfl)
theorem post_f18 {fn : Func} {p : Tmp} {R : Ending → World → Prop} {a : Act} {w : World} {g : Nat} {cs : List Value} (h : fn.results = #[.cell p 28]) (hp : a.tmps.getD p undef = .pointer (some ⟨g, 0, none⟩)) (hd : a.defers = [])
  (hc : Cel w g cs 28) (hl : cs.length = 18) (hR : R (.returned (.agg cs.toArray)) w) : bodyPost Tryz.prog fn R .ret a w := by
 refine ⟨hd, .agg cs.toArray, ?_, hR⟩
 have hp' : a.tmps[p]?.getD undef = .pointer (some ⟨g, 0, none⟩) := by simpa using hp
 simp only [results, h]
 simp [hp', asAddr, load_f18 hc hl]
set_option maxRecDepth 100000 in
set_option maxHeartbeats 16000000 in
theorem small7_walk (l : Nat → Int) (w : World)
  (HO : Hid (∀ k w1, k < 6 → Calls Tryz.prog 23 #[.int .i64 (l k)] w1 (Re w1 (.agg #[.bool (nfZ (l k)), .string (sfZ (l k)), .string ⟨#[1]⟩])))) :
  Calls Tryz.prog 30 #[.agg #[.int .i64 (l 0), .int .i64 (l 1), .int .i64 (l 2), .int .i64 (l 3), .int .i64 (l 4), .int .i64 (l 5)]] w (Re w (.agg #[.bool (nfZ (l 0)), .string (sfZ (l 0)), .string ⟨#[1]⟩, .bool (nfZ (l 1)), .string (sfZ (l 1)), .string ⟨#[1]⟩, .bool (nfZ (l 2)), .string (sfZ (l 2)), .string ⟨#[1]⟩, .bool (nfZ (l 3)), .string (sfZ (l 3)), .string ⟨#[1]⟩, .bool (nfZ (l 4)), .string (sfZ (l 4)), .string ⟨#[1]⟩, .bool (nfZ (l 5)), .string (sfZ (l 5)), .string ⟨#[1]⟩])) := by
 go_enter Tryz.func30, Tryz.ntmps30
 go_upto_region 2 with fail
 obtain ⟨w0, hq, kl, kr, ko, bb⟩ := mk3 w [.int .i64 (l 0), .int .i64 (l 1), .int .i64 (l 2), .int .i64 (l 3), .int .i64 (l 4), .int .i64 (l 5)] [.bool false, .string { data := #[] }, .string { data := #[] }, .bool false, .string { data := #[] }, .string { data := #[] }, .bool false, .string { data := #[] }, .string { data := #[] }, .bool false, .string { data := #[] }, .string { data := #[] }, .bool false, .string { data := #[] }, .string { data := #[] }, .bool false, .string { data := #[] }, .string { data := #[] }] [.bool false, .string { data := #[] }, .string { data := #[] }, .bool false, .string { data := #[] }, .string { data := #[] }, .bool false, .string { data := #[] }, .string { data := #[] }, .bool false, .string { data := #[] }, .string { data := #[] }, .bool false, .string { data := #[] }, .string { data := #[] }, .bool false, .string { data := #[] }, .string { data := #[] }] 62 28 28
 rw [← hq]
 clear hq
 go_wp2_with fail
 refine wp_loop_rounds 7 ?_
 rw [rounds_succ]
 obtain ⟨c0, c1, c2, c3, c4, c5⟩ := xk6 kl
 go_wp2_with fail
 clear c0 c1 c2 c3 c4 c5
 go_fit (HO.out 0 _ (by omega))
 rintro e w1 ⟨rfl, b1⟩
 replace kl := kl.below b1
 replace kr := kr.below b1
 replace ko := ko.below b1
 replace bb := Below.after bb b1
 clear b1
 have e0 := ko.cell 0
 have f0 := Cel.frozen ko 0
 have e1 := ko.cell 1
 have f1 := Cel.frozen ko 1
 have e2 := ko.cell 2
 have f2 := Cel.frozen ko 2
 simp only [List.getElem?_cons_zero, List.getElem?_cons_succ] at e0 e1 e2
 go_wp2_with fail
 clear e0 e1 e2 f0 f1 f2
 obtain ⟨x1, hw⟩ : ∃ x, x = ((w1.setCell ⟨w.heap.size + 1 + 1, 0, none⟩ (.bool (nfZ (l 0)))).setCell ⟨w.heap.size + 1 + 1, 1, none⟩ (.string (sfZ (l 0)))).setCell ⟨w.heap.size + 1 + 1, 2, none⟩ (.string ⟨#[1]⟩) := ⟨_, rfl⟩
 rw [← hw]
 replace kl := ((kl.other (show _ ≠ w.heap.size + 1 + 1 by omega) 0 (.bool (nfZ (l 0)))).other (show _ ≠ w.heap.size + 1 + 1 by omega) 1 (.string (sfZ (l 0)))).other (show _ ≠ w.heap.size + 1 + 1 by omega) 2 (.string ⟨#[1]⟩)
 replace kr := ((kr.other (show _ ≠ w.heap.size + 1 + 1 by omega) 0 (.bool (nfZ (l 0)))).other (show _ ≠ w.heap.size + 1 + 1 by omega) 1 (.string (sfZ (l 0)))).other (show _ ≠ w.heap.size + 1 + 1 by omega) 2 (.string ⟨#[1]⟩)
 replace ko : Cel _ (w.heap.size + 1 + 1) [.bool (nfZ (l 0)), .string (sfZ (l 0)), .string ⟨#[1]⟩, .bool false, .string { data := #[] }, .string { data := #[] }, .bool false, .string { data := #[] }, .string { data := #[] }, .bool false, .string { data := #[] }, .string { data := #[] }, .bool false, .string { data := #[] }, .string { data := #[] }, .bool false, .string { data := #[] }, .string { data := #[] }] 28 := ((ko.set 0 (.bool (nfZ (l 0)))).set 1 (.string (sfZ (l 0)))).set 2 (.string ⟨#[1]⟩)
 replace bb := bset (bset (bset bb (show w.heap.size ≤ w.heap.size + 1 + 1 by omega) 0 (.bool (nfZ (l 0)))) (show w.heap.size ≤ w.heap.size + 1 + 1 by omega) 1 (.string (sfZ (l 0)))) (show w.heap.size ≤ w.heap.size + 1 + 1 by omega) 2 (.string ⟨#[1]⟩)
 rw [← hw] at kl kr ko bb
 clear hw
 rw [rounds_succ]
 obtain ⟨c0, c1, c2, c3, c4, c5⟩ := xk6 kl
 go_wp2_with fail
 clear c0 c1 c2 c3 c4 c5
 go_fit (HO.out 1 _ (by omega))
 rintro e w2 ⟨rfl, b1⟩
 replace kl := kl.below b1
 replace kr := kr.below b1
 replace ko := ko.below b1
 replace bb := Below.after bb b1
 clear b1
 have e0 := ko.cell 3
 have f0 := Cel.frozen ko 3
 have e1 := ko.cell 4
 have f1 := Cel.frozen ko 4
 have e2 := ko.cell 5
 have f2 := Cel.frozen ko 5
 simp only [List.getElem?_cons_zero, List.getElem?_cons_succ] at e0 e1 e2
 go_wp2_with fail
 clear e0 e1 e2 f0 f1 f2
 obtain ⟨x2, hw⟩ : ∃ x, x = ((w2.setCell ⟨w.heap.size + 1 + 1, 3, none⟩ (.bool (nfZ (l 1)))).setCell ⟨w.heap.size + 1 + 1, 4, none⟩ (.string (sfZ (l 1)))).setCell ⟨w.heap.size + 1 + 1, 5, none⟩ (.string ⟨#[1]⟩) := ⟨_, rfl⟩
 rw [← hw]
 replace kl := ((kl.other (show _ ≠ w.heap.size + 1 + 1 by omega) 3 (.bool (nfZ (l 1)))).other (show _ ≠ w.heap.size + 1 + 1 by omega) 4 (.string (sfZ (l 1)))).other (show _ ≠ w.heap.size + 1 + 1 by omega) 5 (.string ⟨#[1]⟩)
 replace kr := ((kr.other (show _ ≠ w.heap.size + 1 + 1 by omega) 3 (.bool (nfZ (l 1)))).other (show _ ≠ w.heap.size + 1 + 1 by omega) 4 (.string (sfZ (l 1)))).other (show _ ≠ w.heap.size + 1 + 1 by omega) 5 (.string ⟨#[1]⟩)
 replace ko : Cel _ (w.heap.size + 1 + 1) [.bool (nfZ (l 0)), .string (sfZ (l 0)), .string ⟨#[1]⟩, .bool (nfZ (l 1)), .string (sfZ (l 1)), .string ⟨#[1]⟩, .bool false, .string { data := #[] }, .string { data := #[] }, .bool false, .string { data := #[] }, .string { data := #[] }, .bool false, .string { data := #[] }, .string { data := #[] }, .bool false, .string { data := #[] }, .string { data := #[] }] 28 := ((ko.set 3 (.bool (nfZ (l 1)))).set 4 (.string (sfZ (l 1)))).set 5 (.string ⟨#[1]⟩)
 replace bb := bset (bset (bset bb (show w.heap.size ≤ w.heap.size + 1 + 1 by omega) 3 (.bool (nfZ (l 1)))) (show w.heap.size ≤ w.heap.size + 1 + 1 by omega) 4 (.string (sfZ (l 1)))) (show w.heap.size ≤ w.heap.size + 1 + 1 by omega) 5 (.string ⟨#[1]⟩)
 rw [← hw] at kl kr ko bb
 clear hw
 rw [rounds_succ]
 obtain ⟨c0, c1, c2, c3, c4, c5⟩ := xk6 kl
 go_wp2_with fail
 clear c0 c1 c2 c3 c4 c5
 go_fit (HO.out 2 _ (by omega))
 rintro e w3 ⟨rfl, b1⟩
 replace kl := kl.below b1
 replace kr := kr.below b1
 replace ko := ko.below b1
 replace bb := Below.after bb b1
 clear b1
 have e0 := ko.cell 6
 have f0 := Cel.frozen ko 6
 have e1 := ko.cell 7
 have f1 := Cel.frozen ko 7
 have e2 := ko.cell 8
 have f2 := Cel.frozen ko 8
 simp only [List.getElem?_cons_zero, List.getElem?_cons_succ] at e0 e1 e2
 go_wp2_with fail
 clear e0 e1 e2 f0 f1 f2
 obtain ⟨x3, hw⟩ : ∃ x, x = ((w3.setCell ⟨w.heap.size + 1 + 1, 6, none⟩ (.bool (nfZ (l 2)))).setCell ⟨w.heap.size + 1 + 1, 7, none⟩ (.string (sfZ (l 2)))).setCell ⟨w.heap.size + 1 + 1, 8, none⟩ (.string ⟨#[1]⟩) := ⟨_, rfl⟩
 rw [← hw]
 replace kl := ((kl.other (show _ ≠ w.heap.size + 1 + 1 by omega) 6 (.bool (nfZ (l 2)))).other (show _ ≠ w.heap.size + 1 + 1 by omega) 7 (.string (sfZ (l 2)))).other (show _ ≠ w.heap.size + 1 + 1 by omega) 8 (.string ⟨#[1]⟩)
 replace kr := ((kr.other (show _ ≠ w.heap.size + 1 + 1 by omega) 6 (.bool (nfZ (l 2)))).other (show _ ≠ w.heap.size + 1 + 1 by omega) 7 (.string (sfZ (l 2)))).other (show _ ≠ w.heap.size + 1 + 1 by omega) 8 (.string ⟨#[1]⟩)
 replace ko : Cel _ (w.heap.size + 1 + 1) [.bool (nfZ (l 0)), .string (sfZ (l 0)), .string ⟨#[1]⟩, .bool (nfZ (l 1)), .string (sfZ (l 1)), .string ⟨#[1]⟩, .bool (nfZ (l 2)), .string (sfZ (l 2)), .string ⟨#[1]⟩, .bool false, .string { data := #[] }, .string { data := #[] }, .bool false, .string { data := #[] }, .string { data := #[] }, .bool false, .string { data := #[] }, .string { data := #[] }] 28 := ((ko.set 6 (.bool (nfZ (l 2)))).set 7 (.string (sfZ (l 2)))).set 8 (.string ⟨#[1]⟩)
 replace bb := bset (bset (bset bb (show w.heap.size ≤ w.heap.size + 1 + 1 by omega) 6 (.bool (nfZ (l 2)))) (show w.heap.size ≤ w.heap.size + 1 + 1 by omega) 7 (.string (sfZ (l 2)))) (show w.heap.size ≤ w.heap.size + 1 + 1 by omega) 8 (.string ⟨#[1]⟩)
 rw [← hw] at kl kr ko bb
 clear hw
 rw [rounds_succ]
 obtain ⟨c0, c1, c2, c3, c4, c5⟩ := xk6 kl
 go_wp2_with fail
 clear c0 c1 c2 c3 c4 c5
 go_fit (HO.out 3 _ (by omega))
 rintro e w4 ⟨rfl, b1⟩
 replace kl := kl.below b1
 replace kr := kr.below b1
 replace ko := ko.below b1
 replace bb := Below.after bb b1
 clear b1
 have e0 := ko.cell 9
 have f0 := Cel.frozen ko 9
 have e1 := ko.cell 10
 have f1 := Cel.frozen ko 10
 have e2 := ko.cell 11
 have f2 := Cel.frozen ko 11
 simp only [List.getElem?_cons_zero, List.getElem?_cons_succ] at e0 e1 e2
 go_wp2_with fail
 clear e0 e1 e2 f0 f1 f2
 obtain ⟨x4, hw⟩ : ∃ x, x = ((w4.setCell ⟨w.heap.size + 1 + 1, 9, none⟩ (.bool (nfZ (l 3)))).setCell ⟨w.heap.size + 1 + 1, 10, none⟩ (.string (sfZ (l 3)))).setCell ⟨w.heap.size + 1 + 1, 11, none⟩ (.string ⟨#[1]⟩) := ⟨_, rfl⟩
 rw [← hw]
 replace kl := ((kl.other (show _ ≠ w.heap.size + 1 + 1 by omega) 9 (.bool (nfZ (l 3)))).other (show _ ≠ w.heap.size + 1 + 1 by omega) 10 (.string (sfZ (l 3)))).other (show _ ≠ w.heap.size + 1 + 1 by omega) 11 (.string ⟨#[1]⟩)
 replace kr := ((kr.other (show _ ≠ w.heap.size + 1 + 1 by omega) 9 (.bool (nfZ (l 3)))).other (show _ ≠ w.heap.size + 1 + 1 by omega) 10 (.string (sfZ (l 3)))).other (show _ ≠ w.heap.size + 1 + 1 by omega) 11 (.string ⟨#[1]⟩)
 replace ko : Cel _ (w.heap.size + 1 + 1) [.bool (nfZ (l 0)), .string (sfZ (l 0)), .string ⟨#[1]⟩, .bool (nfZ (l 1)), .string (sfZ (l 1)), .string ⟨#[1]⟩, .bool (nfZ (l 2)), .string (sfZ (l 2)), .string ⟨#[1]⟩, .bool (nfZ (l 3)), .string (sfZ (l 3)), .string ⟨#[1]⟩, .bool false, .string { data := #[] }, .string { data := #[] }, .bool false, .string { data := #[] }, .string { data := #[] }] 28 := ((ko.set 9 (.bool (nfZ (l 3)))).set 10 (.string (sfZ (l 3)))).set 11 (.string ⟨#[1]⟩)
 replace bb := bset (bset (bset bb (show w.heap.size ≤ w.heap.size + 1 + 1 by omega) 9 (.bool (nfZ (l 3)))) (show w.heap.size ≤ w.heap.size + 1 + 1 by omega) 10 (.string (sfZ (l 3)))) (show w.heap.size ≤ w.heap.size + 1 + 1 by omega) 11 (.string ⟨#[1]⟩)
 rw [← hw] at kl kr ko bb
 clear hw
 rw [rounds_succ]
 obtain ⟨c0, c1, c2, c3, c4, c5⟩ := xk6 kl
 go_wp2_with fail
 clear c0 c1 c2 c3 c4 c5
 go_fit (HO.out 4 _ (by omega))
 rintro e w5 ⟨rfl, b1⟩
 replace kl := kl.below b1
 replace kr := kr.below b1
 replace ko := ko.below b1
 replace bb := Below.after bb b1
 clear b1
 have e0 := ko.cell 12
 have f0 := Cel.frozen ko 12
 have e1 := ko.cell 13
 have f1 := Cel.frozen ko 13
 have e2 := ko.cell 14
 have f2 := Cel.frozen ko 14
 simp only [List.getElem?_cons_zero, List.getElem?_cons_succ] at e0 e1 e2
 go_wp2_with fail
 clear e0 e1 e2 f0 f1 f2
 obtain ⟨x5, hw⟩ : ∃ x, x = ((w5.setCell ⟨w.heap.size + 1 + 1, 12, none⟩ (.bool (nfZ (l 4)))).setCell ⟨w.heap.size + 1 + 1, 13, none⟩ (.string (sfZ (l 4)))).setCell ⟨w.heap.size + 1 + 1, 14, none⟩ (.string ⟨#[1]⟩) := ⟨_, rfl⟩
 rw [← hw]
 replace kl := ((kl.other (show _ ≠ w.heap.size + 1 + 1 by omega) 12 (.bool (nfZ (l 4)))).other (show _ ≠ w.heap.size + 1 + 1 by omega) 13 (.string (sfZ (l 4)))).other (show _ ≠ w.heap.size + 1 + 1 by omega) 14 (.string ⟨#[1]⟩)
 replace kr := ((kr.other (show _ ≠ w.heap.size + 1 + 1 by omega) 12 (.bool (nfZ (l 4)))).other (show _ ≠ w.heap.size + 1 + 1 by omega) 13 (.string (sfZ (l 4)))).other (show _ ≠ w.heap.size + 1 + 1 by omega) 14 (.string ⟨#[1]⟩)
 replace ko : Cel _ (w.heap.size + 1 + 1) [.bool (nfZ (l 0)), .string (sfZ (l 0)), .string ⟨#[1]⟩, .bool (nfZ (l 1)), .string (sfZ (l 1)), .string ⟨#[1]⟩, .bool (nfZ (l 2)), .string (sfZ (l 2)), .string ⟨#[1]⟩, .bool (nfZ (l 3)), .string (sfZ (l 3)), .string ⟨#[1]⟩, .bool (nfZ (l 4)), .string (sfZ (l 4)), .string ⟨#[1]⟩, .bool false, .string { data := #[] }, .string { data := #[] }] 28 := ((ko.set 12 (.bool (nfZ (l 4)))).set 13 (.string (sfZ (l 4)))).set 14 (.string ⟨#[1]⟩)
 replace bb := bset (bset (bset bb (show w.heap.size ≤ w.heap.size + 1 + 1 by omega) 12 (.bool (nfZ (l 4)))) (show w.heap.size ≤ w.heap.size + 1 + 1 by omega) 13 (.string (sfZ (l 4)))) (show w.heap.size ≤ w.heap.size + 1 + 1 by omega) 14 (.string ⟨#[1]⟩)
 rw [← hw] at kl kr ko bb
 clear hw
 rw [rounds_succ]
 obtain ⟨c0, c1, c2, c3, c4, c5⟩ := xk6 kl
 go_wp2_with fail
 clear c0 c1 c2 c3 c4 c5
 go_fit (HO.out 5 _ (by omega))
 rintro e w6 ⟨rfl, b1⟩
 replace kl := kl.below b1
 replace kr := kr.below b1
 replace ko := ko.below b1
 replace bb := Below.after bb b1
 clear b1
 have e0 := ko.cell 15
 have f0 := Cel.frozen ko 15
 have e1 := ko.cell 16
 have f1 := Cel.frozen ko 16
 have e2 := ko.cell 17
 have f2 := Cel.frozen ko 17
 simp only [List.getElem?_cons_zero, List.getElem?_cons_succ] at e0 e1 e2
 go_wp2_with fail
 clear e0 e1 e2 f0 f1 f2
 obtain ⟨x6, hw⟩ : ∃ x, x = ((w6.setCell ⟨w.heap.size + 1 + 1, 15, none⟩ (.bool (nfZ (l 5)))).setCell ⟨w.heap.size + 1 + 1, 16, none⟩ (.string (sfZ (l 5)))).setCell ⟨w.heap.size + 1 + 1, 17, none⟩ (.string ⟨#[1]⟩) := ⟨_, rfl⟩
 rw [← hw]
 replace kl := ((kl.other (show _ ≠ w.heap.size + 1 + 1 by omega) 15 (.bool (nfZ (l 5)))).other (show _ ≠ w.heap.size + 1 + 1 by omega) 16 (.string (sfZ (l 5)))).other (show _ ≠ w.heap.size + 1 + 1 by omega) 17 (.string ⟨#[1]⟩)
 replace kr := ((kr.other (show _ ≠ w.heap.size + 1 + 1 by omega) 15 (.bool (nfZ (l 5)))).other (show _ ≠ w.heap.size + 1 + 1 by omega) 16 (.string (sfZ (l 5)))).other (show _ ≠ w.heap.size + 1 + 1 by omega) 17 (.string ⟨#[1]⟩)
 replace ko : Cel _ (w.heap.size + 1 + 1) [.bool (nfZ (l 0)), .string (sfZ (l 0)), .string ⟨#[1]⟩, .bool (nfZ (l 1)), .string (sfZ (l 1)), .string ⟨#[1]⟩, .bool (nfZ (l 2)), .string (sfZ (l 2)), .string ⟨#[1]⟩, .bool (nfZ (l 3)), .string (sfZ (l 3)), .string ⟨#[1]⟩, .bool (nfZ (l 4)), .string (sfZ (l 4)), .string ⟨#[1]⟩, .bool (nfZ (l 5)), .string (sfZ (l 5)), .string ⟨#[1]⟩] 28 := ((ko.set 15 (.bool (nfZ (l 5)))).set 16 (.string (sfZ (l 5)))).set 17 (.string ⟨#[1]⟩)
 replace bb := bset (bset (bset bb (show w.heap.size ≤ w.heap.size + 1 + 1 by omega) 15 (.bool (nfZ (l 5)))) (show w.heap.size ≤ w.heap.size + 1 + 1 by omega) 16 (.string (sfZ (l 5)))) (show w.heap.size ≤ w.heap.size + 1 + 1 by omega) 17 (.string ⟨#[1]⟩)
 rw [← hw] at kl kr ko bb
 clear hw
 rw [rounds_succ]
 have e0 := kr.cell 0
 have f0 := Cel.frozen kr 0
 have e1 := kr.cell 1
 have f1 := Cel.frozen kr 1
 have e2 := kr.cell 2
 have f2 := Cel.frozen kr 2
 have e3 := kr.cell 3
 have f3 := Cel.frozen kr 3
 have e4 := kr.cell 4
 have f4 := Cel.frozen kr 4
 have e5 := kr.cell 5
 have f5 := Cel.frozen kr 5
 have e6 := kr.cell 6
 have f6 := Cel.frozen kr 6
 have e7 := kr.cell 7
 have f7 := Cel.frozen kr 7
 have e8 := kr.cell 8
 have f8 := Cel.frozen kr 8
 have e9 := kr.cell 9
 have f9 := Cel.frozen kr 9
 have e10 := kr.cell 10
 have f10 := Cel.frozen kr 10
 have e11 := kr.cell 11
 have f11 := Cel.frozen kr 11
 have e12 := kr.cell 12
 have f12 := Cel.frozen kr 12
 have e13 := kr.cell 13
 have f13 := Cel.frozen kr 13
 have e14 := kr.cell 14
 have f14 := Cel.frozen kr 14
 have e15 := kr.cell 15
 have f15 := Cel.frozen kr 15
 have e16 := kr.cell 16
 have f16 := Cel.frozen kr 16
 have e17 := kr.cell 17
 have f17 := Cel.frozen kr 17
 simp only [List.getElem?_cons_zero, List.getElem?_cons_succ] at e0 e1 e2 e3 e4 e5 e6 e7 e8 e9 e10 e11 e12 e13 e14 e15 e16 e17
 go_wp2_with (refine wpList_load_row rfl 28 _ rfl _ rfl 28 _ (0, 0) _ ko Tryz.underlying28 rfl (by kernel_rfl) ?_)
 try go_wp2
 exact post_f18 (p := 2) (by kernel_rfl) rfl rfl (((((((((((((((((((kr.set 0 _).set 1 _).set 2 _).set 3 _).set 4 _).set 5 _).set 6 _).set 7 _).set 8 _).set 9 _).set 10 _).set 11 _).set 12 _).set 13 _).set 14 _).set 15 _).set 16 _).set 17 _)) rfl ⟨rfl, bset (bset (bset (bset (bset (bset (bset (bset (bset (bset (bset (bset (bset (bset (bset (bset (bset (bset (bb) (by omega) 0 _) (by omega) 1 _) (by omega) 2 _) (by omega) 3 _) (by omega) 4 _) (by omega) 5 _) (by omega) 6 _) (by omega) 7 _) (by omega) 8 _) (by omega) 9 _) (by omega) 10 _) (by omega) 11 _) (by omega) 12 _) (by omega) 13 _) (by omega) 14 _) (by omega) 15 _) (by omega) 16 _) (by omega) 17 _⟩
end Go.Proofs.YtphpoknionnnfaaGreatDoor
