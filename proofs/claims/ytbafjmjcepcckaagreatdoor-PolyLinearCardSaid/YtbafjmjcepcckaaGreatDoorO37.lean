/-
  Package poly: (sample).linear.
  Package poly: Loads, where it refuses; Eval, walked.
  Package poly: (sample).square.
  Package poly: Integral, Square, walked.
  Package poly: Loads, where it answers.
  Rows of numbers that grow.
  Rows of numbers: slices.Grow, slices.Concat.
  Package poly: (sample).part.
  Package poly: sampleOf, where it refuses.
-/
import Derived.Maps.AppendAt
import Derived.Test.YtbafjmjcepcckaaGreatDoorO35
import Derived.Test.YtbafjmjcepcckaaGreatDoorO36
set_option maxRecDepth 100000
set_option maxHeartbeats 16000000
namespace Go.Proofs.YtbafjmjcepcckaaGreatDoor
open Go.RowKit
theorem linear_walk (va ya a2 a3 : Option Addr) (vl vc yl yc l2 c2 l3 c3 : Nat) (f2 f3 : Bool) (wa : Option Addr) (wl wc : Nat) (ZW : Int) (Lw : Nat) (rN : Bool) (rS rD : ByteArray) (w : World)
  (HW : Hid (∀ w1, Below w.heap.size w w1 → Calls Tryz.prog 67 #[.slice va vl vc, .slice wa wl wc] w1 fun e w' => ∃ f a l c, e = .returned (.agg #[.bool f, .slice a l c]) ∧ NV w' f (.slice a l c) ZW Lw ∧ Below w1.heap.size w1 w'))
  (HP : Hid (∀ w1 f a l c, Below w.heap.size w w1 → NV w1 f (.slice a l c) ZW Lw → Calls Tryz.prog 68 #[.agg #[.slice va vl vc, .slice ya yl yc, .bool f2, .slice a2 l2 c2, .bool f3, .slice a3 l3 c3], .agg #[.bool f, .slice a l c], .int .i64 120, .slice ya yl yc] w1 (Re w1 (.agg #[.bool rN, .string rS, .string rD])))) :
  Calls Tryz.prog 42 #[.agg #[.slice va vl vc, .slice ya yl yc, .bool f2, .slice a2 l2 c2, .bool f3, .slice a3 l3 c3], .slice wa wl wc] w (Re w (.agg #[.bool rN, .string rS, .string rD])) := by
 go_enter Tryz.func42, Tryz.ntmps42
 go_wp2_with fail
 obtain ⟨w0, hq, ks, kr, bb⟩ := mk2 w [.slice va vl vc, .slice ya yl yc, .bool f2, .slice a2 l2 c2, .bool f3, .slice a3 l3 c3] [.bool false, .string { data := #[] }, .string { data := #[] }] 81 26
 rw [← hq]
 clear hq
 have bd := bdrew w0
 replace ks := ks.below bd
 replace kr := kr.below bd
 replace bb := Below.after bb bd
 clear bd
 refine wp_region_held_drew (S := fun w' => xc6 w' w.heap.size (.slice va vl vc) (.slice ya yl yc) (.bool f2) (.slice a2 l2 c2) (.bool f3) (.slice a3 l3 c3)) (by kernel_rfl) (xk6 ks) (fun hS => ?_)
 generalize w0.drew = wd at *
 refine WA.start (n := 9) (by kernel_rfl) ?_
 refine WA.tp 0 rfl ?_
 refine WA.tp 1 rfl ?_
 refine WA.tp 2 rfl ?_
 refine WA.tp 3 rfl ?_
 refine WA.tp 5 rfl ?_
 refine WA.tp 6 rfl ?_
 clear hS
 refine WA.cal 4 rfl (fun K hK => ?_)
 simp only [List.getElem_toArray, List.getElem_cons_succ, List.getElem_cons_zero]
 go_simp
 go_fit (HW.out _ bb)
 rintro e w1 ⟨f1, a1, l1, c1, rfl, n1, b1⟩
 replace ks := ks.below b1
 replace kr := kr.below b1
 replace bb := Below.after bb b1
 clear b1
 try go_wp2_with fail
 refine hK.out _ _ (xk6 ks) (fun hS => ?_)
 clear hK K hS
 refine WA.cal 7 rfl (fun K hK => ?_)
 simp only [List.getElem_toArray, List.getElem_cons_succ, List.getElem_cons_zero]
 go_simp
 go_fit (HP.out _ f1 a1 l1 c1 bb n1)
 rintro e w2 ⟨rfl, b1⟩
 clear n1
 replace ks := ks.below b1
 replace kr := kr.below b1
 replace bb := Below.after bb b1
 clear b1
 try go_wp2_with fail
 refine hK.out _ _ (xk6 ks) (fun hS => ?_)
 clear hK K hS
 obtain ⟨e0, e1, e2⟩ := xk3 kr
 have q0 := Cel.frozen kr 0
 have q1 := Cel.frozen kr 1
 have q2 := Cel.frozen kr 2
 refine WA.cal 8 rfl (fun K hK => ?_)
 simp only [List.getElem_toArray, List.getElem_cons_succ, List.getElem_cons_zero]
 go_simp
 try go_wp2_with fail
 clear e0 e1 e2 q0 q1 q2
 have hne : w.heap.size ≠ w.heap.size + 1 := by omega
 refine hK.out _ _ (xk6 (((ks.other hne 0 _).other hne 1 _).other hne 2 _)) (fun hS => ?_)
 clear hK K hS
 refine WA.done (by kernel_rfl) ?_
 go_wp2
 exact post_q (p := 4) (by kernel_rfl) rfl rfl (((kr.set 0 _).set 1 _).set 2 _) ⟨rfl, bset (bset (bset bb (by omega) 0 _) (by omega) 1 _) (by omega) 2 _⟩
theorem load_a9 {w : World} {g : Nat} {cs : List Value} (h : Cel w g cs 43) (hl : cs.length = 9) : (loadVar 43 ⟨g, 0, none⟩).run Tryz.prog w = .ok (.agg cs.toArray) w :=
 run_loadVar_row w g 43 43 cs.toArray (0, 0) _ h Tryz.underlying43 rfl (by rw [List.size_toArray, hl]; kernel_rfl)
theorem post_a9 {fn : Func} {p u : Tmp} {R : Ending → World → Prop} {a : Act} {w : World} {g : Nat} {cs : List Value} {v : Value} (h : fn.results = #[.cell p 43, .tmp u]) (hp : a.tmps.getD p undef = .pointer (some ⟨g, 0, none⟩)) (hu : a.tmps.getD u undef = v) (hd : a.defers = [])
  (hc : Cel w g cs 43) (hl : cs.length = 9) (hR : R (.returned (.tuple #[.agg cs.toArray, v])) w) : bodyPost Tryz.prog fn R .ret a w := by
 refine ⟨hd, .tuple #[.agg cs.toArray, v], ?_, hR⟩
 have hp' : a.tmps[p]?.getD undef = .pointer (some ⟨g, 0, none⟩) := by simpa using hp
 have hu' : a.tmps[u]?.getD undef = v := by simpa using hu
 simp only [results, h]
 simp [hp', hu', asAddr, load_a9 hc hl]
theorem plod_bad (n0 n1 n2 n3 n4 n5 p0 p1 p2 p3 p4 p5 : Bool) (s0 d0 s1 d1 s2 d2 s3 d3 s4 d4 s5 d5 q0 r0 q1 r1 q2 r2 q3 r3 q4 r4 q5 r5 : ByteArray) (E : Int) (w : World) (hE : ¬ E = 0)
  (HS : Hid (∀ w1, Below w.heap.size w w1 → Calls Tryz.prog 41 #[.agg #[.bool n0, .string s0, .string d0, .bool n1, .string s1, .string d1, .bool n2, .string s2, .string d2, .bool n3, .string s3, .string d3, .bool n4, .string s4, .string d4, .bool n5, .string s5, .string d5], .agg #[.bool p0, .string q0, .string r0, .bool p1, .string q1, .string r1], .agg #[.bool p2, .string q2, .string r2, .bool p3, .string q3, .string r3], .agg #[.bool p4, .string q4, .string r4, .bool p5, .string q5, .string r5]] w1 (Re w1 (.tuple #[.agg #[.slice none 0 0, .slice none 0 0, .bool false, .slice none 0 0, .bool false, .slice none 0 0], .int .i64 E])))) :
  Calls Tryz.prog 16 #[.agg #[.bool n0, .string s0, .string d0, .bool n1, .string s1, .string d1, .bool n2, .string s2, .string d2, .bool n3, .string s3, .string d3, .bool n4, .string s4, .string d4, .bool n5, .string s5, .string d5], .agg #[.bool p0, .string q0, .string r0, .bool p1, .string q1, .string r1], .agg #[.bool p2, .string q2, .string r2, .bool p3, .string q3, .string r3], .agg #[.bool p4, .string q4, .string r4, .bool p5, .string q5, .string r5]] w (Re w (.tuple #[.agg #[.bool false, .string { data := #[] }, .string { data := #[] }, .bool false, .string { data := #[] }, .string { data := #[] }, .bool false, .string { data := #[] }, .string { data := #[] }], .int .i64 E])) := by
 go_enter Tryz.func16, Tryz.ntmps16
 go_upto_region 1 with fail
 obtain ⟨w0, hq, kf, ka, kb, kc, kr, bb⟩ := mk5 w [.bool n0, .string s0, .string d0, .bool n1, .string s1, .string d1, .bool n2, .string s2, .string d2, .bool n3, .string s3, .string d3, .bool n4, .string s4, .string d4, .bool n5, .string s5, .string d5] [.bool p0, .string q0, .string r0, .bool p1, .string q1, .string r1] [.bool p2, .string q2, .string r2, .bool p3, .string q3, .string r3] [.bool p4, .string q4, .string r4, .bool p5, .string q5, .string r5] [.bool false, .string { data := #[] }, .string { data := #[] }, .bool false, .string { data := #[] }, .string { data := #[] }, .bool false, .string { data := #[] }, .string { data := #[] }] 28 30 30 30 43
 rw [← hq]
 clear hq
 obtain ⟨x0, x1, x2, x3, x4, x5⟩ := xk6 ka
 obtain ⟨y0, y1, y2, y3, y4, y5⟩ := xk6 kb
 obtain ⟨z0, z1, z2, z3, z4, z5⟩ := xk6 kc
 go_wp2_with (refine wpList_load_row rfl 28 _ rfl _ rfl 28 _ (0, 0) _ kf Tryz.underlying28 rfl (by kernel_rfl) ?_)
 clear x0 x1 x2 x3 x4 x5 y0 y1 y2 y3 y4 y5 z0 z1 z2 z3 z4 z5
 clear kf ka kb kc
 go_fit (HS.out _ bb)
 rintro e w1 ⟨rfl, b1⟩
 replace kr := kr.below b1
 replace bb := Below.after bb b1
 clear b1
 have b1 := bel_al w1 (.cells #[.slice none 0 0, .slice none 0 0, .bool false, .slice none 0 0, .bool false, .slice none 0 0] 81)
 replace kr := kr.below b1
 replace bb := Below.after bb b1
 clear b1
 have e0 := kr.cell 0
 have f0 := Cel.frozen kr 0
 have e1 := kr.cell 1
 have f1 := Cel.frozen kr 1
 have e2 := kr.cell 2
 have f2 := Cel.frozen kr 2
 have e3 := kr.cell 3
 have f3 := Cel.frozen kr 3
 have e4 := kr.cell 4
 have f4 := Cel.frozen kr 4
 have e5 := kr.cell 5
 have f5 := Cel.frozen kr 5
 have e6 := kr.cell 6
 have f6 := Cel.frozen kr 6
 have e7 := kr.cell 7
 have f7 := Cel.frozen kr 7
 have e8 := kr.cell 8
 have f8 := Cel.frozen kr 8
 go_wp2
 exact post_a9 (p := 8) (u := 9) (v := .int .i64 E) (by kernel_rfl) rfl rfl rfl ((((((((((kr.set 0 _).set 1 _).set 2 _).set 3 _).set 4 _).set 5 _).set 6 _).set 7 _).set 8 _)) rfl ⟨rfl, bset (bset (bset (bset (bset (bset (bset (bset (bset (bb) (by omega) 0 _) (by omega) 1 _) (by omega) 2 _) (by omega) 3 _) (by omega) 4 _) (by omega) 5 _) (by omega) 6 _) (by omega) 7 _) (by omega) 8 _⟩
theorem hp_al {w : World} {g : Nat} {o : Obj} (h : w.heap[g]? = some o) (x : Obj) : (w.alloc x).heap[g]? = some o := by
 rw [Below.heap_alloc _ _ _ (by rcases Nat.lt_or_ge g w.heap.size with q | q; exact q; rw [Array.getElem?_eq_none q] at h; cases h)]
 exact h
theorem hp_bel {B : Nat} {w w' : World} {g : Nat} {o : Obj} (h : w.heap[g]? = some o) (b : Below B w w') (hg : g < B) : w'.heap[g]? = some o := (b.block g hg).trans h
def sqT : List (List Int) := [[6, -1, -1, 0, -4, 0], [-1, 6, -1, 0, 0, -4], [-1, -1, 6, -4, 0, 0], [0, 0, -4, 32, 16, 16], [-4, 0, 0, 16, 32, 16], [0, -4, 0, 16, 16, 32]]
def sqW (i j : Nat) : Int := (sqT.getD i []).getD j 0
def qsum (V : Nat → Int) : Nat → Int
 | 0 => 0
 | k + 1 => qsum V k + V k * wsum V (sqW k) 6
theorem wpList_indexA {w : World} {ops : Array Oper} {rest : List Oper} {o : Oper} {a : Act} {Q : Exit → Act → World → Prop} (hg : o.guard = none) (t : TypeId) (x ix : Operand) (hop : o.op = Op.index t x ix) (cs : Array Value) (k : Nat) (hx : a.eval x = .agg cs) (hix : a.eval ix = .int .i64 k) (r : Value)
  (hr : (Instr.index t (.agg cs) (.int .i64 k)).run Tryz.prog w = .ok r w) (hK : wpList Tryz.prog ops Q rest (a.put o.dst r) w) : wpList Tryz.prog ops Q (o :: rest) a w := by
 refine wpList_plain hg fun K hK' => ?_
 unfold Oper.wp execOp
 simp only [hop, hx, hix, Sem.run_bind, Result.andThen_ok, hr]
 exact hK' _ _ hK
theorem sq_row (k : Nat) (hk : k < 6) (w : World) : (Instr.index 112 (.agg #[.int .i64 6, .int .i64 (-1), .int .i64 (-1), .int .i64 0, .int .i64 (-4), .int .i64 0, .int .i64 (-1), .int .i64 6, .int .i64 (-1), .int .i64 0, .int .i64 0, .int .i64 (-4), .int .i64 (-1), .int .i64 (-1), .int .i64 6, .int .i64 (-4), .int .i64 0, .int .i64 0, .int .i64 0, .int .i64 0, .int .i64 (-4), .int .i64 32, .int .i64 16, .int .i64 16, .int .i64 (-4), .int .i64 0, .int .i64 0, .int .i64 16, .int .i64 32, .int .i64 16, .int .i64 0, .int .i64 (-4), .int .i64 0, .int .i64 16, .int .i64 16, .int .i64 32]) (.int .i64 k)).run Tryz.prog w = .ok (.agg #[.int .i64 (sqW k 0), .int .i64 (sqW k 1), .int .i64 (sqW k 2), .int .i64 (sqW k 3), .int .i64 (sqW k 4), .int .i64 (sqW k 5)]) w := by
 obtain rfl | rfl | rfl | rfl | rfl | rfl : k = 0 ∨ k = 1 ∨ k = 2 ∨ k = 3 ∨ k = 4 ∨ k = 5 := by omega
 all_goals kernel_rfl
theorem square_walk (va ya a2 a3 : Option Addr) (vc yl yc l2 c2 l3 c3 : Nat) (f2 f3 : Bool) (N : Nat → Bool) (v : Nat → Value) (V : Nat → Int) (L : Nat) (rN : Bool) (rS rD : ByteArray) (w : World) (hL : L ≤ 400) (tg : TypeId) (fr : Nat × Nat)
  (ht : w.heap[3]? = some (.cells #[.int .i64 6, .int .i64 (-1), .int .i64 (-1), .int .i64 0, .int .i64 (-4), .int .i64 0, .int .i64 (-1), .int .i64 6, .int .i64 (-1), .int .i64 0, .int .i64 0, .int .i64 (-4), .int .i64 (-1), .int .i64 (-1), .int .i64 6, .int .i64 (-4), .int .i64 0, .int .i64 0, .int .i64 0, .int .i64 0, .int .i64 (-4), .int .i64 32, .int .i64 16, .int .i64 16, .int .i64 (-4), .int .i64 0, .int .i64 0, .int .i64 16, .int .i64 32, .int .i64 16, .int .i64 0, .int .i64 (-4), .int .i64 0, .int .i64 16, .int .i64 16, .int .i64 32] tg fr))
  (hr : RdN w va 6 N v) (hv : NVs w N v V L 6)
  (HW : Hid (∀ k w1 B, k < 6 → Below w.heap.size w w1 → Cel w1 B [.int .i64 (sqW k 0), .int .i64 (sqW k 1), .int .i64 (sqW k 2), .int .i64 (sqW k 3), .int .i64 (sqW k 4), .int .i64 (sqW k 5)] 62 → Calls Tryz.prog 67 #[.slice va 6 vc, .slice (some ⟨B, 0, none⟩) 6 6] w1 fun e w' => ∃ f a l c, e = .returned (.agg #[.bool f, .slice a l c]) ∧ NV w' f (.slice a l c) (wsum V (sqW k) 6) (L + 7) ∧ Below w1.heap.size w1 w'))
  (M' : Nat → Bool) (u : Nat → Value) (HC : Hid (∀ w1 B, Below w.heap.size w w1 → Cel w1 B [.slice ya yl yc, .slice ya yl yc] 65 → Calls Tryz.prog 69 #[.slice (some ⟨B, 0, none⟩) 2 2] w1 fun e w' => ∃ g cap, e = .returned (.slice (some ⟨g, 0, none⟩) 6 cap) ∧ RdN w' (some ⟨g, 0, none⟩) 6 M' u ∧ Below w1.heap.size w1 w'))
  (HP : Hid (∀ w1 f a l c g cap, Below w.heap.size w w1 → NV w1 f (.slice a l c) (qsum V 6) (L + L + 13) → RdN w1 (some ⟨g, 0, none⟩) 6 M' u → Calls Tryz.prog 68 #[.agg #[.slice va 6 vc, .slice ya yl yc, .bool f2, .slice a2 l2 c2, .bool f3, .slice a3 l3 c3], .agg #[.bool f, .slice a l c], .int .i64 360, .slice (some ⟨g, 0, none⟩) 6 cap] w1 (Re w1 (.agg #[.bool rN, .string rS, .string rD])))) :
  Calls Tryz.prog 43 #[.agg #[.slice va 6 vc, .slice ya yl yc, .bool f2, .slice a2 l2 c2, .bool f3, .slice a3 l3 c3]] w (Re w (.agg #[.bool rN, .string rS, .string rD])) := by
 replace hr := shut hr
 replace hv := shut hv
 have HT := shut ht
 go_enter Tryz.func43, Tryz.ntmps43
 go_wp2_with (refine wpList_load_row rfl 112 _ rfl 3 rfl tg _ fr _ (hp_al (hp_al (hp_al HT.out _) _) _) Tryz.underlying112 rfl (by kernel_rfl) ?_)
 have hI : Hid (∀ k w1, k < 6 → (Instr.index 112 (.agg #[.int .i64 6, .int .i64 (-1), .int .i64 (-1), .int .i64 0, .int .i64 (-4), .int .i64 0, .int .i64 (-1), .int .i64 6, .int .i64 (-1), .int .i64 0, .int .i64 0, .int .i64 (-4), .int .i64 (-1), .int .i64 (-1), .int .i64 6, .int .i64 (-4), .int .i64 0, .int .i64 0, .int .i64 0, .int .i64 0, .int .i64 (-4), .int .i64 32, .int .i64 16, .int .i64 16, .int .i64 (-4), .int .i64 0, .int .i64 0, .int .i64 16, .int .i64 32, .int .i64 16, .int .i64 0, .int .i64 (-4), .int .i64 0, .int .i64 16, .int .i64 16, .int .i64 32]) (.int .i64 (k : Nat))).run Tryz.prog w1 = .ok (.agg #[.int .i64 (sqW k 0), .int .i64 (sqW k 1), .int .i64 (sqW k 2), .int .i64 (sqW k 3), .int .i64 (sqW k 4), .int .i64 (sqW k 5)]) w1) := fun k w1 hk => sq_row k hk w1
 clear HT ht
 generalize (#[.int .i64 6, .int .i64 (-1), .int .i64 (-1), .int .i64 0, .int .i64 (-4), .int .i64 0, .int .i64 (-1), .int .i64 6, .int .i64 (-1), .int .i64 0, .int .i64 0, .int .i64 (-4), .int .i64 (-1), .int .i64 (-1), .int .i64 6, .int .i64 (-4), .int .i64 0, .int .i64 0, .int .i64 0, .int .i64 0, .int .i64 (-4), .int .i64 32, .int .i64 16, .int .i64 16, .int .i64 (-4), .int .i64 0, .int .i64 0, .int .i64 16, .int .i64 32, .int .i64 16, .int .i64 0, .int .i64 (-4), .int .i64 0, .int .i64 16, .int .i64 16, .int .i64 32] : Array Value) = TQ at *
 obtain ⟨w0, hq, ks, kr, kn, bb⟩ := mk3 w [.slice va 6 vc, .slice ya yl yc, .bool f2, .slice a2 l2 c2, .bool f3, .slice a3 l3 c3] [.bool false, .string { data := #[] }, .string { data := #[] }] [.bool false, .slice none 0 0] 81 26 68
 rw [← hq]
 clear hq
 go_loopw [8] (fun i wr => Below w.heap.size w wr ∧ ∃ (k : Nat) (f : Bool) (a : Option Addr) (l c : Nat), k ≤ 6 ∧ i = .int .i64 k ∧ Cel wr (w.heap.size + 1 + 1) [.bool f, .slice a l c] 68 ∧ NV wr f (.slice a l c) (qsum V k) (L + L + 7 + k) ∧ Cel wr (w.heap.size + 1) [.bool false, .string { data := #[] }, .string { data := #[] }] 26 ∧ Cel wr w.heap.size [.slice va 6 vc, .slice ya yl yc, .bool f2, .slice a2 l2 c2, .bool f3, .slice a3 l3 c3] 81) (fun i _ => 6 - (intOf i).toNat)
 case atStart => exact ⟨bb, 0, _, _, _, _, by omega, rfl, kn, nv_zero _ _, kr, ks⟩
 case round =>
  clear bb kr ks kn
  obtain ⟨bb, k, f, a, l, c, hk, rfl, kn, ns, kr, ks⟩ := hrel
  by_cases hkm : k < 6
  ·obtain ⟨d, o, rfl, g0, g1⟩ := hr.out.below bb k hkm
   have hd : d < w.heap.size := by
    obtain ⟨d', o', e, q0, -⟩ := hr.out k (by omega)
    injection e with e
    injection e with e1 e2
    subst e1
    exact World.block_lt_of_cell? w _ q0
   obtain ⟨nk, ak, lk, ck, ek⟩ := hv.out k (by omega)
   rw [ek] at nk g1
   replace nk := nk.below bb
   have i1 : (k : Int) < 6 := by omega
   have i2 : ¬ (k : Int) < 0 := by omega
   go_wp2_with (refine wpList_indexA rfl 112 _ _ rfl TQ k rfl rfl _ (hI.out k _ hkm) ?_)
   obtain ⟨wq, hq, kw, bd⟩ := mk1 wr [.int .i64 (sqW k 0), .int .i64 (sqW k 1), .int .i64 (sqW k 2), .int .i64 (sqW k 3), .int .i64 (sqW k 4), .int .i64 (sqW k 5)] 62
   rw [← hq]
   clear hq
   replace kn := kn.below bd
   replace kr := kr.below bd
   replace ks := ks.below bd
   replace ns := ns.below bd
   replace nk := nk.below bd
   replace g0 := cell_below g0 bd
   replace g1 := cell_below g1 bd
   replace bb := Below.after bb bd
   clear bd
   have bd := bdrew wq
   replace kn := kn.below bd
   replace kr := kr.below bd
   replace ks := ks.below bd
   replace ns := ns.below bd
   replace nk := nk.below bd
   replace g0 := cell_below g0 bd
   replace g1 := cell_below g1 bd
   replace kw := kw.below bd
   replace bb := Below.after bb bd
   clear bd
   refine wp_region_held_drew (S := fun w' => w'.cell? ⟨w.heap.size, 0, none⟩ = some (.slice (some ⟨d, o, none⟩) 6 vc) ∧ w'.cell? ⟨d, o + k * 2, none⟩ = some (.bool (N k)) ∧ w'.cell? ⟨d, o + k * 2 + 1, none⟩ = some (.slice ak lk ck)) (by kernel_rfl) ⟨ks.cell 0, g0, g1⟩ (fun hS => ?_)
   generalize wq.drew = wd at *
   refine WA.start (n := 13) (by kernel_rfl) ?_
   refine WA.tp 1 rfl ?_
   refine WA.tp 2 rfl ?_
   refine WA.tp 3 rfl ?_
   refine WA.tp 4 rfl ?_
   refine WA.tp 5 rfl ?_
   refine WA.tp 6 rfl ?_
   refine WA.tp 7 rfl ?_
   refine WA.tp 8 rfl ?_
   refine WA.genR (i := 0) (s := 12) (.agg #[.bool f, .slice a l c]) (fun b x hz => ?_)
   simp only [Act.put, List.setIfInBounds_toArray, List.set_cons_zero, List.set_cons_succ]
   obtain ⟨c0, c1⟩ := xk2 kn
   revert b x
   refine WA.oneR 13 510 9 0 rfl rfl hS ?_
   clear hS c0 c1
   intro b x hz K hK
   simp only [List.getElem_toArray, List.getElem_cons_succ, List.getElem_cons_zero]
   go_simp
   go_fit (HW.out k _ _ hkm bb kw)
   rintro e w1 ⟨f1, a1, l1, c1, rfl, n1, b1⟩
   clear kw
   replace kn := kn.below b1
   replace kr := kr.below b1
   replace ks := ks.below b1
   replace ns := ns.below b1
   replace nk := nk.below b1
   replace g0 := cell_below g0 b1
   replace g1 := cell_below g1 b1
   replace bb := Below.after bb b1
   clear b1
   try go_wp2_with fail
   refine hK.out _ _ ⟨ks.cell 0, g0, g1⟩ (fun hS => ?_)
   clear hK K
   obtain ⟨c0, c1⟩ := xk2 kn
   revert b x
   refine WA.oneR 13 1022 10 0 rfl rfl hS ?_
   clear hS c0 c1
   intro b x hz K hK
   simp only [List.getElem_toArray, List.getElem_cons_succ, List.getElem_cons_zero]
   go_simp
   go_fit (ntimes_any _ _ _ _ (V k) (wsum V (sqW k) 6) L (L + 7) _ (by omega) (by omega) nk n1)
   rintro e w2 ⟨f2', v2, rfl, n2, -, b1⟩
   obtain ⟨a2', l2', c2', rfl⟩ := n2.slice
   clear nk n1
   replace kn := kn.below b1
   replace kr := kr.below b1
   replace ks := ks.below b1
   replace ns := ns.below b1
   replace g0 := cell_below g0 b1
   replace g1 := cell_below g1 b1
   replace bb := Below.after bb b1
   clear b1
   try go_wp2_with fail
   refine hK.out _ _ ⟨ks.cell 0, g0, g1⟩ (fun hS => ?_)
   clear hK K
   obtain ⟨c0, c1⟩ := xk2 kn
   revert b x
   refine WA.finR 0 rfl hS ?_
   clear c0 c1
   refine WA.cal 11 rfl (fun K hK => ?_)
   simp only [List.getElem_toArray, List.getElem_cons_succ, List.getElem_cons_zero]
   go_simp
   go_fit (nplus_any _ _ _ _ (qsum V k) (V k * wsum V (sqW k) 6) (L + L + 7 + k) _ (by omega) ns (n2.mono (by omega)))
   rintro e w3 ⟨f3', v3, rfl, n3, b1⟩
   obtain ⟨a3', l3', c3', rfl⟩ := n3.slice
   clear ns n2
   replace kn := kn.below b1
   replace kr := kr.below b1
   replace ks := ks.below b1
   replace g0 := cell_below g0 b1
   replace g1 := cell_below g1 b1
   replace bb := Below.after bb b1
   clear b1
   try go_wp2_with fail
   clear hS
   refine hK.out _ _ ⟨ks.cell 0, g0, g1⟩ (fun hS => ?_)
   clear hK K
   obtain ⟨c0, c1⟩ := xk2 kn
   have q0 := Cel.frozen kn 0
   have q1 := Cel.frozen kn 1
   refine WA.cal 12 rfl (fun K hK => ?_)
   simp only [List.getElem_toArray, List.getElem_cons_succ, List.getElem_cons_zero]
   go_simp
   try go_wp2_with fail
   clear c0 c1 q0 q1 hS
   have hne : ¬ (d = w.heap.size + 1 + 1) := by omega
   replace ks := ks.oth2 (show w.heap.size ≠ w.heap.size + 1 + 1 by omega) (.bool f3') (.slice a3' l3' c3')
   refine hK.out _ _ ⟨ks.cell 0, cell_oth2 g0 hne _ _, cell_oth2 g1 hne _ _⟩ (fun hS => ?_)
   clear hK K
   refine WA.done (by kernel_rfl) ?_
   clear hS
   replace n3 := n3.set2 kn (.bool f3') (.slice a3' l3' c3')
   replace kr := kr.oth2 (show w.heap.size + 1 ≠ w.heap.size + 1 + 1 by omega) (.bool f3') (.slice a3' l3' c3')
   replace bb := bset (bset bb (show w.heap.size ≤ w.heap.size + 1 + 1 by omega) 0 (.bool f3')) (show w.heap.size ≤ w.heap.size + 1 + 1 by omega) 1 (.slice a3' l3' c3')
   replace kn := (kn.set 0 (.bool f3')).set 1 (.slice a3' l3' c3')
   clear g0 g1
   go_wp2_with fail
   refine ⟨⟨bb, k + 1, f3', a3', l3', c3', by omega, by go_num, kn, n3, kr, ks⟩, ?_⟩
   simp [intOf]; omega
  ·obtain rfl : k = 6 := by omega
   have i3 : ¬ ((6 : Nat) : Int) < 6 := by omega
   clear hr hv HW hI i3 hkm
   go_wp2_with fail
   have bd := bdrew wr
   replace kn := kn.below bd
   replace kr := kr.below bd
   replace ks := ks.below bd
   replace ns := ns.below bd
   replace bb := Below.after bb bd
   clear bd
   refine wp_region_held_drew (S := fun w' => xc6 w' w.heap.size (.slice va 6 vc) (.slice ya yl yc) (.bool f2) (.slice a2 l2 c2) (.bool f3) (.slice a3 l3 c3) ∧ xc2 w' (w.heap.size + 1 + 1) (.bool f) (.slice a l c)) (by kernel_rfl) ⟨xk6 ks, xk2 kn⟩ (fun hS => ?_)
   generalize wr.drew = wd at *
   refine WA.start (n := 10) (by kernel_rfl) ?_
   refine WA.tp 0 rfl ?_
   refine WA.tp 1 rfl ?_
   refine WA.tp 2 rfl ?_
   refine WA.tp 3 rfl ?_
   refine WA.tp 4 rfl ?_
   refine WA.tp 5 rfl ?_
   clear hS
   refine WA.cal 6 rfl (fun K hK => ?_)
   simp only [List.getElem_toArray, List.getElem_cons_succ, List.getElem_cons_zero]
   go_simp
   try go_wp2_with fail
   obtain ⟨w1, hw, kp, b1⟩ := mk1 wd [.slice ya yl yc, .slice ya yl yc] 65
   rw [← hw]
   clear hw
   replace kn := kn.below b1
   replace kr := kr.below b1
   replace ks := ks.below b1
   replace ns := ns.below b1
   replace bb := Below.after bb b1
   clear b1
   refine hK.out _ _ ⟨xk6 ks, xk2 kn⟩ (fun hS => ?_)
   clear hK K hS
   refine WA.cal 7 rfl (fun K hK => ?_)
   simp only [List.getElem_toArray, List.getElem_cons_succ, List.getElem_cons_zero]
   go_simp
   go_fit (HC.out _ _ bb kp)
   rintro e w2 ⟨g, cap, rfl, hr2, b1⟩
   clear kp
   replace hr2 := shut hr2
   replace kn := kn.below b1
   replace kr := kr.below b1
   replace ks := ks.below b1
   replace ns := ns.below b1
   replace bb := Below.after bb b1
   clear b1
   try go_wp2_with fail
   refine hK.out _ _ ⟨xk6 ks, xk2 kn⟩ (fun hS => ?_)
   clear hK K hS
   refine WA.cal 8 rfl (fun K hK => ?_)
   simp only [List.getElem_toArray, List.getElem_cons_succ, List.getElem_cons_zero]
   go_simp
   go_fit (HP.out _ _ _ _ _ _ cap bb ns hr2.out)
   rintro e w3 ⟨rfl, b1⟩
   clear ns hr2
   replace kn := kn.below b1
   replace kr := kr.below b1
   replace ks := ks.below b1
   replace bb := Below.after bb b1
   clear b1
   try go_wp2_with fail
   refine hK.out _ _ ⟨xk6 ks, xk2 kn⟩ (fun hS => ?_)
   clear hK K hS
   obtain ⟨e0, e1, e2⟩ := xk3 kr
   have q0 := Cel.frozen kr 0
   have q1 := Cel.frozen kr 1
   have q2 := Cel.frozen kr 2
   refine WA.cal 9 rfl (fun K hK => ?_)
   simp only [List.getElem_toArray, List.getElem_cons_succ, List.getElem_cons_zero]
   go_simp
   try go_wp2_with fail
   clear e0 e1 e2 q0 q1 q2
   have hne : w.heap.size ≠ w.heap.size + 1 := by omega
   have hne' : w.heap.size + 1 + 1 ≠ w.heap.size + 1 := by omega
   refine hK.out _ _ ⟨xk6 (((ks.other hne 0 _).other hne 1 _).other hne 2 _), xk2 (((kn.other hne' 0 _).other hne' 1 _).other hne' 2 _)⟩ (fun hS => ?_)
   clear hK K hS
   refine WA.done (by kernel_rfl) ?_
   go_wp2
   exact post_q (p := 2) (by kernel_rfl) rfl rfl (((kr.set 0 _).set 1 _).set 2 _) ⟨rfl, bset (bset (bset bb (by omega) 0 _) (by omega) 1 _) (by omega) 2 _⟩
theorem pint_bad (n0 n1 n2 n3 n4 n5 p0 p1 p2 p3 p4 p5 : Bool) (s0 d0 s1 d1 s2 d2 s3 d3 s4 d4 s5 d5 q0 r0 q1 r1 q2 r2 q3 r3 q4 r4 q5 r5 : ByteArray) (E : Int) (w : World) (hE : ¬ E = 0)
  (HS : Hid (∀ w1, Below w.heap.size w w1 → Calls Tryz.prog 41 #[.agg #[.bool n0, .string s0, .string d0, .bool n1, .string s1, .string d1, .bool n2, .string s2, .string d2, .bool n3, .string s3, .string d3, .bool n4, .string s4, .string d4, .bool n5, .string s5, .string d5], .agg #[.bool p0, .string q0, .string r0, .bool p1, .string q1, .string r1], .agg #[.bool p2, .string q2, .string r2, .bool p3, .string q3, .string r3], .agg #[.bool p4, .string q4, .string r4, .bool p5, .string q5, .string r5]] w1 (Re w1 (.tuple #[.agg #[.slice none 0 0, .slice none 0 0, .bool false, .slice none 0 0, .bool false, .slice none 0 0], .int .i64 E])))) :
  Calls Tryz.prog 15 #[.agg #[.bool n0, .string s0, .string d0, .bool n1, .string s1, .string d1, .bool n2, .string s2, .string d2, .bool n3, .string s3, .string d3, .bool n4, .string s4, .string d4, .bool n5, .string s5, .string d5], .agg #[.bool p0, .string q0, .string r0, .bool p1, .string q1, .string r1], .agg #[.bool p2, .string q2, .string r2, .bool p3, .string q3, .string r3], .agg #[.bool p4, .string q4, .string r4, .bool p5, .string q5, .string r5]] w (Re w (.tuple #[.agg #[.bool false, .string { data := #[] }, .string { data := #[] }], .int .i64 E])) := by
 go_enter Tryz.func15, Tryz.ntmps15
 go_upto_region 1 with fail
 obtain ⟨w0, hq, kf, ka, kb, kc, kr, bb⟩ := mk5 w [.bool n0, .string s0, .string d0, .bool n1, .string s1, .string d1, .bool n2, .string s2, .string d2, .bool n3, .string s3, .string d3, .bool n4, .string s4, .string d4, .bool n5, .string s5, .string d5] [.bool p0, .string q0, .string r0, .bool p1, .string q1, .string r1] [.bool p2, .string q2, .string r2, .bool p3, .string q3, .string r3] [.bool p4, .string q4, .string r4, .bool p5, .string q5, .string r5] [.bool false, .string { data := #[] }, .string { data := #[] }] 28 30 30 30 26
 rw [← hq]
 clear hq
 obtain ⟨x0, x1, x2, x3, x4, x5⟩ := xk6 ka
 obtain ⟨y0, y1, y2, y3, y4, y5⟩ := xk6 kb
 obtain ⟨z0, z1, z2, z3, z4, z5⟩ := xk6 kc
 go_wp2_with (refine wpList_load_row rfl 28 _ rfl _ rfl 28 _ (0, 0) _ kf Tryz.underlying28 rfl (by kernel_rfl) ?_)
 clear x0 x1 x2 x3 x4 x5 y0 y1 y2 y3 y4 y5 z0 z1 z2 z3 z4 z5
 clear kf ka kb kc
 go_fit (HS.out _ bb)
 rintro e w1 ⟨rfl, b1⟩
 replace kr := kr.below b1
 replace bb := Below.after bb b1
 clear b1
 have b1 := bel_al w1 (.cells #[.slice none 0 0, .slice none 0 0, .bool false, .slice none 0 0, .bool false, .slice none 0 0] 81)
 replace kr := kr.below b1
 replace bb := Below.after bb b1
 clear b1
 obtain ⟨e0, e1, e2⟩ := xk3 kr
 have f0 := Cel.frozen kr 0
 have f1 := Cel.frozen kr 1
 have f2 := Cel.frozen kr 2
 go_wp2
 exact post_q1 (p := 8) (u := 9) (v := .int .i64 E) (by kernel_rfl) rfl rfl rfl (((kr.set 0 _).set 1 _).set 2 _) ⟨rfl, bset (bset (bset bb (by omega) 0 _) (by omega) 1 _) (by omega) 2 _⟩
def inT : List Int := [0, 0, 0, 20, 20, 20]
def inW (j : Nat) : Int := inT.getD j 0
theorem pint_ok (n0 n1 n2 n3 n4 n5 p0 p1 p2 p3 p4 p5 : Bool) (s0 d0 s1 d1 s2 d2 s3 d3 s4 d4 s5 d5 q0 r0 q1 r1 q2 r2 q3 r3 q4 r4 q5 r5 : ByteArray) (rN : Bool) (rS rD : ByteArray) (w : World) (tg : TypeId) (fr : Nat × Nat) (ht : w.heap[0]? = some (.cells #[.int .i64 0, .int .i64 0, .int .i64 0, .int .i64 20, .int .i64 20, .int .i64 20] tg fr)) (SP : World → Nat → Nat → Nat → Option Addr → Nat → Nat → Option Addr → Nat → Nat → Prop) (SPb : ∀ w w' g gy c a2 l2 c2 a3 l3 c3, SP w g gy c a2 l2 c2 a3 l3 c3 → Below w.heap.size w w' → SP w' g gy c a2 l2 c2 a3 l3 c3)
  (HS : Hid (∀ w1, Below w.heap.size w w1 → Calls Tryz.prog 41 #[.agg #[.bool n0, .string s0, .string d0, .bool n1, .string s1, .string d1, .bool n2, .string s2, .string d2, .bool n3, .string s3, .string d3, .bool n4, .string s4, .string d4, .bool n5, .string s5, .string d5], .agg #[.bool p0, .string q0, .string r0, .bool p1, .string q1, .string r1], .agg #[.bool p2, .string q2, .string r2, .bool p3, .string q3, .string r3], .agg #[.bool p4, .string q4, .string r4, .bool p5, .string q5, .string r5]] w1 fun e w' => ∃ g gy c a2 l2 c2 a3 l3 c3, e = .returned (.tuple #[.agg #[.slice (some ⟨g, 0, none⟩) 6 c, .slice (some ⟨gy, 0, none⟩) 3 3, .bool false, .slice a2 l2 c2, .bool false, .slice a3 l3 c3], .int .i64 0]) ∧ SP w' g gy c a2 l2 c2 a3 l3 c3 ∧ Below w1.heap.size w1 w'))
  (HL : Hid (∀ w1 B g gy c a2 l2 c2 a3 l3 c3, Below w.heap.size w w1 → SP w1 g gy c a2 l2 c2 a3 l3 c3 → Cel w1 B [.int .i64 (inW 0), .int .i64 (inW 1), .int .i64 (inW 2), .int .i64 (inW 3), .int .i64 (inW 4), .int .i64 (inW 5)] 62 → Calls Tryz.prog 42 #[.agg #[.slice (some ⟨g, 0, none⟩) 6 c, .slice (some ⟨gy, 0, none⟩) 3 3, .bool false, .slice a2 l2 c2, .bool false, .slice a3 l3 c3], .slice (some ⟨B, 0, none⟩) 6 6] w1 (Re w1 (.agg #[.bool rN, .string rS, .string rD])))) :
  Calls Tryz.prog 15 #[.agg #[.bool n0, .string s0, .string d0, .bool n1, .string s1, .string d1, .bool n2, .string s2, .string d2, .bool n3, .string s3, .string d3, .bool n4, .string s4, .string d4, .bool n5, .string s5, .string d5], .agg #[.bool p0, .string q0, .string r0, .bool p1, .string q1, .string r1], .agg #[.bool p2, .string q2, .string r2, .bool p3, .string q3, .string r3], .agg #[.bool p4, .string q4, .string r4, .bool p5, .string q5, .string r5]] w (Re w (.tuple #[.agg #[.bool rN, .string rS, .string rD], .int .i64 0])) := by
 have HT := shut ht
 have ht0 : 0 < w.heap.size := by
  rcases Nat.lt_or_ge 0 w.heap.size with q | q
  ·exact q
  ·rw [Array.getElem?_eq_none q] at ht; cases ht
 clear ht
 replace ht0 := shut ht0
 go_enter Tryz.func15, Tryz.ntmps15
 go_upto_region 1 with fail
 obtain ⟨w0, hq, kf, ka, kb, kc, kr, bb⟩ := mk5 w [.bool n0, .string s0, .string d0, .bool n1, .string s1, .string d1, .bool n2, .string s2, .string d2, .bool n3, .string s3, .string d3, .bool n4, .string s4, .string d4, .bool n5, .string s5, .string d5] [.bool p0, .string q0, .string r0, .bool p1, .string q1, .string r1] [.bool p2, .string q2, .string r2, .bool p3, .string q3, .string r3] [.bool p4, .string q4, .string r4, .bool p5, .string q5, .string r5] [.bool false, .string { data := #[] }, .string { data := #[] }] 28 30 30 30 26
 rw [← hq]
 clear hq
 obtain ⟨x0, x1, x2, x3, x4, x5⟩ := xk6 ka
 obtain ⟨y0, y1, y2, y3, y4, y5⟩ := xk6 kb
 obtain ⟨z0, z1, z2, z3, z4, z5⟩ := xk6 kc
 go_wp2_with (refine wpList_load_row rfl 28 _ rfl _ rfl 28 _ (0, 0) _ kf Tryz.underlying28 rfl (by kernel_rfl) ?_)
 clear x0 x1 x2 x3 x4 x5 y0 y1 y2 y3 y4 y5 z0 z1 z2 z3 z4 z5
 clear kf ka kb kc
 go_fit (HS.out _ bb)
 rintro e w1 ⟨g, gy, c, a2, l2, c2, a3, l3, c3, rfl, sp, b1⟩
 replace sp := shut sp
 replace kr := kr.below b1
 replace bb := Below.after bb b1
 clear b1
 have t1 := shut kr.lt
 go_upto_region 4 with fail
 obtain ⟨w2, hq, ks, b1⟩ := mk1 w1 [.slice (some ⟨g, 0, none⟩) 6 c, .slice (some ⟨gy, 0, none⟩) 3 3, .bool false, .slice a2 l2 c2, .bool false, .slice a3 l3 c3] 81
 rw [← hq]
 clear hq
 replace sp := shut (SPb _ _ _ _ _ _ _ _ _ _ _ sp.out b1)
 replace kr := kr.below b1
 replace bb := Below.after bb b1
 clear b1
 go_upto_region 5 with (refine wpList_load_row rfl 62 _ rfl 0 rfl tg _ fr _ (hp_bel HT.out bb ht0.out) Tryz.underlying62 rfl (by kernel_rfl) ?_)
 clear HT ht0
 obtain ⟨w3, hq, kw, b1⟩ := mk1 w2 [.int .i64 0, .int .i64 0, .int .i64 0, .int .i64 20, .int .i64 20, .int .i64 20] 62
 rw [← hq]
 clear hq
 replace sp := shut (SPb _ _ _ _ _ _ _ _ _ _ _ sp.out b1)
 replace kr := kr.below b1
 replace ks := ks.below b1
 replace bb := Below.after bb b1
 clear b1
 have bd := bdrew w3
 replace sp := shut (SPb _ _ _ _ _ _ _ _ _ _ _ sp.out bd)
 replace kr := kr.below bd
 replace ks := ks.below bd
 replace kw := kw.below bd
 replace bb := Below.after bb bd
 clear bd
 refine wp_region_held_drew (S := fun w' => xc6 w' w1.heap.size (.slice (some ⟨g, 0, none⟩) 6 c) (.slice (some ⟨gy, 0, none⟩) 3 3) (.bool false) (.slice a2 l2 c2) (.bool false) (.slice a3 l3 c3)) (by kernel_rfl) (xk6 ks) (fun hS => ?_)
 generalize w3.drew = wd at *
 refine WA.start (n := 5) (by kernel_rfl) ?_
 refine WA.tp 0 rfl ?_
 refine WA.tp 1 rfl ?_
 clear hS
 refine WA.cal 2 rfl (fun K hK => ?_)
 simp only [List.getElem_toArray, List.getElem_cons_succ, List.getElem_cons_zero]
 go_simp
 go_fit (HL.out _ _ _ _ _ _ _ _ _ _ _ bb sp.out kw)
 rintro e w4 ⟨rfl, b1⟩
 clear sp kw
 replace kr := kr.below b1
 replace ks := ks.below b1
 replace bb := Below.after bb b1
 clear b1
 try go_wp2_with fail
 refine hK.out _ _ (xk6 ks) (fun hS => ?_)
 clear hK K hS
 obtain ⟨e0, e1, e2⟩ := xk3 kr
 have f0 := Cel.frozen kr 0
 have f1 := Cel.frozen kr 1
 have f2 := Cel.frozen kr 2
 refine WA.cal 3 rfl (fun K hK => ?_)
 simp only [List.getElem_toArray, List.getElem_cons_succ, List.getElem_cons_zero]
 go_simp
 try go_wp2_with fail
 clear e0 e1 e2 f0 f1 f2
 have hne : w1.heap.size ≠ w.heap.size + 1 + 1 + 1 + 1 := by have := t1.out; omega
 refine hK.out _ _ (xk6 (((ks.other hne 0 _).other hne 1 _).other hne 2 _)) (fun hS => ?_)
 clear hK K
 refine WA.tp 4 rfl ?_
 refine WA.done (by kernel_rfl) ?_
 clear hS ks
 go_wp2
 exact post_q1 (p := 8) (u := 9) (v := .int .i64 0) (by kernel_rfl) rfl rfl rfl (((kr.set 0 _).set 1 _).set 2 _) ⟨rfl, bset (bset (bset bb (by omega) 0 _) (by omega) 1 _) (by omega) 2 _⟩
theorem psqu_ok (n0 n1 n2 n3 n4 n5 p0 p1 p2 p3 p4 p5 : Bool) (s0 d0 s1 d1 s2 d2 s3 d3 s4 d4 s5 d5 q0 r0 q1 r1 q2 r2 q3 r3 q4 r4 q5 r5 : ByteArray) (rN : Bool) (rS rD : ByteArray) (w : World) (SP : World → Nat → Nat → Nat → Option Addr → Nat → Nat → Option Addr → Nat → Nat → Prop) (SPb : ∀ w w' g gy c a2 l2 c2 a3 l3 c3, SP w g gy c a2 l2 c2 a3 l3 c3 → Below w.heap.size w w' → SP w' g gy c a2 l2 c2 a3 l3 c3)
  (HS : Hid (∀ w1, Below w.heap.size w w1 → Calls Tryz.prog 41 #[.agg #[.bool n0, .string s0, .string d0, .bool n1, .string s1, .string d1, .bool n2, .string s2, .string d2, .bool n3, .string s3, .string d3, .bool n4, .string s4, .string d4, .bool n5, .string s5, .string d5], .agg #[.bool p0, .string q0, .string r0, .bool p1, .string q1, .string r1], .agg #[.bool p2, .string q2, .string r2, .bool p3, .string q3, .string r3], .agg #[.bool p4, .string q4, .string r4, .bool p5, .string q5, .string r5]] w1 fun e w' => ∃ g gy c a2 l2 c2 a3 l3 c3, e = .returned (.tuple #[.agg #[.slice (some ⟨g, 0, none⟩) 6 c, .slice (some ⟨gy, 0, none⟩) 3 3, .bool false, .slice a2 l2 c2, .bool false, .slice a3 l3 c3], .int .i64 0]) ∧ SP w' g gy c a2 l2 c2 a3 l3 c3 ∧ Below w1.heap.size w1 w'))
  (HL : Hid (∀ w1 g gy c a2 l2 c2 a3 l3 c3, Below w.heap.size w w1 → SP w1 g gy c a2 l2 c2 a3 l3 c3 → Calls Tryz.prog 43 #[.agg #[.slice (some ⟨g, 0, none⟩) 6 c, .slice (some ⟨gy, 0, none⟩) 3 3, .bool false, .slice a2 l2 c2, .bool false, .slice a3 l3 c3]] w1 (Re w1 (.agg #[.bool rN, .string rS, .string rD])))) :
  Calls Tryz.prog 17 #[.agg #[.bool n0, .string s0, .string d0, .bool n1, .string s1, .string d1, .bool n2, .string s2, .string d2, .bool n3, .string s3, .string d3, .bool n4, .string s4, .string d4, .bool n5, .string s5, .string d5], .agg #[.bool p0, .string q0, .string r0, .bool p1, .string q1, .string r1], .agg #[.bool p2, .string q2, .string r2, .bool p3, .string q3, .string r3], .agg #[.bool p4, .string q4, .string r4, .bool p5, .string q5, .string r5]] w (Re w (.tuple #[.agg #[.bool rN, .string rS, .string rD], .int .i64 0])) := by
 go_enter Tryz.func17, Tryz.ntmps17
 go_upto_region 1 with fail
 obtain ⟨w0, hq, kf, ka, kb, kc, kr, bb⟩ := mk5 w [.bool n0, .string s0, .string d0, .bool n1, .string s1, .string d1, .bool n2, .string s2, .string d2, .bool n3, .string s3, .string d3, .bool n4, .string s4, .string d4, .bool n5, .string s5, .string d5] [.bool p0, .string q0, .string r0, .bool p1, .string q1, .string r1] [.bool p2, .string q2, .string r2, .bool p3, .string q3, .string r3] [.bool p4, .string q4, .string r4, .bool p5, .string q5, .string r5] [.bool false, .string { data := #[] }, .string { data := #[] }] 28 30 30 30 26
 rw [← hq]
 clear hq
 obtain ⟨x0, x1, x2, x3, x4, x5⟩ := xk6 ka
 obtain ⟨y0, y1, y2, y3, y4, y5⟩ := xk6 kb
 obtain ⟨z0, z1, z2, z3, z4, z5⟩ := xk6 kc
 go_wp2_with (refine wpList_load_row rfl 28 _ rfl _ rfl 28 _ (0, 0) _ kf Tryz.underlying28 rfl (by kernel_rfl) ?_)
 clear x0 x1 x2 x3 x4 x5 y0 y1 y2 y3 y4 y5 z0 z1 z2 z3 z4 z5
 clear kf ka kb kc
 go_fit (HS.out _ bb)
 rintro e w1 ⟨g, gy, c, a2, l2, c2, a3, l3, c3, rfl, sp, b1⟩
 replace sp := shut sp
 replace kr := kr.below b1
 replace bb := Below.after bb b1
 clear b1
 go_upto_region 4 with fail
 obtain ⟨w2, hq, ks, b1⟩ := mk1 w1 [.slice (some ⟨g, 0, none⟩) 6 c, .slice (some ⟨gy, 0, none⟩) 3 3, .bool false, .slice a2 l2 c2, .bool false, .slice a3 l3 c3] 81
 rw [← hq]
 clear hq
 replace sp := shut (SPb _ _ _ _ _ _ _ _ _ _ _ sp.out b1)
 replace kr := kr.below b1
 replace bb := Below.after bb b1
 clear b1
 obtain ⟨x0, x1, x2, x3, x4, x5⟩ := xk6 ks
 go_wp2_with fail
 clear x0 x1 x2 x3 x4 x5
 go_fit (HL.out _ _ _ _ _ _ _ _ _ _ bb sp.out)
 rintro e w4 ⟨rfl, b1⟩
 clear sp ks
 replace kr := kr.below b1
 replace bb := Below.after bb b1
 clear b1
 obtain ⟨e0, e1, e2⟩ := xk3 kr
 have f0 := Cel.frozen kr 0
 have f1 := Cel.frozen kr 1
 have f2 := Cel.frozen kr 2
 go_wp2
 exact post_q1 (p := 8) (u := 9) (v := .int .i64 0) (by kernel_rfl) rfl rfl rfl (((kr.set 0 _).set 1 _).set 2 _) ⟨rfl, bset (bset (bset bb (by omega) 0 _) (by omega) 1 _) (by omega) 2 _⟩
def ldT : List (List Int) := [[2, -1, -1, 8, 4, 8], [-1, 2, -1, 8, 8, 4], [-1, -1, 2, 4, 8, 8]]
def ldW (i j : Nat) : Int := (ldT.getD i []).getD j 0
theorem ld_row (k : Nat) (hk : k < 3) (w : World) : (Instr.index 86 (.agg #[.int .i64 2, .int .i64 (-1), .int .i64 (-1), .int .i64 8, .int .i64 4, .int .i64 8, .int .i64 (-1), .int .i64 2, .int .i64 (-1), .int .i64 8, .int .i64 8, .int .i64 4, .int .i64 (-1), .int .i64 (-1), .int .i64 2, .int .i64 4, .int .i64 8, .int .i64 8]) (.int .i64 k)).run Tryz.prog w = .ok (.agg #[.int .i64 (ldW k 0), .int .i64 (ldW k 1), .int .i64 (ldW k 2), .int .i64 (ldW k 3), .int .i64 (ldW k 4), .int .i64 (ldW k 5)]) w := by
 obtain rfl | rfl | rfl : k = 0 ∨ k = 1 ∨ k = 2 := by omega
 all_goals kernel_rfl
theorem plod_ok (n0 n1 n2 n3 n4 n5 p0 p1 p2 p3 p4 p5 : Bool) (s0 d0 s1 d1 s2 d2 s3 d3 s4 d4 s5 d5 q0 r0 q1 r1 q2 r2 q3 r3 q4 r4 q5 r5 : ByteArray) (X : Nat → Bool) (Y Z : Nat → ByteArray) (w : World) (tg : TypeId) (fr : Nat × Nat) (ht : w.heap[1]? = some (.cells #[.int .i64 2, .int .i64 (-1), .int .i64 (-1), .int .i64 8, .int .i64 4, .int .i64 8, .int .i64 (-1), .int .i64 2, .int .i64 (-1), .int .i64 8, .int .i64 8, .int .i64 4, .int .i64 (-1), .int .i64 (-1), .int .i64 2, .int .i64 4, .int .i64 8, .int .i64 8] tg fr)) (SP : World → Nat → Nat → Nat → Option Addr → Nat → Nat → Option Addr → Nat → Nat → Prop) (SPb : ∀ w w' g gy c a2 l2 c2 a3 l3 c3, SP w g gy c a2 l2 c2 a3 l3 c3 → Below w.heap.size w w' → SP w' g gy c a2 l2 c2 a3 l3 c3)
  (HS : Hid (∀ w1, Below w.heap.size w w1 → Calls Tryz.prog 41 #[.agg #[.bool n0, .string s0, .string d0, .bool n1, .string s1, .string d1, .bool n2, .string s2, .string d2, .bool n3, .string s3, .string d3, .bool n4, .string s4, .string d4, .bool n5, .string s5, .string d5], .agg #[.bool p0, .string q0, .string r0, .bool p1, .string q1, .string r1], .agg #[.bool p2, .string q2, .string r2, .bool p3, .string q3, .string r3], .agg #[.bool p4, .string q4, .string r4, .bool p5, .string q5, .string r5]] w1 fun e w' => ∃ g gy c a2 l2 c2 a3 l3 c3, e = .returned (.tuple #[.agg #[.slice (some ⟨g, 0, none⟩) 6 c, .slice (some ⟨gy, 0, none⟩) 3 3, .bool false, .slice a2 l2 c2, .bool false, .slice a3 l3 c3], .int .i64 0]) ∧ SP w' g gy c a2 l2 c2 a3 l3 c3 ∧ Below w1.heap.size w1 w'))
  (HL : Hid (∀ k w1 B g gy c a2 l2 c2 a3 l3 c3, k < 3 → Below w.heap.size w w1 → SP w1 g gy c a2 l2 c2 a3 l3 c3 → Cel w1 B [.int .i64 (ldW k 0), .int .i64 (ldW k 1), .int .i64 (ldW k 2), .int .i64 (ldW k 3), .int .i64 (ldW k 4), .int .i64 (ldW k 5)] 62 → Calls Tryz.prog 42 #[.agg #[.slice (some ⟨g, 0, none⟩) 6 c, .slice (some ⟨gy, 0, none⟩) 3 3, .bool false, .slice a2 l2 c2, .bool false, .slice a3 l3 c3], .slice (some ⟨B, 0, none⟩) 6 6] w1 (Re w1 (.agg #[.bool (X k), .string (Y k), .string (Z k)])))) :
  Calls Tryz.prog 16 #[.agg #[.bool n0, .string s0, .string d0, .bool n1, .string s1, .string d1, .bool n2, .string s2, .string d2, .bool n3, .string s3, .string d3, .bool n4, .string s4, .string d4, .bool n5, .string s5, .string d5], .agg #[.bool p0, .string q0, .string r0, .bool p1, .string q1, .string r1], .agg #[.bool p2, .string q2, .string r2, .bool p3, .string q3, .string r3], .agg #[.bool p4, .string q4, .string r4, .bool p5, .string q5, .string r5]] w (Re w (.tuple #[.agg #[.bool (X 0), .string (Y 0), .string (Z 0), .bool (X 1), .string (Y 1), .string (Z 1), .bool (X 2), .string (Y 2), .string (Z 2)], .int .i64 0])) := by
 have HT := shut ht
 have ht0 := shut (show 1 < w.heap.size by
  rcases Nat.lt_or_ge 1 w.heap.size with q | q
  ·exact q
  ·rw [Array.getElem?_eq_none q] at ht; cases ht)
 clear ht
 go_enter Tryz.func16, Tryz.ntmps16
 go_upto_region 1 with fail
 obtain ⟨w0, hq, kf, ka, kb, kc, kr, bb⟩ := mk5 w [.bool n0, .string s0, .string d0, .bool n1, .string s1, .string d1, .bool n2, .string s2, .string d2, .bool n3, .string s3, .string d3, .bool n4, .string s4, .string d4, .bool n5, .string s5, .string d5] [.bool p0, .string q0, .string r0, .bool p1, .string q1, .string r1] [.bool p2, .string q2, .string r2, .bool p3, .string q3, .string r3] [.bool p4, .string q4, .string r4, .bool p5, .string q5, .string r5] [.bool false, .string { data := #[] }, .string { data := #[] }, .bool false, .string { data := #[] }, .string { data := #[] }, .bool false, .string { data := #[] }, .string { data := #[] }] 28 30 30 30 43
 rw [← hq]
 clear hq
 obtain ⟨x0, x1, x2, x3, x4, x5⟩ := xk6 ka
 obtain ⟨y0, y1, y2, y3, y4, y5⟩ := xk6 kb
 obtain ⟨z0, z1, z2, z3, z4, z5⟩ := xk6 kc
 go_wp2_with (refine wpList_load_row rfl 28 _ rfl _ rfl 28 _ (0, 0) _ kf Tryz.underlying28 rfl (by kernel_rfl) ?_)
 clear x0 x1 x2 x3 x4 x5 y0 y1 y2 y3 y4 y5 z0 z1 z2 z3 z4 z5
 clear kf ka kb kc
 go_fit (HS.out _ bb)
 rintro e w1 ⟨g, gy, c, a2, l2, c2, a3, l3, c3, rfl, sp, b1⟩
 replace sp := shut sp
 replace kr := kr.below b1
 replace bb := Below.after bb b1
 clear b1
 have t1 := shut kr.lt
 go_upto_region 4 with fail
 obtain ⟨w2, hq, ks, b1⟩ := mk1 w1 [.slice (some ⟨g, 0, none⟩) 6 c, .slice (some ⟨gy, 0, none⟩) 3 3, .bool false, .slice a2 l2 c2, .bool false, .slice a3 l3 c3] 81
 rw [← hq]
 clear hq
 replace sp := shut (SPb _ _ _ _ _ _ _ _ _ _ _ sp.out b1)
 replace kr := kr.below b1
 replace bb := Below.after bb b1
 clear b1
 have t2 := shut ks.lt
 have t2r := shut kr.lt
 go_upto_region 5 with fail
 obtain ⟨w3, hq, ko, b2⟩ := mk1 w2 [.bool false, .string { data := #[] }, .string { data := #[] }, .bool false, .string { data := #[] }, .string { data := #[] }, .bool false, .string { data := #[] }, .string { data := #[] }] 43
 rw [← hq]
 clear hq
 have bb2 := bb
 clear bb
 have hn1 : w1.heap.size ≠ w2.heap.size := by have := t2.out; omega
 have hnr : w.heap.size + 1 + 1 + 1 + 1 ≠ w2.heap.size := by have := t2r.out; omega
 go_wp2_with (refine wpList_load_row rfl 86 _ rfl 1 rfl tg _ fr _ (hp_bel HT.out (Below.after bb2 b2) ht0.out) Tryz.underlying86 rfl (by kernel_rfl) ?_)
 have hI : Hid (∀ k w1, k < 3 → (Instr.index 86 (.agg #[.int .i64 2, .int .i64 (-1), .int .i64 (-1), .int .i64 8, .int .i64 4, .int .i64 8, .int .i64 (-1), .int .i64 2, .int .i64 (-1), .int .i64 8, .int .i64 8, .int .i64 4, .int .i64 (-1), .int .i64 (-1), .int .i64 2, .int .i64 4, .int .i64 8, .int .i64 8]) (.int .i64 (k : Nat))).run Tryz.prog w1 = .ok (.agg #[.int .i64 (ldW k 0), .int .i64 (ldW k 1), .int .i64 (ldW k 2), .int .i64 (ldW k 3), .int .i64 (ldW k 4), .int .i64 (ldW k 5)]) w1) := fun k w1 hk => ld_row k hk w1
 clear HT ht0
 generalize (#[.int .i64 2, .int .i64 (-1), .int .i64 (-1), .int .i64 8, .int .i64 4, .int .i64 8, .int .i64 (-1), .int .i64 2, .int .i64 (-1), .int .i64 8, .int .i64 8, .int .i64 4, .int .i64 (-1), .int .i64 (-1), .int .i64 2, .int .i64 4, .int .i64 8, .int .i64 8] : Array Value) = TQ at *
 refine wp_loop_rounds 4 ?_
 rw [rounds_succ]
 go_upto_region 8 with (refine wpList_indexA rfl 86 _ _ rfl TQ 0 rfl rfl _ (hI.out 0 _ (by omega)) ?_)
 obtain ⟨u0, hq, kw, b1⟩ := mk1 w3 [.int .i64 (ldW 0 0), .int .i64 (ldW 0 1), .int .i64 (ldW 0 2), .int .i64 (ldW 0 3), .int .i64 (ldW 0 4), .int .i64 (ldW 0 5)] 62
 rw [← hq]
 clear hq
 replace ko := ko.below b1
 replace b2 := Below.after b2 b1
 clear b1
 have bd := bdrew u0
 replace ko := ko.below bd
 replace kw := kw.below bd
 replace b2 := Below.after b2 bd
 clear bd
 refine wp_region_held_drew (S := fun w' => xc6 w' w1.heap.size (.slice (some ⟨g, 0, none⟩) 6 c) (.slice (some ⟨gy, 0, none⟩) 3 3) (.bool false) (.slice a2 l2 c2) (.bool false) (.slice a3 l3 c3)) (by kernel_rfl) (xk6 (ks.below b2)) (fun hS => ?_)
 generalize u0.drew = y0 at *
 refine WA.start (n := 6) (by kernel_rfl) ?_
 refine WA.tp 0 rfl ?_
 refine WA.tp 1 rfl ?_
 refine WA.tp 2 rfl ?_
 clear hS
 refine WA.cal 3 rfl (fun K hK => ?_)
 simp only [List.getElem_toArray, List.getElem_cons_succ, List.getElem_cons_zero]
 go_simp
 go_fit (HL.out 0 _ _ _ _ _ _ _ _ _ _ _ (by omega) (Below.after bb2 b2) (SPb _ _ _ _ _ _ _ _ _ _ _ sp.out b2) kw)
 rintro e w4_0 ⟨rfl, b1⟩
 clear kw
 replace ko := ko.below b1
 replace b2 := Below.after b2 b1
 clear b1
 try go_wp2_with fail
 refine hK.out _ _ (xk6 (ks.below b2)) (fun hS => ?_)
 clear hK K
 refine WA.tp 4 rfl ?_
 clear hS
 have e0 := ko.cell 0
 have e1 := ko.cell 1
 have e2 := ko.cell 2
 simp only [List.getElem?_cons_zero, List.getElem?_cons_succ] at e0 e1 e2
 have f0 := Cel.frozen ko 0
 have f1 := Cel.frozen ko 1
 have f2 := Cel.frozen ko 2
 refine WA.cal 5 rfl (fun K hK => ?_)
 simp only [List.getElem_toArray, List.getElem_cons_succ, List.getElem_cons_zero]
 go_simp
 try go_wp2_with fail
 clear e0 e1 e2 f0 f1 f2
 have ks' := ks.below b2
 refine hK.out _ _ (xk6 (((ks'.other hn1 0 _).other hn1 1 _).other hn1 2 _)) (fun hS => ?_)
 clear hK K ks'
 refine WA.done (by kernel_rfl) ?_
 clear hS
 obtain ⟨x1, hw⟩ : ∃ x, x = ((w4_0.setCell ⟨w2.heap.size, 0, none⟩ (.bool (X 0))).setCell ⟨w2.heap.size, 1, none⟩ (.string (Y 0))).setCell ⟨w2.heap.size, 2, none⟩ (.string (Z 0)) := ⟨_, rfl⟩
 rw [← hw]
 replace ko : Cel _ (w2.heap.size) [.bool (X 0), .string (Y 0), .string (Z 0), .bool false, .string { data := #[] }, .string { data := #[] }, .bool false, .string { data := #[] }, .string { data := #[] }] 43 := ((ko.set 0 (.bool (X 0))).set 1 (.string (Y 0))).set 2 (.string (Z 0))
 replace b2 := bset (bset (bset b2 (Nat.le_refl w2.heap.size) 0 (.bool (X 0))) (Nat.le_refl w2.heap.size) 1 (.string (Y 0))) (Nat.le_refl w2.heap.size) 2 (.string (Z 0))
 rw [← hw] at ko b2
 clear hw
 go_wp2_with fail
 rw [rounds_succ]
 go_upto_region 8 with (refine wpList_indexA rfl 86 _ _ rfl TQ 1 rfl rfl _ (hI.out 1 _ (by omega)) ?_)
 obtain ⟨u1, hq, kw, b1⟩ := mk1 x1 [.int .i64 (ldW 1 0), .int .i64 (ldW 1 1), .int .i64 (ldW 1 2), .int .i64 (ldW 1 3), .int .i64 (ldW 1 4), .int .i64 (ldW 1 5)] 62
 rw [← hq]
 clear hq
 replace ko := ko.below b1
 replace b2 := Below.after b2 b1
 clear b1
 have bd := bdrew u1
 replace ko := ko.below bd
 replace kw := kw.below bd
 replace b2 := Below.after b2 bd
 clear bd
 refine wp_region_held_drew (S := fun w' => xc6 w' w1.heap.size (.slice (some ⟨g, 0, none⟩) 6 c) (.slice (some ⟨gy, 0, none⟩) 3 3) (.bool false) (.slice a2 l2 c2) (.bool false) (.slice a3 l3 c3)) (by kernel_rfl) (xk6 (ks.below b2)) (fun hS => ?_)
 generalize u1.drew = y1 at *
 refine WA.start (n := 6) (by kernel_rfl) ?_
 refine WA.tp 0 rfl ?_
 refine WA.tp 1 rfl ?_
 refine WA.tp 2 rfl ?_
 clear hS
 refine WA.cal 3 rfl (fun K hK => ?_)
 simp only [List.getElem_toArray, List.getElem_cons_succ, List.getElem_cons_zero]
 go_simp
 go_fit (HL.out 1 _ _ _ _ _ _ _ _ _ _ _ (by omega) (Below.after bb2 b2) (SPb _ _ _ _ _ _ _ _ _ _ _ sp.out b2) kw)
 rintro e w4_1 ⟨rfl, b1⟩
 clear kw
 replace ko := ko.below b1
 replace b2 := Below.after b2 b1
 clear b1
 try go_wp2_with fail
 refine hK.out _ _ (xk6 (ks.below b2)) (fun hS => ?_)
 clear hK K
 refine WA.tp 4 rfl ?_
 clear hS
 have e0 := ko.cell 3
 have e1 := ko.cell 4
 have e2 := ko.cell 5
 simp only [List.getElem?_cons_zero, List.getElem?_cons_succ] at e0 e1 e2
 have f0 := Cel.frozen ko 3
 have f1 := Cel.frozen ko 4
 have f2 := Cel.frozen ko 5
 refine WA.cal 5 rfl (fun K hK => ?_)
 simp only [List.getElem_toArray, List.getElem_cons_succ, List.getElem_cons_zero]
 go_simp
 try go_wp2_with fail
 clear e0 e1 e2 f0 f1 f2
 have ks' := ks.below b2
 refine hK.out _ _ (xk6 (((ks'.other hn1 3 _).other hn1 4 _).other hn1 5 _)) (fun hS => ?_)
 clear hK K ks'
 refine WA.done (by kernel_rfl) ?_
 clear hS
 obtain ⟨x2, hw⟩ : ∃ x, x = ((w4_1.setCell ⟨w2.heap.size, 3, none⟩ (.bool (X 1))).setCell ⟨w2.heap.size, 4, none⟩ (.string (Y 1))).setCell ⟨w2.heap.size, 5, none⟩ (.string (Z 1)) := ⟨_, rfl⟩
 rw [← hw]
 replace ko : Cel _ (w2.heap.size) [.bool (X 0), .string (Y 0), .string (Z 0), .bool (X 1), .string (Y 1), .string (Z 1), .bool false, .string { data := #[] }, .string { data := #[] }] 43 := ((ko.set 3 (.bool (X 1))).set 4 (.string (Y 1))).set 5 (.string (Z 1))
 replace b2 := bset (bset (bset b2 (Nat.le_refl w2.heap.size) 3 (.bool (X 1))) (Nat.le_refl w2.heap.size) 4 (.string (Y 1))) (Nat.le_refl w2.heap.size) 5 (.string (Z 1))
 rw [← hw] at ko b2
 clear hw
 go_wp2_with fail
 rw [rounds_succ]
 go_upto_region 8 with (refine wpList_indexA rfl 86 _ _ rfl TQ 2 rfl rfl _ (hI.out 2 _ (by omega)) ?_)
 obtain ⟨u2, hq, kw, b1⟩ := mk1 x2 [.int .i64 (ldW 2 0), .int .i64 (ldW 2 1), .int .i64 (ldW 2 2), .int .i64 (ldW 2 3), .int .i64 (ldW 2 4), .int .i64 (ldW 2 5)] 62
 rw [← hq]
 clear hq
 replace ko := ko.below b1
 replace b2 := Below.after b2 b1
 clear b1
 have bd := bdrew u2
 replace ko := ko.below bd
 replace kw := kw.below bd
 replace b2 := Below.after b2 bd
 clear bd
 refine wp_region_held_drew (S := fun w' => xc6 w' w1.heap.size (.slice (some ⟨g, 0, none⟩) 6 c) (.slice (some ⟨gy, 0, none⟩) 3 3) (.bool false) (.slice a2 l2 c2) (.bool false) (.slice a3 l3 c3)) (by kernel_rfl) (xk6 (ks.below b2)) (fun hS => ?_)
 generalize u2.drew = y2 at *
 refine WA.start (n := 6) (by kernel_rfl) ?_
 refine WA.tp 0 rfl ?_
 refine WA.tp 1 rfl ?_
 refine WA.tp 2 rfl ?_
 clear hS
 refine WA.cal 3 rfl (fun K hK => ?_)
 simp only [List.getElem_toArray, List.getElem_cons_succ, List.getElem_cons_zero]
 go_simp
 go_fit (HL.out 2 _ _ _ _ _ _ _ _ _ _ _ (by omega) (Below.after bb2 b2) (SPb _ _ _ _ _ _ _ _ _ _ _ sp.out b2) kw)
 rintro e w4_2 ⟨rfl, b1⟩
 clear kw
 replace ko := ko.below b1
 replace b2 := Below.after b2 b1
 clear b1
 try go_wp2_with fail
 refine hK.out _ _ (xk6 (ks.below b2)) (fun hS => ?_)
 clear hK K
 refine WA.tp 4 rfl ?_
 clear hS
 have e0 := ko.cell 6
 have e1 := ko.cell 7
 have e2 := ko.cell 8
 simp only [List.getElem?_cons_zero, List.getElem?_cons_succ] at e0 e1 e2
 have f0 := Cel.frozen ko 6
 have f1 := Cel.frozen ko 7
 have f2 := Cel.frozen ko 8
 refine WA.cal 5 rfl (fun K hK => ?_)
 simp only [List.getElem_toArray, List.getElem_cons_succ, List.getElem_cons_zero]
 go_simp
 try go_wp2_with fail
 clear e0 e1 e2 f0 f1 f2
 have ks' := ks.below b2
 refine hK.out _ _ (xk6 (((ks'.other hn1 6 _).other hn1 7 _).other hn1 8 _)) (fun hS => ?_)
 clear hK K ks'
 refine WA.done (by kernel_rfl) ?_
 clear hS
 obtain ⟨x3, hw⟩ : ∃ x, x = ((w4_2.setCell ⟨w2.heap.size, 6, none⟩ (.bool (X 2))).setCell ⟨w2.heap.size, 7, none⟩ (.string (Y 2))).setCell ⟨w2.heap.size, 8, none⟩ (.string (Z 2)) := ⟨_, rfl⟩
 rw [← hw]
 replace ko : Cel _ (w2.heap.size) [.bool (X 0), .string (Y 0), .string (Z 0), .bool (X 1), .string (Y 1), .string (Z 1), .bool (X 2), .string (Y 2), .string (Z 2)] 43 := ((ko.set 6 (.bool (X 2))).set 7 (.string (Y 2))).set 8 (.string (Z 2))
 replace b2 := bset (bset (bset b2 (Nat.le_refl w2.heap.size) 6 (.bool (X 2))) (Nat.le_refl w2.heap.size) 7 (.string (Y 2))) (Nat.le_refl w2.heap.size) 8 (.string (Z 2))
 rw [← hw] at ko b2
 clear hw
 go_wp2_with fail
 rw [rounds_succ]
 have bR := Below.after bb2 b2
 have krr := kr.below b2
 clear kr b2 bb2 sp ks t2 t2r
 have e0 := krr.cell 0
 have f0 := Cel.frozen krr 0
 have c0 := ko.cell 0
 have e1 := krr.cell 1
 have f1 := Cel.frozen krr 1
 have c1 := ko.cell 1
 have e2 := krr.cell 2
 have f2 := Cel.frozen krr 2
 have c2 := ko.cell 2
 have e3 := krr.cell 3
 have f3 := Cel.frozen krr 3
 have c3 := ko.cell 3
 have e4 := krr.cell 4
 have f4 := Cel.frozen krr 4
 have c4 := ko.cell 4
 have e5 := krr.cell 5
 have f5 := Cel.frozen krr 5
 have c5 := ko.cell 5
 have e6 := krr.cell 6
 have f6 := Cel.frozen krr 6
 have c6 := ko.cell 6
 have e7 := krr.cell 7
 have f7 := Cel.frozen krr 7
 have c7 := ko.cell 7
 have e8 := krr.cell 8
 have f8 := Cel.frozen krr 8
 have c8 := ko.cell 8
 simp only [List.getElem?_cons_zero, List.getElem?_cons_succ] at e0 c0 e1 c1 e2 c2 e3 c3 e4 c4 e5 c5 e6 c6 e7 c7 e8 c8
 go_wp2_with fail
 try go_wp2
 exact post_a9 (p := 8) (u := 9) (v := .int .i64 0) (by kernel_rfl) rfl rfl rfl ((((((((((krr.set 0 _).set 1 _).set 2 _).set 3 _).set 4 _).set 5 _).set 6 _).set 7 _).set 8 _)) rfl ⟨rfl, bset (bset (bset (bset (bset (bset (bset (bset (bset (bR) (by omega) 0 _) (by omega) 1 _) (by omega) 2 _) (by omega) 3 _) (by omega) 4 _) (by omega) 5 _) (by omega) 6 _) (by omega) 7 _) (by omega) 8 _⟩
def noI (u : Value) : Prop := ∀ k x, u ≠ .int k x
def NI (w : World) (g : Nat) : Prop := ∀ i u, w.cell? ⟨g, i, none⟩ = some u → noI u
theorem noI_b (b : Bool) : noI (.bool b) := fun _ _ h => by cases h
theorem noI_s (a : Option Addr) (l c : Nat) : noI (.slice a l c) := fun _ _ h => by cases h
theorem cell_at {w : World} {g : Nat} {cs : Array Value} {t : TypeId} {fr : Nat × Nat} (h : w.heap[g]? = some (.cells cs t fr)) (i : Nat) : w.cell? ⟨g, i, none⟩ = cs[i]? := by
 simp [World.cell?, h]
theorem noI_zero {n : Nat} {u : Value} (h : u ∈ (Builtin.zeroCells #[.bool false, .slice none 0 0] n).toList) : noI u := by
 unfold Builtin.zeroCells at h
 simp only [Array.toList_map, List.mem_map] at h
 obtain ⟨k, -, rfl⟩ := h
 rcases Nat.mod_two_eq_zero_or_one k with e | e
 ·rw [show k % (#[Value.bool false, .slice none 0 0] : Array Value).size = 0 from e]; exact noI_b _
 ·rw [show k % (#[Value.bool false, .slice none 0 0] : Array Value).size = 1 from e]; exact noI_s _ _ _
theorem ni_of {w : World} {g : Nat} {cs : Array Value} {t : TypeId} {fr : Nat × Nat} (h : w.heap[g]? = some (.cells cs t fr)) (hc : ∀ u ∈ cs.toList, noI u) : NI w g := fun i u hu => by
 rw [cell_at h] at hu
 exact hc u (by rw [Array.mem_toList_iff]; exact Array.mem_of_getElem? hu)
theorem of_ni {w : World} {g : Nat} {cs : Array Value} {t : TypeId} {fr : Nat × Nat} (h : w.heap[g]? = some (.cells cs t fr)) (hn : NI w g) : ∀ u ∈ cs.toList, noI u := fun u hu => by
 rw [Array.mem_toList_iff] at hu
 obtain ⟨i, hi⟩ := Array.mem_iff_getElem?.1 hu
 exact hn i u (by rw [cell_at h]; exact hi)
theorem run_append_ni {P : Program} (w : World) (base : Nat) (t ty e : TypeId) (i : TypeInfo) (z : Value) (ht : P.underlying t = some (.slice e)) (hi : P.info? e = some i) (hz : i.zero = some z)
  (hz' : z.cells = #[.bool false, .slice none 0 0]) (v : Value) (n : Nat) (xs : List Value) (hown : w.ownsRow base e i.size v n xs)
  (a : Addr) (m c : Nat) (news : List Value) (hl : news.length = m * i.size) (hnews : ∀ j u, news[j]? = some u → w.cell? (a.add j) = some u) (h1 : ∀ u ∈ news, u.oneCell' = true)
  (h63 : n + m ≤ maxLen) (hbytes : (n + m) * i.bytes ≤ 140737488355328) (hN : ∀ g, v.ownBlock = some g → NI w g) (hw : ∀ u ∈ news, noI u) {v' : Value} {w' : World}
  (hr : (Builtin.append_ #[t, t] ty #[v, .slice (some a) m c]).run P w = .ok v' w') : ∀ g, v'.ownBlock = some g → NI w' g := by
 have hsmall : n + m ≤ 9223372036854775807 := by simp only [maxLen] at h63; omega
 rcases hown.2 with ⟨rfl, rfl⟩ | ⟨g, cap, cur, rfl, hbg, hg, hnc, hcm, hcs, htake⟩
 ·by_cases hm : m = 0
  ·subst hm
   have e2 : (Builtin.append_ #[t, t] ty #[.slice none 0 0, .slice (some a) 0 c]).run P w = .ok (.slice none 0 0) w := by
    simp [Builtin.append_, run_underlying ht, sizeOf, typeInfo, hi, Builtin.lenOf, Builtin.firstCells, loadCells, loadCellsFrom]
   rw [e2] at hr
   injection hr with h2 h3
   subst h2
   intro g hg
   cases hg
  ·have e2 := run_append_nil (P := P) w t ty e i z ht hi hz a m c news hl hnews (by omega) (by omega) (by have hb := hbytes; simp only [Nat.zero_add] at hb; omega)
   rw [e2] at hr
   injection hr with h2 h3
   subst h2 h3
   intro g hg
   injection hg with hg
   subst hg
   refine ni_of (heap_alloc_new w.drew _) (fun u hu => ?_)
   simp only [Array.toList_append, List.mem_append] at hu
   rcases hu with hu | hu
   ·exact hw u (by simpa using hu)
   ·rw [hz'] at hu
    exact noI_zero hu
 ·have hN := of_ni hg (hN g rfl)
  by_cases hroom : n + m ≤ cap
  ·have hfit : n * i.size + news.length ≤ cur.size := by rw [hl, hcs, ← Nat.add_mul]; exact Nat.mul_le_mul_right _ hroom
   have e2 := run_append_room (P := P) w t ty e i ht hi g n cap cur hg a m c news hl hnews h1 hroom hfit
   rw [e2] at hr
   injection hr with h2 h3
   subst h2 h3
   intro g' hg'
   injection hg' with hg'
   subst hg'
   refine ni_of (setRow_heap w g cur _ e _ hg) (fun u hu => ?_)
   simp only [List.append_assoc, List.mem_append] at hu
   rcases hu with hu | hu | hu
   ·exact hN u (List.mem_of_mem_take hu)
   ·exact hw u hu
   ·exact hN u (List.mem_of_mem_drop hu)
  ·have holds : ∀ j u, xs[j]? = some u → w.cell? ((⟨g, 0, none⟩ : Addr).add j) = some u := hown.cells (g := g) rfl
   have e2 := run_append_grow (P := P) w t ty e i z ht hi hz ⟨g, 0, none⟩ n cap xs hown.1 holds a m c news hl hnews (by omega) (by omega) (growslice_fits (by omega) hbytes)
   rw [e2] at hr
   injection hr with h2 h3
   subst h2 h3
   intro g' hg'
   injection hg' with hg'
   subst hg'
   refine ni_of (heap_alloc_new w.drew _) (fun u hu => ?_)
   simp only [Array.toList_append, List.mem_append] at hu
   rcases hu with (hu | hu) | hu
   ·exact hN u (List.mem_of_mem_take (by rw [htake]; simpa using hu))
   ·exact hw u (by simpa using hu)
   ·rw [hz'] at hu
    exact noI_zero hu
def fn2 (N : Nat → Bool) (v : Nat → Value) (i : Nat) : Value := if i % 2 = 0 then .bool (N (i / 2)) else v (i / 2)
def fln (n : Nat) (N : Nat → Bool) (v : Nat → Value) : List Value := (List.range (n * 2)).map (fn2 N v)
theorem fln_get {n : Nat} {N : Nat → Bool} {v : Nat → Value} {i : Nat} {u : Value} (h : (fln n N v)[i]? = some u) : i < n * 2 ∧ u = fn2 N v i := by
 unfold fln at h
 rw [List.getElem?_map] at h
 rcases Nat.lt_or_ge i (n * 2) with hi | hi
 ·rw [List.getElem?_range hi] at h
  simp at h
  exact ⟨hi, h.symm⟩
 ·rw [List.getElem?_eq_none (by simpa using hi)] at h
  cases h
theorem rdn_cell {w : World} {b off n : Nat} {N : Nat → Bool} {v : Nat → Value} (h : RdN w (some ⟨b, off, none⟩) n N v) {i : Nat} (hi : i < n * 2) : w.cell? ⟨b, off + i, none⟩ = some (fn2 N v i) := by
 obtain ⟨b', off', e, h0, h1⟩ := h (i / 2) (by omega)
 injection e with e
 injection e with e1 e2
 subst e1 e2
 unfold fn2
 rcases Nat.mod_two_eq_zero_or_one i with e | e
 ·rw [if_pos e]
  rwa [show i / 2 * 2 = i by omega] at h0
 ·rw [if_neg (by omega)]
  rwa [show off + i / 2 * 2 + 1 = off + i by omega] at h1
theorem rdn_of {w : World} {b off n : Nat} {N : Nat → Bool} {v : Nat → Value} (h : ∀ i, i < n * 2 → w.cell? ⟨b, off + i, none⟩ = some (fn2 N v i)) : RdN w (some ⟨b, off, none⟩) n N v := fun j hj => by
 refine ⟨b, off, rfl, ?_, ?_⟩
 ·rw [h (j * 2) (by omega)]; unfold fn2; rw [if_pos (by omega), show j * 2 / 2 = j by omega]
 ·rw [Nat.add_assoc, h (j * 2 + 1) (by omega)]; unfold fn2; rw [if_neg (by omega), show (j * 2 + 1) / 2 = j by omega]
theorem fln_noI {n : Nat} {N : Nat → Bool} {v : Nat → Value} (hv : ∀ q, q < n → ∃ a l c, v q = .slice a l c) {u : Value} (h : u ∈ fln n N v) : noI u ∧ u.oneCell' = true := by
 obtain ⟨i, hi⟩ := List.mem_iff_getElem?.1 h
 obtain ⟨h1, rfl⟩ := fln_get hi
 unfold fn2
 split
 ·exact ⟨noI_b _, rfl⟩
 ·obtain ⟨a, l, c, e⟩ := hv (i / 2) (by omega)
  rw [e]
  exact ⟨noI_s _ _ _, rfl⟩
theorem wp_apNum {w : World} {o : Oper} {a : Act} {K : Act → World → Prop} {Q : Exit → Act → World → Prop} (s x : Operand)
  (hop : o.op = Op.call { callee := Callee.builtin Builtin.append, args := #[s, x], argTypes := #[65, 65] })
  (sv : Value) (n : Nat) (vs : List Value) (hs : a.eval s = sv) (B : Nat) (hown : w.ownsRow B 68 2 sv n vs) (hB : B ≤ w.heap.size) (b off m c : Nat) (N : Nat → Bool) (v : Nat → Value) (hx : a.eval x = .slice (some ⟨b, off, none⟩) m c)
  (hc : RdN w (some ⟨b, off, none⟩) m N v) (hv : ∀ q, q < m → ∃ a l c, v q = .slice a l c) (hn : n + m ≤ 1000000) (hN : ∀ g, sv.ownBlock = some g → NI w g)
  (hK : ∀ v' w', w'.ownsRow B 68 2 v' (n + m) (vs ++ fln m N v) → w.grownBy w' sv.ownBlock → (∀ g, v'.ownBlock = some g → NI w' g) → K (a.put o.dst v') w') :
  o.wp Tryz.prog a w K Q := by
 obtain ⟨i0, hi, hz0, hz1, hz2⟩ := info_parts (show (Tryz.prog.info? 68).map (fun i => (i.zero, i.size, i.bytes)) = some (some (.agg #[.bool false, .slice none 0 0]), 2, 32) by kernel_rfl)
 have hl : (fln m N v).length = m * 2 := by simp [fln]
 have hnews : ∀ j u, (fln m N v)[j]? = some u → w.cell? ((⟨b, off, none⟩ : Addr).add j) = some u := fun j u hj => by
  obtain ⟨h1, rfl⟩ := fln_get hj
  rw [add_at]
  exact rdn_cell hc h1
 obtain ⟨v', w', hr, h2, h3, -⟩ := run_append_own (P := Tryz.prog) w B 65 o.type 68 i0 (.agg #[.bool false, .slice none 0 0]) 2 32 Tryz.underlying65 hi hz0 hz1 hz2 (by rw [cellsN0]; rfl) (by decide) sv n vs hown ⟨b, off, none⟩ m c (fln m N v) hl hnews (fun u hu => (fln_noI hv hu).2) (by unfold maxLen; omega) (by omega) hB
 have h4 := run_append_ni (P := Tryz.prog) w B 65 o.type 68 i0 (.agg #[.bool false, .slice none 0 0]) Tryz.underlying65 hi hz0 cellsN0 sv n vs (by rw [hz1]; exact hown) ⟨b, off, none⟩ m c (fln m N v) (by rw [hz1]; exact hl) hnews (fun u hu => (fln_noI hv hu).2) (by unfold maxLen; omega) (by rw [hz2]; omega) hN (fun u hu => (fln_noI hv hu).1) hr
 unfold Oper.wp execOp
 simp only [hop, resolve, invoke, builtin, Sem.run_bind, Sem.run_pure, Result.andThen_ok, List.map_toArray, List.map_cons, List.map_nil, hs, hx, hr]
 exact hK v' w' h2 h3 h4
theorem wpList_apNum {w : World} {ops : Array Oper} {rest : List Oper} {o : Oper} {a : Act} {Q : Exit → Act → World → Prop}
  (hgd : o.guard = none) (s x : Operand) (hop : o.op = Op.call { callee := Callee.builtin Builtin.append, args := #[s, x], argTypes := #[65, 65] })
  (sv : Value) (n : Nat) (vs : List Value) (hs : a.eval s = sv) (B : Nat) (hown : w.ownsRow B 68 2 sv n vs) (hB : B ≤ w.heap.size) (b off m c : Nat) (N : Nat → Bool) (v : Nat → Value) (hx : a.eval x = .slice (some ⟨b, off, none⟩) m c)
  (hc : RdN w (some ⟨b, off, none⟩) m N v) (hv : ∀ q, q < m → ∃ a l c, v q = .slice a l c) (hn : n + m ≤ 1000000) (hN : ∀ g, sv.ownBlock = some g → NI w g)
  (hK : ∀ v' w', w'.ownsRow B 68 2 v' (n + m) (vs ++ fln m N v) → w.grownBy w' sv.ownBlock → (∀ g, v'.ownBlock = some g → NI w' g) → wpList Tryz.prog ops Q rest (a.put o.dst v') w') :
  wpList Tryz.prog ops Q (o :: rest) a w :=
 wpList_plain hgd fun _ hK' => wp_apNum s x hop sv n vs hs B hown hB b off m c N v hx hc hv hn hN fun v' w' h2 h3 h4 => hK' _ _ (hK v' w' h2 h3 h4)
def catn {α : Type} (n : Nat) (x y : Nat → α) : Nat → α := fun j => if j < n then x j else y (j - n)
theorem fln_cat (n m : Nat) (x y : Nat → Bool) (v u : Nat → Value) : fln n x v ++ fln m y u = fln (n + m) (catn n x y) (catn n v u) := by
 unfold fln
 rw [Nat.add_mul, List.range_add, List.map_append]
 congr 1
 ·refine List.map_congr_left fun i hi => ?_
  rw [List.mem_range] at hi
  unfold fn2 catn
  rw [if_pos (show i / 2 < n by omega), if_pos (show i / 2 < n by omega)]
 ·rw [List.map_map]
  refine List.map_congr_left fun i hi => ?_
  show fn2 y u i = fn2 (catn n x y) (catn n v u) (n * 2 + i)
  unfold fn2 catn
  rw [show (n * 2 + i) % 2 = i % 2 by omega, if_neg (show ¬ (n * 2 + i) / 2 < n by omega), if_neg (show ¬ (n * 2 + i) / 2 < n by omega), show (n * 2 + i) / 2 - n = i / 2 by omega]
theorem rdn_own {w : World} {B n g cap : Nat} {N : Nat → Bool} {v : Nat → Value} (h : w.ownsRow B 68 2 (.slice (some ⟨g, 0, none⟩) n cap) n (fln n N v)) : RdN w (some ⟨g, 0, none⟩) n N v := by
 refine rdn_of fun i hi => ?_
 have := h.cells (g := g) rfl i (fn2 N v i) (by unfold fln; rw [List.getElem?_map, List.getElem?_range hi]; rfl)
 rwa [add_at] at this
theorem own_slice {w : World} {B n : Nat} {v : Value} {xs : List Value} {t : TypeId} {k : Nat} (h : w.ownsRow B t k v n xs) (hn : 0 < n) : ∃ g cap, v = .slice (some ⟨g, 0, none⟩) n cap ∧ B ≤ g := by
 rcases h.2 with ⟨-, rfl⟩ | ⟨g, cap, cur, rfl, hb, -⟩
 ·omega
 ·exact ⟨g, cap, rfl, hb⟩
theorem own_cel {w : World} {B g n : Nat} {cs : List Value} {t : TypeId} {k : Nat} (h : Cel w g cs t) (hB : B ≤ g) (hl : cs.length = n * k) (hn : n ≤ 1000000) : w.ownsRow B t k (.slice (some ⟨g, 0, none⟩) n n) n cs := by
 refine ⟨hl, .inr ⟨g, n, cs.toArray, rfl, hB, h, Nat.le_refl _, by unfold maxLen; omega, by simpa using hl, ?_⟩⟩
 rw [← hl]
 simp
theorem ni_cel {w : World} {g : Nat} {cs : List Value} {t : TypeId} (h : Cel w g cs t) (hc : ∀ u ∈ cs, noI u) : NI w g := ni_of h (fun u hu => hc u (by simpa using hu))
theorem NV.grown {w w' : World} {n : Bool} {u : Value} {z : Int} {L : Nat} {row : Option Nat} (h : NV w n u z L) (hg : w.grownBy w' row) (hN : ∀ g, row = some g → NI w g) : NV w' n u z L := by
 obtain ⟨k, ⟨a, cap, rfl, hcap, hc⟩, h1, h2⟩ := h
 refine ⟨k, ⟨a, cap, rfl, hcap, fun j hj => ?_⟩, h1, h2⟩
 obtain ⟨b, off, rfl, hcell⟩ := hc j hj
 exact ⟨b, off, rfl, hg.cell hcell (fun e => hN b e.symm _ _ hcell _ _ rfl)⟩
theorem wpList_apM {w : World} {ops : Array Oper} {rest : List Oper} {o : Oper} {a : Act} {Q : Exit → Act → World → Prop}
  (hg : o.guard = none) (s x : Operand) (hop : o.op = Op.call { callee := Callee.builtin Builtin.append, args := #[s, x], argTypes := #[65, 65] })
  (sv : Value) (n : Nat) (vs : List Value) (hs : a.eval s = sv) (B : Nat) (hown : w.ownsRow B 68 2 sv n vs) (hB : B ≤ w.heap.size) (b off m c : Nat) (N : Nat → Bool) (v : Nat → Value) (hx : a.eval x = .slice (some ⟨b, off, none⟩) m c)
  (hc : RdN w (some ⟨b, off, none⟩) m N v) (hv : ∀ q, q < m → ∃ a l c, v q = .slice a l c) (hn : n + m ≤ 1000000)
  (hK : ∀ v' w', w'.ownsRow B 68 2 v' (n + m) (vs ++ fln m N v) → w.grownBy w' sv.ownBlock → (v' = .slice none 0 0 ↔ sv = .slice none 0 0 ∧ m = 0) → wpList Tryz.prog ops Q rest (a.put o.dst v') w') :
  wpList Tryz.prog ops Q (o :: rest) a w := by
 obtain ⟨i0, hi, hz0, hz1, hz2⟩ := info_parts (show (Tryz.prog.info? 68).map (fun i => (i.zero, i.size, i.bytes)) = some (some (.agg #[.bool false, .slice none 0 0]), 2, 32) by kernel_rfl)
 refine wpList_append_own _ hg s x 65 hop B 68 i0 (.agg #[.bool false, .slice none 0 0]) 2 32 Tryz.underlying65 hi hz0 hz1 hz2 (by rw [cellsN0]; rfl) (by decide) sv n vs hs hown ⟨b, off, none⟩ m c (fln m N v) hx (by simp [fln]) ?_ ?_ ?_ ?_ hB hK
 ·intro j u hj
  obtain ⟨h1, rfl⟩ := fln_get hj
  rw [add_at]
  exact rdn_cell hc h1
 ·exact fun u hu => (fln_noI hv hu).2
 ·unfold maxLen; omega
 ·omega
theorem grow_num (n : Nat) (w : World) (h0 : 0 < n) (hn : n ≤ 100000) :
  Calls Tryz.prog 110 #[.slice none 0 0, .int .i64 n] w fun e w' => ∃ cap, e = .returned (.slice (some ⟨w.heap.size, 0, none⟩) 0 cap) ∧ w'.ownsRow w.heap.size 68 2 (.slice (some ⟨w.heap.size, 0, none⟩) 0 cap) 0 [] ∧ Below w.heap.size w w' := by
 obtain ⟨i0, hi, hz0, hz1, hz2⟩ := info_parts (show (Tryz.prog.info? 68).map (fun i => (i.zero, i.size, i.bytes)) = some (some (.agg #[.bool false, .slice none 0 0]), 2, 32) by kernel_rfl)
 have happ := Lib.run_append_nil_zeros (P := Tryz.prog) w 65 3 65 68 i0 (.agg #[.bool false, .slice none 0 0]) .i64 .i64 Tryz.underlying65 Tryz.underlying3 hi hz0 n h0 (by omega) (by omega) (by rw [hz2]; omega)
 generalize hcap : grownCap w n 0 68 = cap at happ
 have hge : n ≤ cap := by rw [← hcap]; exact grownCap_ge w _ 0 _
 have hle : cap ≤ maxLen := by rw [← hcap]; exact grownCap_le_maxLen w _ 0 _ (by unfold maxLen; omega)
 rw [cellsN0] at happ
 generalize hZ : (Builtin.zeroCells #[Value.bool false, .slice none 0 0] n ++ Builtin.zeroCells #[Value.bool false, .slice none 0 0] (cap - n)) = Z at happ
 have hZs : Z.size = cap * 2 := by rw [← hZ]; simp [size_zeroCells]; omega
 clear hcap hZ
 have HO : Hid ((w.drew.alloc (.cells Z 68)).ownsRow w.heap.size 68 2 (.slice (some ⟨w.heap.size, 0, none⟩) 0 cap) 0 []) := World.ownsRow_made w.drew Z cap (Nat.le_refl _) hle hZs
 have HB : Hid (Below w.heap.size w (w.drew.alloc (.cells Z 68))) := (bdrew w).alloc (Nat.le_refl _) _
 clear hle hZs
 go_enter Tryz.func110, Tryz.ntmps110
 go_wp2_with (at_builtin; refine Lib.wpList_append_run _ rfl _ _ _ _ rfl _ _ rfl rfl _ _ happ ?_)
 go_ret
 exact ⟨cap, rfl, HO.out, HB.out⟩
theorem concat_num (B b0 o0 n0 c0 b1 o1 n1 c1 : Nat) (N N' : Nat → Bool) (x y : Nat → Value) (w : World) (hB : Cel w B [.slice (some ⟨b0, o0, none⟩) n0 c0, .slice (some ⟨b1, o1, none⟩) n1 c1] 65)
  (h0 : RdN w (some ⟨b0, o0, none⟩) n0 N x) (h1 : RdN w (some ⟨b1, o1, none⟩) n1 N' y) (hx : ∀ q, q < n0 → ∃ a l c, x q = .slice a l c) (hy : ∀ q, q < n1 → ∃ a l c, y q = .slice a l c) (hp : 0 < n0 + n1) (hn : n0 + n1 ≤ 1000) :
  Calls Tryz.prog 69 #[.slice (some ⟨B, 0, none⟩) 2 2] w fun e w' => ∃ g cap, e = .returned (.slice (some ⟨g, 0, none⟩) (n0 + n1 : Nat) cap) ∧ n0 + n1 ≤ cap ∧ RdN w' (some ⟨g, 0, none⟩) (n0 + n1) (catn n0 N N') (catn n0 x y) ∧ w.heap.size ≤ g ∧ Below w.heap.size w w' := by
 have k0 := hB.cell 0
 have k1 := hB.cell 1
 simp only [List.getElem?_cons_zero, List.getElem?_cons_succ] at k0 k1
 replace h0 := shut h0
 replace hx := shut hx
 replace hy := shut hy
 replace h1 := shut h1
 have HG : Hid (∀ w : World, Calls Tryz.prog 110 #[.slice none 0 0, .int .i64 ((n0 : Int) + (n1 : Int))] w fun e w' => ∃ cap, e = .returned (.slice (some ⟨w.heap.size, 0, none⟩) 0 cap) ∧ w'.ownsRow w.heap.size 68 2 (.slice (some ⟨w.heap.size, 0, none⟩) 0 cap) 0 [] ∧ Below w.heap.size w w') := fun w => by
  have := grow_num (n0 + n1) w hp (by omega)
  rwa [Int.natCast_add] at this
 go_enter Tryz.func69, Tryz.ntmps69
 go_wp2_with fail
 refine wp_loop_rounds 3 ?_
 rw [rounds_succ]
 go_wp2_with fail
 rw [rounds_succ]
 go_wp2_with fail
 rw [rounds_succ]
 go_wp2_with fail
 go_fit (HG.out _)
 rintro e w1 ⟨cap, rfl, ho, b1⟩
 clear HG
 go_wp2_with fail
 go_loopw [6, 27] (fun v i wr => Below w.heap.size w wr ∧ v ≠ .slice none 0 0 ∧ ((i = .int .i64 0 ∧ wr.ownsRow w.heap.size 68 2 v 0 []) ∨ (i = .int .i64 1 ∧ wr.ownsRow w.heap.size 68 2 v n0 (fln n0 N x)) ∨ (i = .int .i64 2 ∧ wr.ownsRow w.heap.size 68 2 v (n0 + n1) (fln (n0 + n1) (catn n0 N N') (catn n0 x y))))) (fun _ i _ => 2 - (intOf i).toNat)
 case atStart => exact ⟨b1, by simp, Or.inl ⟨rfl, ho⟩⟩
 case round =>
  clear ho b1
  obtain ⟨bb, hv, hi⟩ := hrel
  replace k0 := cell_below k0 bb
  replace k1 := cell_below k1 bb
  have r0 := shut (h0.out.below bb)
  have r1 := shut (h1.out.below bb)
  replace hv := shut hv
  rcases hi with ⟨rfl, ho⟩ | ⟨rfl, ho⟩ | ⟨rfl, ho⟩
  ·replace ho := shut ho
   go_wp2_with (at_builtin; refine wpList_apM rfl _ _ rfl u6 0 [] rfl w.heap.size ho.out bb.size b0 o0 n0 c0 N x rfl r0.out hx.out (by omega) ?_; intro v' w2 o2 hg2 hnil)
   have B2 : Hid (Below w.heap.size w w2) := bb.grown hg2 bb.size (fun g hg => ownN_block ho.out g hg)
   have N2 : Hid (v' ≠ .slice none 0 0) := fun e => hv.out (hnil.1 e).1
   rw [List.nil_append, Nat.zero_add] at o2
   replace o2 := shut o2
   clear hg2 hnil ho hv k0 k1 bb
   go_wp2
   exact ⟨⟨B2.out, N2.out, Or.inr (Or.inl ⟨by go_num, o2.out⟩)⟩, by simp [intOf]⟩
  ·replace ho := shut ho
   go_wp2_with (at_builtin; refine wpList_apM rfl _ _ rfl u6 n0 (fln n0 N x) rfl w.heap.size ho.out bb.size b1 o1 n1 c1 N' y rfl r1.out hy.out (by omega) ?_; intro v' w2 o2 hg2 hnil)
   have B2 : Hid (Below w.heap.size w w2) := bb.grown hg2 bb.size (fun g hg => ownN_block ho.out g hg)
   have N2 : Hid (v' ≠ .slice none 0 0) := fun e => hv.out (hnil.1 e).1
   rw [fln_cat] at o2
   replace o2 := shut o2
   clear hg2 hnil ho hv k0 k1 bb
   go_wp2
   exact ⟨⟨B2.out, N2.out, Or.inr (Or.inr ⟨by go_num, o2.out⟩)⟩, by simp [intOf]⟩
  ·rcases id ho.2 with ⟨e, -⟩ | ⟨g, cap', cur, rfl, hg, hh, hc, -⟩
   ·exact absurd e hv.out
   ·have R := shut (rdn_own ho)
    clear ho hv hh
    go_wp2
    go_ret
    exact ⟨g, cap', rfl, hc, R.out, hg, bb⟩
theorem part_walk (va ya a2 a3 an : Option Addr) (vl vc yl yc l2 c2 l3 c3 ln cn : Nat) (f2 f3 fn : Bool) (parts zn A2 AB : Int) (b off m c : Nat) (N : Nat → Bool) (v : Nat → Value) (Z : Nat → Int) (L Lr : Nat) (rN : Bool) (rS rD : ByteArray) (w : World) (hm : m ≤ 100) (hL : L ≤ 900) (hLr : L + L ≤ Lr)
  (nn : NV w fn (.slice an ln cn) zn L) (n2 : NV w f2 (.slice a2 l2 c2) A2 L) (n3 : NV w f3 (.slice a3 l3 c3) AB L) (hr : RdN w (some ⟨b, off, none⟩) m N v) (hv : NVs w N v Z L m)
  (HS : Hid (∀ w1, Calls Tryz.prog 109 #[.int .i64 parts] w1 fun e w' => ∃ f a l c, e = .returned (.agg #[.bool f, .slice a l c]) ∧ NV w' f (.slice a l c) parts 1 ∧ Below w1.heap.size w1 w'))
  (HO : Hid (∀ w1 m0 v0 a' cap N' v', Below w.heap.size w w1 → NV w1 m0 v0 (zn * A2) Lr → RdN w1 a' (2 + m) N' v' → NVs w1 N' v' (catn 2 (tw2 parts AB) Z) Lr (2 + m) → Calls Tryz.prog 36 #[.agg #[.bool m0, v0], .slice a' (2 + m) cap] w1 (Re w1 (.agg #[.bool rN, .string rS, .string rD])))) (hL1 : 1 ≤ L) :
  Calls Tryz.prog 68 #[.agg #[.slice va vl vc, .slice ya yl yc, .bool f2, .slice a2 l2 c2, .bool f3, .slice a3 l3 c3], .agg #[.bool fn, .slice an ln cn], .int .i64 parts, .slice (some ⟨b, off, none⟩) m c] w (Re w (.agg #[.bool rN, .string rS, .string rD])) := by
 replace hr := shut hr
 replace hv := shut hv
 go_enter Tryz.func68, Tryz.ntmps68
 go_wp2_with fail
 obtain ⟨w0, hq, ks, kn, kr, bb⟩ := mk3 w [.slice va vl vc, .slice ya yl yc, .bool f2, .slice a2 l2 c2, .bool f3, .slice a3 l3 c3] [.bool fn, .slice an ln cn] [.bool false, .string { data := #[] }, .string { data := #[] }] 81 68 26
 rw [← hq]
 clear hq
 have bd := bdrew w0
 have bb0 := Below.after bb bd
 replace ks := ks.below bd
 replace kn := kn.below bd
 replace kr := kr.below bd
 replace bb := Below.after bb bd
 clear bd
 replace nn := nn.below bb
 replace n2 := n2.below bb
 replace n3 := n3.below bb
 have hr1 := shut (hr.out.below bb)
 have hv1 := shut (hv.out.below bb)
 clear bb0
 refine wp_region_held_drew (S := fun w' => w'.cell? ⟨w.heap.size, 4, none⟩ = some (.bool f3) ∧ w'.cell? ⟨w.heap.size, 5, none⟩ = some (.slice a3 l3 c3)) (by kernel_rfl) ⟨ks.cell 4, ks.cell 5⟩ (fun hS => ?_)
 generalize w0.drew = wd at *
 refine WA.start (n := 8) (by kernel_rfl) ?_
 refine WA.tp 0 rfl ?_
 refine WA.tp 2 rfl ?_
 refine WA.tp 3 rfl ?_
 refine WA.tp 5 rfl ?_
 clear hS
 refine WA.cal 1 rfl (fun K hK => ?_)
 simp only [List.getElem_toArray, List.getElem_cons_succ, List.getElem_cons_zero]
 go_simp
 go_fit (HS.out _)
 rintro e w1 ⟨f1, a1, l1, c1, rfl, n1, b1⟩
 replace hr1 := shut (hr1.out.below b1)
 replace hv1 := shut (hv1.out.below b1)
 replace ks := ks.below b1
 replace kn := kn.below b1
 replace kr := kr.below b1
 replace nn := nn.below b1
 replace n2 := n2.below b1
 replace n3 := n3.below b1
 replace bb := Below.after bb b1
 clear b1
 try go_wp2_with fail
 refine hK.out _ _ ⟨ks.cell 4, ks.cell 5⟩ (fun hS => ?_)
 clear hK K hS
 refine WA.cal 4 rfl (fun K hK => ?_)
 simp only [List.getElem_toArray, List.getElem_cons_succ, List.getElem_cons_zero]
 go_simp
 try go_wp2_with fail
 obtain ⟨w2, hw, kp, b1⟩ := mk1 w1 [.bool f1, .slice a1 l1 c1, .bool f3, .slice a3 l3 c3] 68
 rw [← hw]
 clear hw
 have sz := bb.size
 have sz2 := b1.size
 have hs2 : w.heap.size ≤ w1.heap.size := by omega
 have t0 := ks.lt
 have t1 := kn.lt
 have t2 := kr.lt
 replace hr1 := shut (hr1.out.below b1)
 replace hv1 := shut (hv1.out.below b1)
 replace ks := ks.below b1
 replace kn := kn.below b1
 replace kr := kr.below b1
 replace nn := nn.below b1
 replace n2 := n2.below b1
 replace n3 := n3.below b1
 replace n1 := n1.below b1
 replace bb := Below.after bb b1
 clear b1
 refine hK.out _ _ ⟨ks.cell 4, ks.cell 5⟩ (fun hS => ?_)
 clear hK K hS
 refine WA.cal 6 rfl (fun K hK => ?_)
 simp only [List.getElem_toArray, List.getElem_cons_succ, List.getElem_cons_zero]
 rw [if_pos (by rfl)]
 have hni : NI w2 w1.heap.size := ni_cel kp (by simp [noI])
 refine wp_apNum _ _ rfl _ 2 _ rfl (w1.heap.size) (own_cel kp (Nat.le_refl _) (by rfl) (by omega)) (Nat.le_of_lt kp.lt) b off m c N v rfl hr1.out (fun q hq => (hv1.out q hq).2) (by omega) (fun g hg => by injection hg with hg; subst hg; exact hni) ?_
 intro u w3 how hgr hn3
 obtain ⟨g, cap, rfl, hg⟩ := own_slice how (by omega)
 have hrow : ∀ k, Value.ownBlock (.slice (some ⟨w1.heap.size, 0, none⟩) 2 2) = some k → w1.heap.size ≤ k := fun k e => by injection e with e; exact Nat.le_of_eq e
 have hnr : ∀ k, Value.ownBlock (.slice (some ⟨w1.heap.size, 0, none⟩) 2 2) = some k → NI w2 k := fun k e => by injection e with e; subst e; exact hni
 have b3 : Below w1.heap.size w2 w3 := Below.grown (Below.refl _ _) hgr (Nat.le_of_lt kp.lt) hrow
 have e4 : fln 2 (tw2 f1 f3) (tw2 (.slice a1 l1 c1) (.slice a3 l3 c3)) = [.bool f1, .slice a1 l1 c1, .bool f3, .slice a3 l3 c3] := by rfl
 rw [← e4, fln_cat] at how
 have hrd := rdn_own how
 have hvs : NVs w3 (catn 2 (tw2 f1 f3) N) (catn 2 (tw2 (.slice a1 l1 c1) (.slice a3 l3 c3)) v) (catn 2 (tw2 parts AB) Z) Lr (2 + m) := fun q hq => by
  unfold catn
  by_cases h2 : q < 2
  ·rw [if_pos h2, if_pos h2, if_pos h2]
   match q, h2 with
   | 0, _ => exact ⟨(n1.grown hgr hnr).mono (by omega), _, _, _, rfl⟩
   | 1, _ => exact ⟨(n3.grown hgr hnr).mono (by omega), _, _, _, rfl⟩
  ·rw [if_neg h2, if_neg h2, if_neg h2]
   exact ⟨((hv1.out (q - 2) (by omega)).1.grown hgr hnr).mono (by omega), (hv1.out (q - 2) (by omega)).2⟩
 replace nn := nn.grown hgr hnr
 replace n2 := n2.grown hgr hnr
 have ks3 : Cel w3 w.heap.size [.slice va vl vc, .slice ya yl yc, .bool f2, .slice a2 l2 c2, .bool f3, .slice a3 l3 c3] 81 := (b3.block _ (by omega)).trans ks
 have kn3 : Cel w3 (w.heap.size + 1) [.bool fn, .slice an ln cn] 68 := (b3.block _ (by omega)).trans kn
 have kr3 : Cel w3 (w.heap.size + 1 + 1) [.bool false, .string { data := #[] }, .string { data := #[] }] 26 := (b3.block _ (by omega)).trans kr
 have bb3 : Below w.heap.size w w3 := bb.trans (b3.mono (by omega))
 replace hrd := shut hrd
 replace hvs := shut hvs
 clear how hgr hnr hrow hni kp ks kn kr bb b3 n1 n3 hr1 hv1 hn3 e4
 refine hK.out _ _ ⟨ks3.cell 4, ks3.cell 5⟩ (fun hS => ?_)
 clear hK K
 refine WA.tp 7 rfl ?_
 refine WA.done (by kernel_rfl) ?_
 clear hS
 obtain ⟨c0, c1'⟩ := xk2 kn3
 have d2 := ks3.cell 2
 have d3 := ks3.cell 3
 go_wp2_with fail
 clear c0 c1' d2 d3
 go_fit (ntimes_any _ _ _ _ zn A2 L L _ (by omega) (by omega) nn n2)
 rintro e w4 ⟨f4, v4, rfl, n4, -, b1⟩
 obtain ⟨a4, l4, c4, rfl⟩ := n4.slice
 clear nn n2
 replace hrd := shut (hrd.out.below b1)
 replace hvs := shut (hvs.out.below b1)
 replace kr3 := kr3.below b1
 replace bb3 := Below.after bb3 b1
 clear b1 ks3 kn3
 go_wp2_with fail
 go_fit (HO.out _ _ _ _ cap _ _ bb3 (n4.mono (by omega)) hrd.out hvs.out)
 rintro e w5 ⟨rfl, b1⟩
 replace kr3 := kr3.below b1
 replace bb3 := Below.after bb3 b1
 clear b1 n4 hrd hvs
 obtain ⟨e0, e1, e2⟩ := xk3 kr3
 have q0 := Cel.frozen kr3 0
 have q1 := Cel.frozen kr3 1
 have q2 := Cel.frozen kr3 2
 go_wp2
 exact post_q (p := 8) (by kernel_rfl) rfl rfl (((kr3.set 0 _).set 1 _).set 2 _) ⟨rfl, bset (bset (bset bb3 (by omega) 0 _) (by omega) 1 _) (by omega) 2 _⟩
theorem zprod_cat (p A : Int) (Z : Nat → Int) (m : Nat) : zprod (catn 2 (tw2 p A) Z) (2 + m) = p.natAbs * (A.natAbs * zprod Z m) := by
 unfold zprod
 rw [List.range_add, List.map_append, List.map_map]
 have e : (List.range m).map ((fun k => (catn 2 (tw2 p A) Z k).natAbs) ∘ fun x => 2 + x) = (List.range m).map fun k => (Z k).natAbs := by
  refine List.map_congr_left fun k _ => ?_
  show (catn 2 (tw2 p A) Z (2 + k)).natAbs = _
  unfold catn
  rw [if_neg (by omega), Nat.add_sub_cancel_left]
 rw [e]
 rfl
theorem part_any (va ya a2 a3 an : Option Addr) (vl vc yl yc l2 c2 l3 c3 ln cn : Nat) (f2 f3 fn : Bool) (parts zn A2 AB : Int) (b off m c : Nat) (N : Nat → Bool) (v : Nat → Value) (Z : Nat → Int) (L K : Nat) (w : World) (hT : Tab w) (hm : m ≤ 100) (hL : L ≤ 900) (hK : K ≤ 8000) (hL1 : 1 ≤ L) (hp : 0 < parts) (hp2 : parts ≤ 1000000)
  (nn : NV w fn (.slice an ln cn) zn L) (n2 : NV w f2 (.slice a2 l2 c2) A2 L) (n3 : NV w f3 (.slice a3 l3 c3) AB L) (hr : RdN w (some ⟨b, off, none⟩) m N v) (hv : NVs w N v Z L m) (hA : 0 < AB) (hZ : ∀ k, k < m → 0 < Z k)
  (hz : Bd (zn * A2) K) (hB : Bd ((parts.natAbs * (AB.natAbs * zprod Z m) : Nat) : Int) K) {x : Rat} (hx : mkRat (zn * A2) (parts.natAbs * (AB.natAbs * zprod Z m)) = x) :
  Calls Tryz.prog 68 #[.agg #[.slice va vl vc, .slice ya yl yc, .bool f2, .slice a2 l2 c2, .bool f3, .slice a3 l3 c3], .agg #[.bool fn, .slice an ln cn], .int .i64 parts, .slice (some ⟨b, off, none⟩) m c] w (Re w (.agg #[.bool (nfZ x.num), .string (sfZ x.num), .string (strOf x.den)])) := by
 have pos : ∀ k, k < 2 + m → 0 < catn 2 (tw2 parts AB) Z k := fun k hk => by
  unfold catn
  by_cases h2 : k < 2
  ·rw [if_pos h2]
   match k, h2 with
   | 0, _ => exact hp
   | 1, _ => exact hA
  ·rw [if_neg h2]
   exact hZ _ (by omega)
 refine part_walk va ya a2 a3 an vl vc yl yc l2 c2 l3 c3 ln cn f2 f3 fn parts zn A2 AB b off m c N v Z L (L + L) _ _ _ w hm hL (Nat.le_refl _) nn n2 n3 hr hv (fun w1 => ?_) (fun w1 m0 v0 a' cap N' v' b1 h0 h1 h2 => ?_) hL1
 ·exact (psmall_any parts (by omega) hp2 w1).mono (fun e w' h => by obtain ⟨a, l, c, h⟩ := h; exact ⟨_, a, l, c, h⟩)
 ·rw [← zprod_cat] at hB hx
  exact nover_big m0 v0 a' (2 + m) cap N' v' (zn * A2) _ (L + L) K w1 (hT.below b1) (by omega) hK h0 h1 h2 pos hz hB hx
theorem load_s6 {w : World} {g : Nat} {x0 x1 x2 x3 x4 x5 : Value} (h : Cel w g [x0, x1, x2, x3, x4, x5] 81) : (loadVar 81 ⟨g, 0, none⟩).run Tryz.prog w = .ok (.agg #[x0, x1, x2, x3, x4, x5]) w :=
 run_loadVar_row w g 81 81 #[x0, x1, x2, x3, x4, x5] (0, 0) _ h Tryz.underlying81 rfl (by kernel_rfl)
theorem post_s6 {fn : Func} {p u : Tmp} {R : Ending → World → Prop} {a : Act} {w : World} {g : Nat} {x0 x1 x2 x3 x4 x5 v : Value} (h : fn.results = #[.cell p 81, .tmp u]) (hp : a.tmps.getD p undef = .pointer (some ⟨g, 0, none⟩)) (hu : a.tmps.getD u undef = v) (hd : a.defers = [])
  (hc : Cel w g [x0, x1, x2, x3, x4, x5] 81) (hR : R (.returned (.tuple #[.agg #[x0, x1, x2, x3, x4, x5], v])) w) : bodyPost Tryz.prog fn R .ret a w := by
 refine ⟨hd, .tuple #[.agg #[x0, x1, x2, x3, x4, x5], v], ?_, hR⟩
 have hp' : a.tmps[p]?.getD undef = .pointer (some ⟨g, 0, none⟩) := by simpa using hp
 have hu' : a.tmps[u]?.getD undef = v := by simpa using hu
 simp only [results, h]
 simp [hp', hu', asAddr, load_s6 hc]
theorem sample_bad (n0 n1 n2 n3 n4 n5 p0 p1 p2 p3 p4 p5 : Bool) (s0 d0 s1 d1 s2 d2 s3 d3 s4 d4 s5 d5 q0 r0 q1 r1 q2 r2 q3 r3 q4 r4 q5 r5 : ByteArray) (E : Int) (w : World) (hE : ¬ E = 0)
  (HC : Hid (∀ w1 B, Below w.heap.size w w1 → Cel w1 B [.bool p0, .string q0, .string r0, .bool p1, .string q1, .string r1, .bool p2, .string q2, .string r2, .bool p3, .string q3, .string r3, .bool p4, .string q4, .string r4, .bool p5, .string q5, .string r5] 30 → Calls Tryz.prog 32 #[.agg #[.bool n0, .string s0, .string d0, .bool n1, .string s1, .string d1, .bool n2, .string s2, .string d2, .bool n3, .string s3, .string d3, .bool n4, .string s4, .string d4, .bool n5, .string s5, .string d5], .slice (some ⟨B, 0, none⟩) 3 3] w1 (Re w1 (.int .i64 E)))) :
  Calls Tryz.prog 41 #[.agg #[.bool n0, .string s0, .string d0, .bool n1, .string s1, .string d1, .bool n2, .string s2, .string d2, .bool n3, .string s3, .string d3, .bool n4, .string s4, .string d4, .bool n5, .string s5, .string d5], .agg #[.bool p0, .string q0, .string r0, .bool p1, .string q1, .string r1], .agg #[.bool p2, .string q2, .string r2, .bool p3, .string q3, .string r3], .agg #[.bool p4, .string q4, .string r4, .bool p5, .string q5, .string r5]] w (Re w (.tuple #[.agg #[.slice none 0 0, .slice none 0 0, .bool false, .slice none 0 0, .bool false, .slice none 0 0], .int .i64 E])) := by
 go_enter Tryz.func41, Tryz.ntmps41
 go_upto_region 1 with fail
 obtain ⟨w0, hq, kf, ka, kb, kc, kr, bb⟩ := mk5 w [.bool n0, .string s0, .string d0, .bool n1, .string s1, .string d1, .bool n2, .string s2, .string d2, .bool n3, .string s3, .string d3, .bool n4, .string s4, .string d4, .bool n5, .string s5, .string d5] [.bool p0, .string q0, .string r0, .bool p1, .string q1, .string r1] [.bool p2, .string q2, .string r2, .bool p3, .string q3, .string r3] [.bool p4, .string q4, .string r4, .bool p5, .string q5, .string r5] [.slice none 0 0, .slice none 0 0, .bool false, .slice none 0 0, .bool false, .slice none 0 0] 28 30 30 30 81
 rw [← hq]
 clear hq
 obtain ⟨x0, x1, x2, x3, x4, x5⟩ := xk6 ka
 obtain ⟨y0, y1, y2, y3, y4, y5⟩ := xk6 kb
 obtain ⟨z0, z1, z2, z3, z4, z5⟩ := xk6 kc
 go_wp2_with (refine wpList_load_row rfl 28 _ rfl _ rfl 28 _ (0, 0) _ kf Tryz.underlying28 rfl (by kernel_rfl) ?_)
 clear x0 x1 x2 x3 x4 x5 y0 y1 y2 y3 y4 y5 z0 z1 z2 z3 z4 z5
 obtain ⟨w1, hq, kl, b1⟩ := mk1 w0 [.bool p0, .string q0, .string r0, .bool p1, .string q1, .string r1, .bool p2, .string q2, .string r2, .bool p3, .string q3, .string r3, .bool p4, .string q4, .string r4, .bool p5, .string q5, .string r5] 30
 rw [← hq]
 clear hq
 replace kf := kf.below b1
 replace ka := ka.below b1
 replace kb := kb.below b1
 replace kc := kc.below b1
 replace kr := kr.below b1
 replace bb := Below.after bb b1
 clear b1
 go_fit (HC.out _ _ bb kl)
 rintro e w2 ⟨rfl, b1⟩
 clear kl
 replace kf := kf.below b1
 replace ka := ka.below b1
 replace kb := kb.below b1
 replace kc := kc.below b1
 replace kr := kr.below b1
 replace bb := Below.after bb b1
 clear b1
 clear kf ka kb kc
 obtain ⟨e0, e1, e2, e3, e4, e5⟩ := xk6 kr
 have f0 := Cel.frozen kr 0
 have f1 := Cel.frozen kr 1
 have f2 := Cel.frozen kr 2
 have f3 := Cel.frozen kr 3
 have f4 := Cel.frozen kr 4
 have f5 := Cel.frozen kr 5
 go_wp2
 exact post_s6 (p := 8) (u := 9) (v := .int .i64 E) (by kernel_rfl) rfl rfl rfl (kr.set6 _ _ _ _ _ _) ⟨rfl, bset6 bb (by omega) _ _ _ _ _ _⟩
theorem sample_flat (n0 n1 n2 n3 n4 n5 p0 p1 p2 p3 p4 p5 : Bool) (s0 d0 s1 d1 s2 d2 s3 d3 s4 d4 s5 d5 q0 r0 q1 r1 q2 r2 q3 r3 q4 r4 q5 r5 : ByteArray) (zN : Bool) (zD : ByteArray) (w : World)
  (HC : Hid (∀ w1 B, Below w.heap.size w w1 → Cel w1 B [.bool p0, .string q0, .string r0, .bool p1, .string q1, .string r1, .bool p2, .string q2, .string r2, .bool p3, .string q3, .string r3, .bool p4, .string q4, .string r4, .bool p5, .string q5, .string r5] 30 → Calls Tryz.prog 32 #[.agg #[.bool n0, .string s0, .string d0, .bool n1, .string s1, .string d1, .bool n2, .string s2, .string d2, .bool n3, .string s3, .string d3, .bool n4, .string s4, .string d4, .bool n5, .string s5, .string d5], .slice (some ⟨B, 0, none⟩) 3 3] w1 (Re w1 (.int .i64 0))))
  (HA : Hid (∀ w1, Below w.heap.size w w1 → Calls Tryz.prog 66 #[.agg #[.bool p0, .string q0, .string r0, .bool p1, .string q1, .string r1], .agg #[.bool p2, .string q2, .string r2, .bool p3, .string q3, .string r3], .agg #[.bool p4, .string q4, .string r4, .bool p5, .string q5, .string r5]] w1 (Re w1 (.tuple #[.agg #[.bool zN, .string { data := #[] }, .string zD], .int .i64 0])))) :
  Calls Tryz.prog 41 #[.agg #[.bool n0, .string s0, .string d0, .bool n1, .string s1, .string d1, .bool n2, .string s2, .string d2, .bool n3, .string s3, .string d3, .bool n4, .string s4, .string d4, .bool n5, .string s5, .string d5], .agg #[.bool p0, .string q0, .string r0, .bool p1, .string q1, .string r1], .agg #[.bool p2, .string q2, .string r2, .bool p3, .string q3, .string r3], .agg #[.bool p4, .string q4, .string r4, .bool p5, .string q5, .string r5]] w (Re w (.tuple #[.agg #[.slice none 0 0, .slice none 0 0, .bool false, .slice none 0 0, .bool false, .slice none 0 0], .int .i64 6])) := by
 go_enter Tryz.func41, Tryz.ntmps41
 go_upto_region 1 with fail
 obtain ⟨w0, hq, kf, ka, kb, kc, kr, bb⟩ := mk5 w [.bool n0, .string s0, .string d0, .bool n1, .string s1, .string d1, .bool n2, .string s2, .string d2, .bool n3, .string s3, .string d3, .bool n4, .string s4, .string d4, .bool n5, .string s5, .string d5] [.bool p0, .string q0, .string r0, .bool p1, .string q1, .string r1] [.bool p2, .string q2, .string r2, .bool p3, .string q3, .string r3] [.bool p4, .string q4, .string r4, .bool p5, .string q5, .string r5] [.slice none 0 0, .slice none 0 0, .bool false, .slice none 0 0, .bool false, .slice none 0 0] 28 30 30 30 81
 rw [← hq]
 clear hq
 obtain ⟨x0, x1, x2, x3, x4, x5⟩ := xk6 ka
 obtain ⟨y0, y1, y2, y3, y4, y5⟩ := xk6 kb
 obtain ⟨z0, z1, z2, z3, z4, z5⟩ := xk6 kc
 go_wp2_with (refine wpList_load_row rfl 28 _ rfl _ rfl 28 _ (0, 0) _ kf Tryz.underlying28 rfl (by kernel_rfl) ?_)
 clear x0 x1 x2 x3 x4 x5 y0 y1 y2 y3 y4 y5 z0 z1 z2 z3 z4 z5
 obtain ⟨w1, hq, kl, b1⟩ := mk1 w0 [.bool p0, .string q0, .string r0, .bool p1, .string q1, .string r1, .bool p2, .string q2, .string r2, .bool p3, .string q3, .string r3, .bool p4, .string q4, .string r4, .bool p5, .string q5, .string r5] 30
 rw [← hq]
 clear hq
 replace kf := kf.below b1
 replace ka := ka.below b1
 replace kb := kb.below b1
 replace kc := kc.below b1
 replace kr := kr.below b1
 replace bb := Below.after bb b1
 clear b1
 go_fit (HC.out _ _ bb kl)
 rintro e w2 ⟨rfl, b1⟩
 clear kl
 replace kf := kf.below b1
 replace ka := ka.below b1
 replace kb := kb.below b1
 replace kc := kc.below b1
 replace kr := kr.below b1
 replace bb := Below.after bb b1
 clear b1
 clear kf
 obtain ⟨a0, a1, a2, a3, a4, a5⟩ := xk6 ka
 obtain ⟨b0, b1, b2, b3, b4, b5⟩ := xk6 kb
 obtain ⟨c0, c1, c2, c3, c4, c5⟩ := xk6 kc
 go_wp2_with fail
 clear a0 a1 a2 a3 a4 a5 b0 b1 b2 b3 b4 b5 c0 c1 c2 c3 c4 c5
 go_fit (HA.out _ bb)
 rintro e w2 ⟨rfl, b1⟩
 clear ka kb kc
 replace kr := kr.below b1
 replace bb := Below.after bb b1
 clear b1
 have b1 := bel_al w2 (.cells #[.bool zN, .string { data := #[] }, .string zD] 26)
 replace kr := kr.below b1
 replace bb := Below.after bb b1
 obtain ⟨e0, e1, e2, e3, e4, e5⟩ := xk6 kr
 have f0 := Cel.frozen kr 0
 have f1 := Cel.frozen kr 1
 have f2 := Cel.frozen kr 2
 have f3 := Cel.frozen kr 3
 have f4 := Cel.frozen kr 4
 have f5 := Cel.frozen kr 5
 obtain ⟨g0, g1, g2⟩ := xk3 (Cel.new w2 [.bool zN, .string { data := #[] }, .string zD] 26)
 clear b1
 go_wp2
 exact post_s6 (p := 8) (u := 9) (v := .int .i64 6) (by kernel_rfl) rfl rfl rfl (kr.set6 _ _ _ _ _ _) ⟨rfl, bset6 bb (by omega) _ _ _ _ _ _⟩
end Go.Proofs.YtbafjmjcepcckaaGreatDoor
