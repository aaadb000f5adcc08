/-
  gussetlaw04: VecTurned, walked.
-/
import Derived.Test.YtgihiaaodkkkbaaGreatDoorG75
namespace Go.Proofs.YtgihiaaodkkkbaaGreatDoor
open Go.RowKit

set_option maxRecDepth 100000 in
set_option maxHeartbeats 16000000 in
theorem turned_ok (B O n cap a b : Nat) (q : Nat → Nat → Rat) (mv : Nat → Value) (xn yn zn : Bool) (xs xd ys yd zs zd : ByteArray) (w : World) (h4 : n ≤ 4) (ha : a < n) (hb : b < n) (hab : ¬ a = b)
  (hm : Hid (∀ i, i < n → w.cell? ⟨B, O + i, none⟩ = some (mv i) ∧ ∃ g o c, mv i = .slice (some ⟨g, o, none⟩) n c ∧ n ≤ c ∧ RdQI w (some ⟨g, o, none⟩) n (q i)))
  (HL : Hid (∀ w1, Below w.heap.size w w1 → Calls Tryz.prog 12 #[] w1 fun e w' => e = .returned (.bool true) ∧ Below w1.heap.size w1 w'))
  (HF : Hid (∀ w1, Below w.heap.size w w1 → Calls Tryz.prog 9 #[.slice (some ⟨B, O, none⟩) n cap] w1 fun e w' => (e = .returned (.bool false) ∨ e = .returned (.bool true)) ∧ Below w1.heap.size w1 w'))
  (HS : Hid (∀ w1, Below w.heap.size w w1 → Calls Tryz.prog 10 #[.slice (some ⟨B, O, none⟩) n cap] w1 fun e w' => e = .returned (.bool true) ∧ w' = w1))
  (HN : Hid (∀ w1, Below w.heap.size w w1 → Calls Tryz.prog 11 #[.slice (some ⟨B, O, none⟩) n cap] w1 fun e w' => e = .returned (.int .i64 0) ∧ Below w1.heap.size w1 w'))
  (HD : Hid (∀ w1, Below w.heap.size w w1 → Calls Tryz.prog 13 #[.slice (some ⟨B, O, none⟩) n cap] w1 fun e w' => e = .returned (.tuple #[.agg #[.bool xn, .string xs, .string xd], .int .i64 0]) ∧ Below w1.heap.size w1 w'))
  (HR : Hid (∀ w1 g c, Below w.heap.size w w1 → RowV w1 w.heap.size (.slice (some ⟨g, 0, none⟩) n c) n (fun t => mv (Dt.swp a b t)) → Calls Tryz.prog 13 #[.slice (some ⟨g, 0, none⟩) n c] w1 fun e w' => e = .returned (.tuple #[.agg #[.bool yn, .string ys, .string yd], .int .i64 0]) ∧ Below w1.heap.size w1 w'))
  (HT : Hid (∀ w1 g c, Below w.heap.size w w1 → RowV w1 w.heap.size (.slice (some ⟨g, 0, none⟩) n c) n (fun t => mv (Dt.twc a b t)) → Calls Tryz.prog 13 #[.slice (some ⟨g, 0, none⟩) n c] w1 fun e w' => e = .returned (.tuple #[.agg #[.bool zn, .string zs, .string zd], .int .i64 0]) ∧ Below w1.heap.size w1 w'))
  (HC : Hid (∀ w1 g c, Below w.heap.size w w1 → MinR w1 w.heap.size (.slice (some ⟨g, 0, none⟩) n c) n n (fun i j => q j i) → Calls Tryz.prog 13 #[.slice (some ⟨g, 0, none⟩) n c] w1 fun e w' => e = .returned (.tuple #[.agg #[.bool xn, .string xs, .string xd], .int .i64 0]) ∧ Below w1.heap.size w1 w'))
  (HG : Hid (∀ w1, Calls Tryz.prog 14 #[.agg #[.bool xn, .string xs, .string xd]] w1 fun e w' => e = .returned (.agg #[.bool yn, .string ys, .string yd]) ∧ Below w1.heap.size w1 w'))
  (HZ : Hid (∀ w1, Calls Tryz.prog 15 #[.agg #[.bool zn, .string zs, .string zd]] w1 fun e w' => e = .returned (.int .i64 0) ∧ Below w1.heap.size w1 w')) :
  Calls Tryz.prog 3 #[.slice (some ⟨B, O, none⟩) n cap, .int .i64 a, .int .i64 b] w fun e w' => e = .returned (.bool true) ∧ Below w.heap.size w w' := by
 obtain ⟨A, hA⟩ : ∃ A : Int, A = (a : Int) := ⟨_, rfl⟩
 obtain ⟨Bz, hBz⟩ : ∃ A : Int, A = (b : Int) := ⟨_, rfl⟩
 rw [← hA, ← hBz]
 have i1 : ¬ A < 0 := by omega
 have i2 : ¬ Bz < 0 := by omega
 have i3 : ¬ (n : Int) ≤ A := by omega
 have i4 : ¬ (n : Int) ≤ Bz := by omega
 have i5 : (A == Bz) = false := by rw [beq_eq_false_iff_ne]; omega
 have j1 : A.toNat = a := by omega
 have j2 : Bz.toNat = b := by omega
 replace hA := shut hA
 replace hBz := shut hBz
 go_enter Tryz.func3, Tryz.ntmps3
 go_wp2_with fail
 go_fit (HF.out _ (Below.refl _ _))
 rintro e w1 ⟨rfl | rfl, bb⟩
 ·go_wp2_with fail
  go_fit (HL.out _ bb)
  rintro e w2 ⟨rfl, b1⟩
  replace bb := Below.after bb b1
  go_wp2
  go_ret
  exact ⟨rfl, bb⟩
 go_wp2_with fail
 go_fit (HS.out _ bb)
 rintro e w2 ⟨rfl, rfl⟩
 go_wp2_with fail
 go_fit (HN.out _ bb)
 rintro e w3 ⟨rfl, b1⟩
 replace bb := Below.after bb b1
 clear b1 HF HS HN
 go_wp2_with fail
 go_loopw [7, 8, 9, 10] (fun v1 v2 v3 i wr => Below w.heap.size w wr ∧ ∃ l : Nat, l ≤ n ∧ i = .int .i64 l ∧ Three wr w.heap.size v1 v2 v3 l l l n (fun t => mv (Dt.swp a b t)) (fun t => mv (Dt.twc a b t)) (fun i j => q j i)) (fun _ _ _ i _ => n - (intOf i).toNat)
 case atStart => exact ⟨bb, 0, by omega, rfl, Three.nil _ _ _ _ _ _⟩
 case round =>
  clear bb
  obtain ⟨bb, l, hl, rfl, h3⟩ := hrel
  replace h3 := shut h3
  by_cases hln : l < n
  ·by_cases hla : l = a
   ·have q1 : ((l : Int) == A) = true := by rw [beq_iff_eq]; have := hA.out; omega
    have q2 : ((l : Int) == Bz) = false := by rw [beq_eq_false_iff_ne]; have := hBz.out; omega
    have sw : Dt.swp a b l = b := by unfold Dt.swp; rw [if_neg (by omega), if_pos hla]
    have tw : Dt.twc a b l = b := by unfold Dt.twc; rw [if_pos hla]
    obtain ⟨x1, g1, o1, c1, y1, z1, -⟩ := hm.out b (by omega)
    obtain ⟨x2, g2, o2, c2, y2, z2, -⟩ := hm.out b (by omega)
    clear hla
    rw [y1] at x1
    rw [y2] at x2
    have d1 := cell_below x1 bb
    have n1 : (l : Int) < n := by omega
    have n0 : (l : Int) < n := by omega
    rw [← sw] at y1
    rw [← tw] at y2
    replace y1 := shut y1
    replace y2 := shut y2
    replace sw := shut sw
    replace tw := shut tw
    go_wp2_with (first | (at_builtin; refine wpList_appW rfl _ _ rfl u7 l _ rfl w.heap.size (h3.out.r1.alloc _) (by have := bb.size; simp; omega) wr.heap.size (.slice (some ⟨g1, o1, none⟩) n c1) rfl rfl (by simp) (by omega) ?_) | fail)
    intro v1 w1 P1 hg1 hat1
    have b1 := (ba bb _).grown hg1 (by have := bb.size; simp; omega) (fun g hg => ownN_block h3.out.r1 g hg)
    rw [← y1.out] at P1
    have T1 := shut ((h3.out.below (bel_al _ _)).app1 P1 hg1 (by simpa using hat1))
    clear P1 hg1 hat1 h3 d1
    have d2 := cell_below x2 b1
    go_wp2_with (first | (at_builtin; refine wpList_appW rfl _ _ rfl u8 l _ rfl w.heap.size (T1.out.r2.alloc _) (by have := b1.size; simp; omega) w1.heap.size (.slice (some ⟨g2, o2, none⟩) n c2) rfl rfl (by simp) (by omega) ?_) | fail)
    intro v2 w2 P2 hg2 hat2
    have b2 := (ba b1 _).grown hg2 (by have := b1.size; simp; omega) (fun g hg => ownN_block T1.out.r2 g hg)
    rw [← y2.out] at P2
    have T2 := shut ((T1.out.below (bel_al _ _)).app2 P2 hg2 (by simpa using hat2))
    clear P2 hg2 hat2 T1 d2 b1 x1 x2 y1 y2 sw tw z1 z2 n1 q1 q2
    go_wp2_with fail
    go_loopw [12, 13] (fun v j wx => Below w2.heap.size w2 wx ∧ ∃ t : Nat, t ≤ n ∧ j = .int .i64 t ∧ wx.ownsRow w2.heap.size 32 3 v t (flq t (fun j => q j l))) (fun _ j _ => n - (intOf j).toNat)
    case atStart => exact ⟨Below.refl _ _, 0, by omega, rfl, World.ownsRow_nil _ _ _ _⟩
    case round =>
     obtain ⟨bx, t, ht, rfl, hc⟩ := hrel
     replace hc := shut hc
     by_cases htn : t < n
     ·obtain ⟨x1, g1, o1, c1, y1, z1, r1⟩ := hm.out t htn
      rw [y1] at x1
      clear y1 z1
      replace x1 := cell_below (cell_below x1 b2) bx
      obtain ⟨g', o', e', k0, k1, k2⟩ := (RdQ.below (RdQ.below r1 b2) bx) l hln
      simp only [Option.some.injEq, Addr.mk.injEq] at e'
      obtain ⟨rfl, rfl, -⟩ := e'
      clear r1
      have n1 : (t : Int) < n := by omega
      go_wp2_with (first | (at_builtin; refine wpList_appQ rfl _ _ rfl u12 t _ rfl w2.heap.size (hc.out.alloc _) (by have := bx.size; simp; omega) wr.heap.size 0 1 1 (fun _ => q t l) rfl ?_ (by omega) ?_) | fail)
      ·exact rdqi_new wr (q t l) _
      intro v' w' P hg _
      have b3 := (ba bx _).grown hg (by have := bx.size; simp; omega) (fun g hg => ownN_block hc.out g hg)
      rw [flq_more t (fun j => q j l)] at P
      replace P := shut P
      clear hg hc x1 k0 k1 k2
      go_wp2
      exact ⟨⟨b3, t + 1, by omega, by go_num, P.out⟩, by simp [intOf]; omega⟩
     ·obtain rfl : t = n := by omega
      obtain ⟨g3, c3, rfl, hc3⟩ : ∃ g3 c3, u12 = .slice (some ⟨g3, 0, none⟩) t c3 ∧ t ≤ c3 := by
       rcases hc.out.2 with ⟨_, e⟩ | ⟨g, cap, cur, hv, hb, hg, hn, _⟩
       ·omega
       ·exact ⟨g, cap, hv, hn⟩
      have T3 := T2.out.below bx
      obtain ⟨vs, m1, m2⟩ := T3.r3
      replace T3 := shut T3
      replace m1 := shut m1
      replace m2 := shut m2
      have b3 := Below.after b2 bx
      have s2 := b2.size
      go_wp2_with (first | (at_builtin; refine wpList_appW rfl _ _ rfl u9 l vs rfl w.heap.size (m1.out.alloc _) (by have := b3.size; simp; omega) wr.heap.size (.slice (some ⟨g3, 0, none⟩) t c3) rfl rfl (by simp) (by omega) ?_) | fail)
      intro v3 w3 P3 hg3 hat3
      have b4 := (ba b3 _).grown hg3 (by have := b3.size; simp; omega) (fun g hg => ownN_block m1.out g hg)
      have T4 := shut ((T3.out.below (bel_al _ _)).app3 (m1.out.alloc _) (fun i hi => by obtain ⟨g, c, e, hc, h3⟩ := m2.out i hi; exact ⟨g, c, e, hc, h3.alloc _⟩) ((hc.out.alloc _).mono s2) hc3 P3 hg3 (by simpa using hat3))
      clear P3 hg3 hat3 m1 m2 T3 T2 hc
      go_wp2
      exact ⟨⟨b4, l + 1, by omega, by go_num, T4.out⟩, by simp [intOf]; omega⟩
   by_cases hlb : l = b
   ·have q1 : ((l : Int) == A) = false := by rw [beq_eq_false_iff_ne]; have := hA.out; omega
    have q2 : ((l : Int) == Bz) = true := by rw [beq_iff_eq]; have := hBz.out; omega
    have sw : Dt.swp a b l = a := by unfold Dt.swp; rw [if_pos hlb]
    have tw : Dt.twc a b l = l := by unfold Dt.twc; rw [if_neg hla]
    obtain ⟨x1, g1, o1, c1, y1, z1, -⟩ := hm.out a (by omega)
    obtain ⟨x2, g2, o2, c2, y2, z2, -⟩ := hm.out l (by omega)
    clear hla
    clear hlb
    rw [y1] at x1
    rw [y2] at x2
    have d1 := cell_below x1 bb
    have n1 : (l : Int) < n := by omega
    have n0 : (l : Int) < n := by omega
    rw [← sw] at y1
    rw [← tw] at y2
    replace y1 := shut y1
    replace y2 := shut y2
    replace sw := shut sw
    replace tw := shut tw
    go_wp2_with (first | (at_builtin; refine wpList_appW rfl _ _ rfl u7 l _ rfl w.heap.size (h3.out.r1.alloc _) (by have := bb.size; simp; omega) wr.heap.size (.slice (some ⟨g1, o1, none⟩) n c1) rfl rfl (by simp) (by omega) ?_) | fail)
    intro v1 w1 P1 hg1 hat1
    have b1 := (ba bb _).grown hg1 (by have := bb.size; simp; omega) (fun g hg => ownN_block h3.out.r1 g hg)
    rw [← y1.out] at P1
    have T1 := shut ((h3.out.below (bel_al _ _)).app1 P1 hg1 (by simpa using hat1))
    clear P1 hg1 hat1 h3 d1
    have d2 := cell_below x2 b1
    go_wp2_with (first | (at_builtin; refine wpList_appW rfl _ _ rfl u8 l _ rfl w.heap.size (T1.out.r2.alloc _) (by have := b1.size; simp; omega) w1.heap.size (.slice (some ⟨g2, o2, none⟩) n c2) rfl rfl (by simp) (by omega) ?_) | fail)
    intro v2 w2 P2 hg2 hat2
    have b2 := (ba b1 _).grown hg2 (by have := b1.size; simp; omega) (fun g hg => ownN_block T1.out.r2 g hg)
    rw [← y2.out] at P2
    have T2 := shut ((T1.out.below (bel_al _ _)).app2 P2 hg2 (by simpa using hat2))
    clear P2 hg2 hat2 T1 d2 b1 x1 x2 y1 y2 sw tw z1 z2 n1 q1 q2
    go_wp2_with fail
    go_loopw [12, 13] (fun v j wx => Below w2.heap.size w2 wx ∧ ∃ t : Nat, t ≤ n ∧ j = .int .i64 t ∧ wx.ownsRow w2.heap.size 32 3 v t (flq t (fun j => q j l))) (fun _ j _ => n - (intOf j).toNat)
    case atStart => exact ⟨Below.refl _ _, 0, by omega, rfl, World.ownsRow_nil _ _ _ _⟩
    case round =>
     obtain ⟨bx, t, ht, rfl, hc⟩ := hrel
     replace hc := shut hc
     by_cases htn : t < n
     ·obtain ⟨x1, g1, o1, c1, y1, z1, r1⟩ := hm.out t htn
      rw [y1] at x1
      clear y1 z1
      replace x1 := cell_below (cell_below x1 b2) bx
      obtain ⟨g', o', e', k0, k1, k2⟩ := (RdQ.below (RdQ.below r1 b2) bx) l hln
      simp only [Option.some.injEq, Addr.mk.injEq] at e'
      obtain ⟨rfl, rfl, -⟩ := e'
      clear r1
      have n1 : (t : Int) < n := by omega
      go_wp2_with (first | (at_builtin; refine wpList_appQ rfl _ _ rfl u12 t _ rfl w2.heap.size (hc.out.alloc _) (by have := bx.size; simp; omega) wr.heap.size 0 1 1 (fun _ => q t l) rfl ?_ (by omega) ?_) | fail)
      ·exact rdqi_new wr (q t l) _
      intro v' w' P hg _
      have b3 := (ba bx _).grown hg (by have := bx.size; simp; omega) (fun g hg => ownN_block hc.out g hg)
      rw [flq_more t (fun j => q j l)] at P
      replace P := shut P
      clear hg hc x1 k0 k1 k2
      go_wp2
      exact ⟨⟨b3, t + 1, by omega, by go_num, P.out⟩, by simp [intOf]; omega⟩
     ·obtain rfl : t = n := by omega
      obtain ⟨g3, c3, rfl, hc3⟩ : ∃ g3 c3, u12 = .slice (some ⟨g3, 0, none⟩) t c3 ∧ t ≤ c3 := by
       rcases hc.out.2 with ⟨_, e⟩ | ⟨g, cap, cur, hv, hb, hg, hn, _⟩
       ·omega
       ·exact ⟨g, cap, hv, hn⟩
      have T3 := T2.out.below bx
      obtain ⟨vs, m1, m2⟩ := T3.r3
      replace T3 := shut T3
      replace m1 := shut m1
      replace m2 := shut m2
      have b3 := Below.after b2 bx
      have s2 := b2.size
      go_wp2_with (first | (at_builtin; refine wpList_appW rfl _ _ rfl u9 l vs rfl w.heap.size (m1.out.alloc _) (by have := b3.size; simp; omega) wr.heap.size (.slice (some ⟨g3, 0, none⟩) t c3) rfl rfl (by simp) (by omega) ?_) | fail)
      intro v3 w3 P3 hg3 hat3
      have b4 := (ba b3 _).grown hg3 (by have := b3.size; simp; omega) (fun g hg => ownN_block m1.out g hg)
      have T4 := shut ((T3.out.below (bel_al _ _)).app3 (m1.out.alloc _) (fun i hi => by obtain ⟨g, c, e, hc, h3⟩ := m2.out i hi; exact ⟨g, c, e, hc, h3.alloc _⟩) ((hc.out.alloc _).mono s2) hc3 P3 hg3 (by simpa using hat3))
      clear P3 hg3 hat3 m1 m2 T3 T2 hc
      go_wp2
      exact ⟨⟨b4, l + 1, by omega, by go_num, T4.out⟩, by simp [intOf]; omega⟩
   have q1 : ((l : Int) == A) = false := by rw [beq_eq_false_iff_ne]; have := hA.out; omega
   have q2 : ((l : Int) == Bz) = false := by rw [beq_eq_false_iff_ne]; have := hBz.out; omega
   have sw : Dt.swp a b l = l := by unfold Dt.swp; rw [if_neg hlb, if_neg hla]
   have tw : Dt.twc a b l = l := by unfold Dt.twc; rw [if_neg hla]
   obtain ⟨x1, g1, o1, c1, y1, z1, -⟩ := hm.out l (by omega)
   obtain ⟨x2, g2, o2, c2, y2, z2, -⟩ := hm.out l (by omega)
   clear hla
   clear hlb
   rw [y1] at x1
   rw [y2] at x2
   have d1 := cell_below x1 bb
   have n1 : (l : Int) < n := by omega
   have n0 : (l : Int) < n := by omega
   rw [← sw] at y1
   rw [← tw] at y2
   replace y1 := shut y1
   replace y2 := shut y2
   replace sw := shut sw
   replace tw := shut tw
   go_wp2_with (first | (at_builtin; refine wpList_appW rfl _ _ rfl u7 l _ rfl w.heap.size (h3.out.r1.alloc _) (by have := bb.size; simp; omega) wr.heap.size (.slice (some ⟨g1, o1, none⟩) n c1) rfl rfl (by simp) (by omega) ?_) | fail)
   intro v1 w1 P1 hg1 hat1
   have b1 := (ba bb _).grown hg1 (by have := bb.size; simp; omega) (fun g hg => ownN_block h3.out.r1 g hg)
   rw [← y1.out] at P1
   have T1 := shut ((h3.out.below (bel_al _ _)).app1 P1 hg1 (by simpa using hat1))
   clear P1 hg1 hat1 h3 d1
   have d2 := cell_below x2 b1
   go_wp2_with (first | (at_builtin; refine wpList_appW rfl _ _ rfl u8 l _ rfl w.heap.size (T1.out.r2.alloc _) (by have := b1.size; simp; omega) w1.heap.size (.slice (some ⟨g2, o2, none⟩) n c2) rfl rfl (by simp) (by omega) ?_) | fail)
   intro v2 w2 P2 hg2 hat2
   have b2 := (ba b1 _).grown hg2 (by have := b1.size; simp; omega) (fun g hg => ownN_block T1.out.r2 g hg)
   rw [← y2.out] at P2
   have T2 := shut ((T1.out.below (bel_al _ _)).app2 P2 hg2 (by simpa using hat2))
   clear P2 hg2 hat2 T1 d2 b1 x1 x2 y1 y2 sw tw z1 z2 n1 q1 q2
   go_wp2_with fail
   go_loopw [12, 13] (fun v j wx => Below w2.heap.size w2 wx ∧ ∃ t : Nat, t ≤ n ∧ j = .int .i64 t ∧ wx.ownsRow w2.heap.size 32 3 v t (flq t (fun j => q j l))) (fun _ j _ => n - (intOf j).toNat)
   case atStart => exact ⟨Below.refl _ _, 0, by omega, rfl, World.ownsRow_nil _ _ _ _⟩
   case round =>
    obtain ⟨bx, t, ht, rfl, hc⟩ := hrel
    replace hc := shut hc
    by_cases htn : t < n
    ·obtain ⟨x1, g1, o1, c1, y1, z1, r1⟩ := hm.out t htn
     rw [y1] at x1
     clear y1 z1
     replace x1 := cell_below (cell_below x1 b2) bx
     obtain ⟨g', o', e', k0, k1, k2⟩ := (RdQ.below (RdQ.below r1 b2) bx) l hln
     simp only [Option.some.injEq, Addr.mk.injEq] at e'
     obtain ⟨rfl, rfl, -⟩ := e'
     clear r1
     have n1 : (t : Int) < n := by omega
     go_wp2_with (first | (at_builtin; refine wpList_appQ rfl _ _ rfl u12 t _ rfl w2.heap.size (hc.out.alloc _) (by have := bx.size; simp; omega) wr.heap.size 0 1 1 (fun _ => q t l) rfl ?_ (by omega) ?_) | fail)
     ·exact rdqi_new wr (q t l) _
     intro v' w' P hg _
     have b3 := (ba bx _).grown hg (by have := bx.size; simp; omega) (fun g hg => ownN_block hc.out g hg)
     rw [flq_more t (fun j => q j l)] at P
     replace P := shut P
     clear hg hc x1 k0 k1 k2
     go_wp2
     exact ⟨⟨b3, t + 1, by omega, by go_num, P.out⟩, by simp [intOf]; omega⟩
    ·obtain rfl : t = n := by omega
     obtain ⟨g3, c3, rfl, hc3⟩ : ∃ g3 c3, u12 = .slice (some ⟨g3, 0, none⟩) t c3 ∧ t ≤ c3 := by
      rcases hc.out.2 with ⟨_, e⟩ | ⟨g, cap, cur, hv, hb, hg, hn, _⟩
      ·omega
      ·exact ⟨g, cap, hv, hn⟩
     have T3 := T2.out.below bx
     obtain ⟨vs, m1, m2⟩ := T3.r3
     replace T3 := shut T3
     replace m1 := shut m1
     replace m2 := shut m2
     have b3 := Below.after b2 bx
     have s2 := b2.size
     go_wp2_with (first | (at_builtin; refine wpList_appW rfl _ _ rfl u9 l vs rfl w.heap.size (m1.out.alloc _) (by have := b3.size; simp; omega) wr.heap.size (.slice (some ⟨g3, 0, none⟩) t c3) rfl rfl (by simp) (by omega) ?_) | fail)
     intro v3 w3 P3 hg3 hat3
     have b4 := (ba b3 _).grown hg3 (by have := b3.size; simp; omega) (fun g hg => ownN_block m1.out g hg)
     have T4 := shut ((T3.out.below (bel_al _ _)).app3 (m1.out.alloc _) (fun i hi => by obtain ⟨g, c, e, hc, h3⟩ := m2.out i hi; exact ⟨g, c, e, hc, h3.alloc _⟩) ((hc.out.alloc _).mono s2) hc3 P3 hg3 (by simpa using hat3))
     clear P3 hg3 hat3 m1 m2 T3 T2 hc
     go_wp2
     exact ⟨⟨b4, l + 1, by omega, by go_num, T4.out⟩, by simp [intOf]; omega⟩
  ·obtain rfl : l = n := by omega
   have hl0 : 0 < l := by omega
   obtain ⟨g7, c7, rfl⟩ := h3.out.r1.slice hl0
   obtain ⟨g8, c8, rfl⟩ := h3.out.r2.slice hl0
   obtain ⟨g9, c9, rfl⟩ : ∃ g c, u9 = .slice (some ⟨g, 0, none⟩) l c := by
    obtain ⟨vs, m1, -⟩ := h3.out.r3
    rcases m1.2 with ⟨_, e⟩ | ⟨g, cap, cur, hv, hb, hg, hn, _⟩
    ·omega
    ·exact ⟨g, cap, hv⟩
   go_wp2_with fail
   go_fit (HD.out _ bb)
   rintro e e0 ⟨rfl, b1⟩
   replace bb := Below.after bb b1
   replace h3 := shut (h3.out.below b1)
   clear b1
   go_wp2_with fail
   obtain ⟨f0, hw, kd, b1⟩ := mk1 e0 [.bool xn, .string xs, .string xd] 32
   rw [← hw]
   replace bb := Below.after bb b1
   replace h3 := shut (h3.out.below b1)
   clear b1 hw
   generalize e0.heap.size = pd at *
   go_fit (HR.out _ _ _ bb h3.out.r1)
   rintro e e1 ⟨rfl, b1⟩
   replace bb := Below.after bb b1
   replace h3 := shut (h3.out.below b1)
   replace kd := kd.below b1
   clear b1
   go_wp2_with fail
   obtain ⟨f1, hw, kr, b1⟩ := mk1 e1 [.bool yn, .string ys, .string yd] 32
   rw [← hw]
   replace bb := Below.after bb b1
   replace h3 := shut (h3.out.below b1)
   replace kd := kd.below b1
   clear b1 hw
   generalize e1.heap.size = pr at *
   go_fit (HT.out _ _ _ bb h3.out.r2)
   rintro e e2 ⟨rfl, b1⟩
   replace bb := Below.after bb b1
   replace h3 := shut (h3.out.below b1)
   replace kd := kd.below b1
   replace kr := kr.below b1
   clear b1
   go_wp2_with fail
   obtain ⟨f2, hw, kt, b1⟩ := mk1 e2 [.bool zn, .string zs, .string zd] 32
   rw [← hw]
   replace bb := Below.after bb b1
   replace h3 := shut (h3.out.below b1)
   replace kd := kd.below b1
   replace kr := kr.below b1
   clear b1 hw
   generalize e2.heap.size = pt at *
   go_fit (HC.out _ _ _ bb h3.out.r3)
   rintro e e3 ⟨rfl, b1⟩
   replace bb := Below.after bb b1
   replace h3 := shut (h3.out.below b1)
   replace kd := kd.below b1
   replace kr := kr.below b1
   replace kt := kt.below b1
   clear b1
   go_wp2_with fail
   obtain ⟨f3, hw, kc, b1⟩ := mk1 e3 [.bool xn, .string xs, .string xd] 32
   rw [← hw]
   replace bb := Below.after bb b1
   replace h3 := shut (h3.out.below b1)
   replace kd := kd.below b1
   replace kr := kr.below b1
   replace kt := kt.below b1
   clear b1 hw
   generalize e3.heap.size = pc at *
   have mkS : Hid (∀ w', Cel w' pd [.bool xn, .string xs, .string xd] 32 → Cel w' pr [.bool yn, .string ys, .string yd] 32 → Cel w' pt [.bool zn, .string zs, .string zd] 32 → Cel w' pc [.bool xn, .string xs, .string xd] 32 → (w'.cell? ⟨pd, 0, none⟩ = some (.bool xn) ∧ w'.cell? ⟨pd, 1, none⟩ = some (.string xs) ∧ w'.cell? ⟨pd, 2, none⟩ = some (.string xd) ∧ w'.cell? ⟨pr, 0, none⟩ = some (.bool yn) ∧ w'.cell? ⟨pr, 1, none⟩ = some (.string ys) ∧ w'.cell? ⟨pr, 2, none⟩ = some (.string yd) ∧ w'.cell? ⟨pt, 0, none⟩ = some (.bool zn) ∧ w'.cell? ⟨pt, 1, none⟩ = some (.string zs) ∧ w'.cell? ⟨pt, 2, none⟩ = some (.string zd) ∧ w'.cell? ⟨pc, 0, none⟩ = some (.bool xn) ∧ w'.cell? ⟨pc, 1, none⟩ = some (.string xs) ∧ w'.cell? ⟨pc, 2, none⟩ = some (.string xd))) := fun w' hd hr ht hc => ⟨cel3_0 hd, cel3_1 hd, cel3_2 hd, cel3_0 hr, cel3_1 hr, cel3_2 hr, cel3_0 ht, cel3_1 ht, cel3_2 ht, cel3_0 hc, cel3_1 hc, cel3_2 hc⟩
   go_region_held3 (fun w' => w'.cell? ⟨pd, 0, none⟩ = some (.bool xn) ∧ w'.cell? ⟨pd, 1, none⟩ = some (.string xs) ∧ w'.cell? ⟨pd, 2, none⟩ = some (.string xd) ∧ w'.cell? ⟨pr, 0, none⟩ = some (.bool yn) ∧ w'.cell? ⟨pr, 1, none⟩ = some (.string ys) ∧ w'.cell? ⟨pr, 2, none⟩ = some (.string yd) ∧ w'.cell? ⟨pt, 0, none⟩ = some (.bool zn) ∧ w'.cell? ⟨pt, 1, none⟩ = some (.string zs) ∧ w'.cell? ⟨pt, 2, none⟩ = some (.string zd) ∧ w'.cell? ⟨pc, 0, none⟩ = some (.bool xn) ∧ w'.cell? ⟨pc, 1, none⟩ = some (.string xs) ∧ w'.cell? ⟨pc, 2, none⟩ = some (.string xd)) (first | with_reducible exact mkS.out _ kd kr kt kc | exact mkS.out _ kd kr kt kc) (first | (go_at_call 14; go_fit (HG.out _); rintro e wn ⟨rfl, bn⟩; replace kd := kd.below ⟨bn.os, bn.tape, bn.output, bn.size, bn.block⟩; replace kr := kr.below ⟨bn.os, bn.tape, bn.output, bn.size, bn.block⟩; replace kt := kt.below ⟨bn.os, bn.tape, bn.output, bn.size, bn.block⟩; replace kc := kc.below ⟨bn.os, bn.tape, bn.output, bn.size, bn.block⟩; replace bb := Below.after bb ⟨bn.os, bn.tape, bn.output, bn.size, bn.block⟩) | (go_at_call 15; go_fit (HZ.out _); rintro e wn ⟨rfl, bn⟩; replace kd := kd.below ⟨bn.os, bn.tape, bn.output, bn.size, bn.block⟩; replace kr := kr.below ⟨bn.os, bn.tape, bn.output, bn.size, bn.block⟩; replace kt := kt.below ⟨bn.os, bn.tape, bn.output, bn.size, bn.block⟩; replace kc := kc.below ⟨bn.os, bn.tape, bn.output, bn.size, bn.block⟩; replace bb := Below.after bb ⟨bn.os, bn.tape, bn.output, bn.size, bn.block⟩) | (go_at_call 12; go_fit (HL.out _ ?_); (first | exact bb | exact bb.drew); rintro e wn ⟨rfl, bn⟩; replace kd := kd.below ⟨bn.os, bn.tape, bn.output, bn.size, bn.block⟩; replace kr := kr.below ⟨bn.os, bn.tape, bn.output, bn.size, bn.block⟩; replace kt := kt.below ⟨bn.os, bn.tape, bn.output, bn.size, bn.block⟩; replace kc := kc.below ⟨bn.os, bn.tape, bn.output, bn.size, bn.block⟩; replace bb := Below.after bb ⟨bn.os, bn.tape, bn.output, bn.size, bn.block⟩))
   all_goals (try go_wp2)
   all_goals go_ret
   all_goals exact ⟨rfl, bb⟩
end Go.Proofs.YtgihiaaodkkkbaaGreatDoor
