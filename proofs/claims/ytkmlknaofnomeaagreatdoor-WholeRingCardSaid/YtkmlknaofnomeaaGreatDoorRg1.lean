/-
  gussetlaw02.WholeRing, walked: whatever its calls tell.
-/
import Derived.Test.YtkmlknaofnomeaaGreatDoorG26
namespace Go.Proofs.YtkmlknaofnomeaaGreatDoor
open Go.RowKit Go.Shelf

set_option maxRecDepth 100000 in
set_option maxHeartbeats 8000000 in
theorem ring_walk (n0 n1 n2 ns np nq nr nt nd : Bool) (s0 s1 s2 ss sp sq sr st sd : ByteArray) (ev fv gv hv iv jv : Nat) (w : World) (hT : Tab w) (h0 : s0.size ≤ 400) (h1 : s1.size ≤ 400) (h2 : s2.size ≤ 400)
    (H1 : Hid (∀ w, Calls Tryz.prog 13 #[.agg #[.bool n0, .string s0], .agg #[.bool n1, .string s1]] w fun e w' => e = .returned (.tuple #[.agg #[.bool ns, .string ss], .int .i64 (ev : Nat)]) ∧ Below w.heap.size w w'))
    (H2 : Hid (∀ w, Calls Tryz.prog 15 #[.agg #[.bool ns, .string ss], .agg #[.bool n2, .string s2]] w fun e w' => e = .returned (.tuple #[.agg #[.bool np, .string sp], .int .i64 (fv : Nat)]) ∧ Below w.heap.size w w'))
    (H3 : Hid (∀ w, Calls Tryz.prog 15 #[.agg #[.bool n0, .string s0], .agg #[.bool n2, .string s2]] w fun e w' => e = .returned (.tuple #[.agg #[.bool nq, .string sq], .int .i64 (gv : Nat)]) ∧ Below w.heap.size w w'))
    (H4 : Hid (∀ w, Calls Tryz.prog 15 #[.agg #[.bool n1, .string s1], .agg #[.bool n2, .string s2]] w fun e w' => e = .returned (.tuple #[.agg #[.bool nr, .string sr], .int .i64 (hv : Nat)]) ∧ Below w.heap.size w w'))
    (H5 : Hid (∀ w, Calls Tryz.prog 13 #[.agg #[.bool nq, .string sq], .agg #[.bool nr, .string sr]] w fun e w' => e = .returned (.tuple #[.agg #[.bool nt, .string st], .int .i64 (iv : Nat)]) ∧ Below w.heap.size w w'))
    (H6 : Hid (∀ w, Calls Tryz.prog 14 #[.agg #[.bool ns, .string ss], .agg #[.bool n1, .string s1]] w fun e w' => e = .returned (.tuple #[.agg #[.bool nd, .string sd], .int .i64 (jv : Nat)]) ∧ Below w.heap.size w w'))
    (hfin : ev = 0 → fv = 0 → gv = 0 → hv = 0 → iv = 0 → jv = 0 → np = nt ∧ sp = st ∧ nd = n0 ∧ sd = s0) :
    Calls Tryz.prog 7 #[.agg #[.bool n0, .string s0], .agg #[.bool n1, .string s1], .agg #[.bool n2, .string s2]] w fun e w' => e = .returned (.bool true) ∧ Below w.heap.size w w' := by
  have HF := shut hfin
  clear hfin
  go_enter Tryz.func7, Tryz.ntmps7
  go_wp2_with fail
  obtain ⟨w0, hw0, ka, kb, kc, bb⟩ := bx3 w (.bool n0) (.string s0) (.bool n1) (.string s1) (.bool n2) (.string s2)
  rw [← hw0]
  clear hw0
  refine (small_yes n0 n1 s0 s1 w0 h0 h1).mono ?_
  rintro e w1 ⟨rfl, b1⟩
  replace ka := ka.below b1
  replace kb := kb.below b1
  replace kc := kc.below b1
  replace bb := Below.after bb b1
  clear b1
  have ca0 := cel2_0' ka
  have ca1 := cel2_1' ka
  have cb0 := cel2_0' kb
  have cb1 := cel2_1' kb
  have cc0 := cel2_0' kc
  have cc1 := cel2_1' kc
  go_wp2_with fail
  clear ca0 ca1 cb0 cb1 cc0 cc1
  refine (H1.out w1).mono ?_
  rintro e w2 ⟨rfl, b1⟩
  replace ka := ka.below b1
  replace kb := kb.below b1
  replace kc := kc.below b1
  replace bb := Below.after bb b1
  clear b1 H1
  obtain ⟨w3, hw, ks, b1⟩ := bx1 w2 (.bool ns) (.string ss)
  have cc0 := cel2_0' (kc.alloc (.cells #[.bool ns, .string ss] 24))
  have cc1 := cel2_1' (kc.alloc (.cells #[.bool ns, .string ss] 24))
  go_wp2_with fail
  rw [← hw]
  clear hw cc0 cc1
  replace ka := ka.below b1
  replace kb := kb.below b1
  replace kc := kc.below b1
  replace bb := Below.after bb b1
  clear b1
  refine (H2.out w3).mono ?_
  rintro e w4 ⟨rfl, b1⟩
  replace ka := ka.below b1
  replace kb := kb.below b1
  replace kc := kc.below b1
  replace ks := ks.below b1
  replace bb := Below.after bb b1
  clear b1 H2
  obtain ⟨w5, hw, kp, b1⟩ := bx1 w4 (.bool np) (.string sp)
  have ca0 := cel2_0' (ka.alloc (.cells #[.bool np, .string sp] 24))
  have ca1 := cel2_1' (ka.alloc (.cells #[.bool np, .string sp] 24))
  have cc0 := cel2_0' (kc.alloc (.cells #[.bool np, .string sp] 24))
  have cc1 := cel2_1' (kc.alloc (.cells #[.bool np, .string sp] 24))
  go_wp2_with fail
  rw [← hw]
  clear hw ca0 ca1 cc0 cc1
  replace ka := ka.below b1
  replace kb := kb.below b1
  replace kc := kc.below b1
  replace ks := ks.below b1
  replace bb := Below.after bb b1
  clear b1
  refine (H3.out w5).mono ?_
  rintro e w6 ⟨rfl, b1⟩
  replace ka := ka.below b1
  replace kb := kb.below b1
  replace kc := kc.below b1
  replace ks := ks.below b1
  replace kp := kp.below b1
  replace bb := Below.after bb b1
  clear b1 H3
  obtain ⟨w7, hw, kq, b1⟩ := bx1 w6 (.bool nq) (.string sq)
  have cb0 := cel2_0' (kb.alloc (.cells #[.bool nq, .string sq] 24))
  have cb1 := cel2_1' (kb.alloc (.cells #[.bool nq, .string sq] 24))
  have cc0 := cel2_0' (kc.alloc (.cells #[.bool nq, .string sq] 24))
  have cc1 := cel2_1' (kc.alloc (.cells #[.bool nq, .string sq] 24))
  go_wp2_with fail
  rw [← hw]
  clear hw cb0 cb1 cc0 cc1
  replace ka := ka.below b1
  replace kb := kb.below b1
  replace kc := kc.below b1
  replace ks := ks.below b1
  replace kp := kp.below b1
  replace bb := Below.after bb b1
  clear b1
  refine (H4.out w7).mono ?_
  rintro e w8 ⟨rfl, b1⟩
  replace ka := ka.below b1
  replace kb := kb.below b1
  replace kc := kc.below b1
  replace ks := ks.below b1
  replace kp := kp.below b1
  replace kq := kq.below b1
  replace bb := Below.after bb b1
  clear b1 H4
  obtain ⟨w9, hw, kr, b1⟩ := bx1 w8 (.bool nr) (.string sr)
  have cq0 := cel2_0' (kq.alloc (.cells #[.bool nr, .string sr] 24))
  have cq1 := cel2_1' (kq.alloc (.cells #[.bool nr, .string sr] 24))
  go_wp2_with fail
  rw [← hw]
  clear hw cq0 cq1
  replace ka := ka.below b1
  replace kb := kb.below b1
  replace kc := kc.below b1
  replace ks := ks.below b1
  replace kp := kp.below b1
  replace kq := kq.below b1
  replace bb := Below.after bb b1
  clear b1
  refine (H5.out w9).mono ?_
  rintro e w10 ⟨rfl, b1⟩
  replace ka := ka.below b1
  replace kb := kb.below b1
  replace kc := kc.below b1
  replace ks := ks.below b1
  replace kp := kp.below b1
  replace kq := kq.below b1
  replace kr := kr.below b1
  replace bb := Below.after bb b1
  clear b1 H5
  obtain ⟨w11, hw, kt, b1⟩ := bx1 w10 (.bool nt) (.string st)
  have cs0 := cel2_0' (ks.alloc (.cells #[.bool nt, .string st] 24))
  have cs1 := cel2_1' (ks.alloc (.cells #[.bool nt, .string st] 24))
  have cb0 := cel2_0' (kb.alloc (.cells #[.bool nt, .string st] 24))
  have cb1 := cel2_1' (kb.alloc (.cells #[.bool nt, .string st] 24))
  go_wp2_with fail
  rw [← hw]
  clear hw cs0 cs1 cb0 cb1
  replace ka := ka.below b1
  replace kb := kb.below b1
  replace kc := kc.below b1
  replace ks := ks.below b1
  replace kp := kp.below b1
  replace kq := kq.below b1
  replace kr := kr.below b1
  replace bb := Below.after bb b1
  clear b1
  refine (H6.out w11).mono ?_
  rintro e w12 ⟨rfl, b1⟩
  replace ka := ka.below b1
  replace kb := kb.below b1
  replace kc := kc.below b1
  replace ks := ks.below b1
  replace kp := kp.below b1
  replace kq := kq.below b1
  replace kr := kr.below b1
  replace kt := kt.below b1
  replace bb := Below.after bb b1
  clear b1 H6
  obtain ⟨w13, hw, kd, b1⟩ := bx1 w12 (.bool nd) (.string sd)
  replace ka := ka.below b1
  replace kb := kb.below b1
  replace kc := kc.below b1
  replace ks := ks.below b1
  replace kp := kp.below b1
  replace kq := kq.below b1
  replace kr := kr.below b1
  replace kt := kt.below b1
  replace bb := Below.after bb b1
  clear b1
  have HL := shut (live2_any w13 (hT.below bb))
  clear hT
  by_cases zev : ev = 0
  rotate_left
  · have z' : ¬ ((ev : Nat) : Int) = 0 := by omega
    rw [hw] at HL
    clear HF
    go_wp2_with fail
    rw [← hw] at HL ⊢
    refine HL.out.mono ?_
    rintro e wl ⟨rfl, bl⟩
    replace bb := Below.after bb bl
    clear hw
    go_wp2
    go_ret
    exact ⟨rfl, bb⟩
  by_cases zfv : fv = 0
  rotate_left
  · have z' : ¬ ((fv : Nat) : Int) = 0 := by omega
    rw [hw] at HL
    clear HF
    go_wp2_with fail
    rw [← hw] at HL ⊢
    refine HL.out.mono ?_
    rintro e wl ⟨rfl, bl⟩
    replace bb := Below.after bb bl
    clear hw
    go_wp2
    go_ret
    exact ⟨rfl, bb⟩
  by_cases zgv : gv = 0
  rotate_left
  · have z' : ¬ ((gv : Nat) : Int) = 0 := by omega
    rw [hw] at HL
    clear HF
    go_wp2_with fail
    rw [← hw] at HL ⊢
    refine HL.out.mono ?_
    rintro e wl ⟨rfl, bl⟩
    replace bb := Below.after bb bl
    clear hw
    go_wp2
    go_ret
    exact ⟨rfl, bb⟩
  by_cases zhv : hv = 0
  rotate_left
  · have z' : ¬ ((hv : Nat) : Int) = 0 := by omega
    rw [hw] at HL
    clear HF
    go_wp2_with fail
    rw [← hw] at HL ⊢
    refine HL.out.mono ?_
    rintro e wl ⟨rfl, bl⟩
    replace bb := Below.after bb bl
    clear hw
    go_wp2
    go_ret
    exact ⟨rfl, bb⟩
  by_cases ziv : iv = 0
  rotate_left
  · have z' : ¬ ((iv : Nat) : Int) = 0 := by omega
    rw [hw] at HL
    clear HF
    go_wp2_with fail
    rw [← hw] at HL ⊢
    refine HL.out.mono ?_
    rintro e wl ⟨rfl, bl⟩
    replace bb := Below.after bb bl
    clear hw
    go_wp2
    go_ret
    exact ⟨rfl, bb⟩
  by_cases zjv : jv = 0
  rotate_left
  · have z' : ¬ ((jv : Nat) : Int) = 0 := by omega
    rw [hw] at HL
    clear HF
    go_wp2_with fail
    rw [← hw] at HL ⊢
    refine HL.out.mono ?_
    rintro e wl ⟨rfl, bl⟩
    replace bb := Below.after bb bl
    clear hw
    go_wp2
    go_ret
    exact ⟨rfl, bb⟩
  obtain ⟨rfl, rfl, rfl, rfl⟩ := HF.out zev zfv zgv zhv ziv zjv
  subst zev zfv zgv zhv ziv zjv
  have cp0 := cel2_0' kp
  have cp1 := cel2_1' kp
  have ct0 := cel2_0' kt
  have ct1 := cel2_1' kt
  have cd0 := cel2_0' kd
  have cd1 := cel2_1' kd
  have ca0 := cel2_0' ka
  have ca1 := cel2_1' ka
  rw [hw] at HL cp0 cp1 ct0 ct1 cd0 cd1 ca0 ca1
  go_wp2_with fail
  rw [← hw] at HL ⊢
  refine HL.out.mono ?_
  rintro e wl ⟨rfl, bl⟩
  replace bb := Below.after bb bl
  clear hw
  go_wp2
  go_ret
  exact ⟨rfl, bb⟩
end Go.Proofs.YtkmlknaofnomeaaGreatDoor
