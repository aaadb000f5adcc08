/-
  gussetlaw02.WholeOrders, walked: whatever its calls tell.
-/
import Derived.Test.YtkmlknaofnomeaaGreatDoorG26
namespace Go.Proofs.YtkmlknaofnomeaaGreatDoor
open Go.RowKit Go.Shelf

set_option maxRecDepth 100000 in
set_option maxHeartbeats 8000000 in
theorem orders_walk (n0 n1 n2 nd ns nt : Bool) (s0 s1 s2 sd ss st : ByteArray) (x y z u : Int) (ev fv gv hv iv jv kv : Nat) (w : World) (hT : Tab w) (h0 : s0.size ≤ 400) (h1 : s1.size ≤ 400) (h2 : s2.size ≤ 400)
    (H1 : Hid (∀ w, Calls Tryz.prog 12 #[.agg #[.bool n0, .string s0], .agg #[.bool n1, .string s1]] w fun e w' => e = .returned (.tuple #[.int .i64 x, .int .i64 (ev : Nat)]) ∧ Below w.heap.size w w'))
    (H2 : Hid (∀ w, Calls Tryz.prog 12 #[.agg #[.bool n1, .string s1], .agg #[.bool n0, .string s0]] w fun e w' => e = .returned (.tuple #[.int .i64 y, .int .i64 (fv : Nat)]) ∧ Below w.heap.size w w'))
    (H3 : Hid (∀ w, Calls Tryz.prog 14 #[.agg #[.bool n0, .string s0], .agg #[.bool n1, .string s1]] w fun e w' => e = .returned (.tuple #[.agg #[.bool nd, .string sd], .int .i64 (gv : Nat)]) ∧ Below w.heap.size w w'))
    (H4 : Hid (∀ w, Calls Tryz.prog 13 #[.agg #[.bool n0, .string s0], .agg #[.bool n2, .string s2]] w fun e w' => e = .returned (.tuple #[.agg #[.bool ns, .string ss], .int .i64 (hv : Nat)]) ∧ Below w.heap.size w w'))
    (H5 : Hid (∀ w, Calls Tryz.prog 13 #[.agg #[.bool n1, .string s1], .agg #[.bool n2, .string s2]] w fun e w' => e = .returned (.tuple #[.agg #[.bool nt, .string st], .int .i64 (iv : Nat)]) ∧ Below w.heap.size w w'))
    (H6 : Hid (∀ w, Calls Tryz.prog 12 #[.agg #[.bool nd, .string sd], .agg #[.bool false, .string { data := #[] }]] w fun e w' => e = .returned (.tuple #[.int .i64 z, .int .i64 (jv : Nat)]) ∧ Below w.heap.size w w'))
    (H7 : Hid (∀ w, Calls Tryz.prog 12 #[.agg #[.bool ns, .string ss], .agg #[.bool nt, .string st]] w fun e w' => e = .returned (.tuple #[.int .i64 u, .int .i64 (kv : Nat)]) ∧ Below w.heap.size w w'))
    (hfin : ev = 0 → fv = 0 → gv = 0 → hv = 0 → iv = 0 → x = -y ∧ z = -y ∧ jv = 0 ∧ u = -y ∧ kv = 0) (hy1 : -1 ≤ y) (hy2 : y ≤ 1) :
    Calls Tryz.prog 8 #[.agg #[.bool n0, .string s0], .agg #[.bool n1, .string s1], .agg #[.bool n2, .string s2]] w fun e w' => e = .returned (.bool true) ∧ Below w.heap.size w w' := by
  have HF := shut hfin
  clear hfin
  have HY : Hid (IntKind.i64.wrap (-y) = -y) := by show _ = _; simp only [IntKind.wrap_i64]; omega
  clear hy1 hy2
  go_enter Tryz.func8, Tryz.ntmps8
  go_wp2_with fail
  obtain ⟨w0, hw0, ka, kb, kc, bb⟩ := bx3 w (.bool n0) (.string s0) (.bool n1) (.string s1) (.bool n2) (.string s2)
  rw [← hw0]
  clear hw0
  refine (small_yes n0 n1 s0 s1 w0 h0 h1).mono ?_
  rintro e w1 ⟨rfl, b1⟩
  replace ka := ka.below b1
  replace kb := kb.below b1
  replace kc := kc.below b1
  replace bb := Below.after bb b1
  clear b1
  have ca0 := cel2_0' ka
  have ca1 := cel2_1' ka
  have cb0 := cel2_0' kb
  have cb1 := cel2_1' kb
  have cc0 := cel2_0' kc
  have cc1 := cel2_1' kc
  go_wp2_with fail
  clear ca0 ca1 cb0 cb1 cc0 cc1
  refine (H1.out w1).mono ?_
  rintro e w2 ⟨rfl, b1⟩
  replace ka := ka.below b1
  replace kb := kb.below b1
  replace kc := kc.below b1
  replace bb := Below.after bb b1
  clear b1 H1
  have cb0 := cel2_0' kb
  have cb1 := cel2_1' kb
  have ca0 := cel2_0' ka
  have ca1 := cel2_1' ka
  go_wp2_with fail
  clear cb0 cb1 ca0 ca1
  refine (H2.out w2).mono ?_
  rintro e w3 ⟨rfl, b1⟩
  replace ka := ka.below b1
  replace kb := kb.below b1
  replace kc := kc.below b1
  replace bb := Below.after bb b1
  clear b1 H2
  have ca0 := cel2_0' ka
  have ca1 := cel2_1' ka
  have cb0 := cel2_0' kb
  have cb1 := cel2_1' kb
  go_wp2_with fail
  clear ca0 ca1 cb0 cb1
  refine (H3.out w3).mono ?_
  rintro e w4 ⟨rfl, b1⟩
  replace ka := ka.below b1
  replace kb := kb.below b1
  replace kc := kc.below b1
  replace bb := Below.after bb b1
  clear b1 H3
  obtain ⟨w5, hw, kd, b1⟩ := bx1 w4 (.bool nd) (.string sd)
  have ca0 := cel2_0' (ka.alloc (.cells #[.bool nd, .string sd] 24))
  have ca1 := cel2_1' (ka.alloc (.cells #[.bool nd, .string sd] 24))
  have cc0 := cel2_0' (kc.alloc (.cells #[.bool nd, .string sd] 24))
  have cc1 := cel2_1' (kc.alloc (.cells #[.bool nd, .string sd] 24))
  go_wp2_with fail
  rw [← hw]
  clear hw ca0 ca1 cc0 cc1
  replace ka := ka.below b1
  replace kb := kb.below b1
  replace kc := kc.below b1
  replace bb := Below.after bb b1
  clear b1
  refine (H4.out w5).mono ?_
  rintro e w6 ⟨rfl, b1⟩
  replace ka := ka.below b1
  replace kb := kb.below b1
  replace kc := kc.below b1
  replace kd := kd.below b1
  replace bb := Below.after bb b1
  clear b1 H4
  obtain ⟨w7, hw, ks, b1⟩ := bx1 w6 (.bool ns) (.string ss)
  have cb0 := cel2_0' (kb.alloc (.cells #[.bool ns, .string ss] 24))
  have cb1 := cel2_1' (kb.alloc (.cells #[.bool ns, .string ss] 24))
  have cc0 := cel2_0' (kc.alloc (.cells #[.bool ns, .string ss] 24))
  have cc1 := cel2_1' (kc.alloc (.cells #[.bool ns, .string ss] 24))
  go_wp2_with fail
  rw [← hw]
  clear hw cb0 cb1 cc0 cc1
  replace ka := ka.below b1
  replace kb := kb.below b1
  replace kc := kc.below b1
  replace kd := kd.below b1
  replace bb := Below.after bb b1
  clear b1
  refine (H5.out w7).mono ?_
  rintro e w8 ⟨rfl, b1⟩
  replace ka := ka.below b1
  replace kb := kb.below b1
  replace kc := kc.below b1
  replace kd := kd.below b1
  replace ks := ks.below b1
  replace bb := Below.after bb b1
  clear b1 H5
  obtain ⟨w9, hw, kt, b1⟩ := bx1 w8 (.bool nt) (.string st)
  replace ka := ka.below b1
  replace kb := kb.below b1
  replace kc := kc.below b1
  replace kd := kd.below b1
  replace ks := ks.below b1
  replace bb := Below.after bb b1
  clear b1
  have HL := shut (fun wl (bl : Below w.heap.size w wl) => live2_any wl (hT.below bl))
  clear hT
  by_cases zev : ev = 0
  rotate_left
  · have z' : ¬ ((ev : Nat) : Int) = 0 := by omega
    clear HF HY
    go_wp2_with fail
    rw [← hw]
    refine (HL.out w9 bb).mono ?_
    rintro e wl ⟨rfl, bl⟩
    replace bb := Below.after bb bl
    clear hw
    go_wp2
    go_ret
    exact ⟨rfl, bb⟩
  by_cases zfv : fv = 0
  rotate_left
  · have z' : ¬ ((fv : Nat) : Int) = 0 := by omega
    clear HF HY
    go_wp2_with fail
    rw [← hw]
    refine (HL.out w9 bb).mono ?_
    rintro e wl ⟨rfl, bl⟩
    replace bb := Below.after bb bl
    clear hw
    go_wp2
    go_ret
    exact ⟨rfl, bb⟩
  by_cases zgv : gv = 0
  rotate_left
  · have z' : ¬ ((gv : Nat) : Int) = 0 := by omega
    clear HF HY
    go_wp2_with fail
    rw [← hw]
    refine (HL.out w9 bb).mono ?_
    rintro e wl ⟨rfl, bl⟩
    replace bb := Below.after bb bl
    clear hw
    go_wp2
    go_ret
    exact ⟨rfl, bb⟩
  by_cases zhv : hv = 0
  rotate_left
  · have z' : ¬ ((hv : Nat) : Int) = 0 := by omega
    clear HF HY
    go_wp2_with fail
    rw [← hw]
    refine (HL.out w9 bb).mono ?_
    rintro e wl ⟨rfl, bl⟩
    replace bb := Below.after bb bl
    clear hw
    go_wp2
    go_ret
    exact ⟨rfl, bb⟩
  by_cases ziv : iv = 0
  rotate_left
  · have z' : ¬ ((iv : Nat) : Int) = 0 := by omega
    clear HF HY
    go_wp2_with fail
    rw [← hw]
    refine (HL.out w9 bb).mono ?_
    rintro e wl ⟨rfl, bl⟩
    replace bb := Below.after bb bl
    clear hw
    go_wp2
    go_ret
    exact ⟨rfl, bb⟩
  obtain ⟨rfl, rfl, rfl, rfl, rfl⟩ := HF.out zev zfv zgv zhv ziv
  subst zev zfv zgv zhv ziv
  have cd0 := cel2_0' kd
  have cd1 := cel2_1' kd
  rw [hw] at cd0 cd1
  go_wp2_with fail
  rw [← hw]
  clear hw cd0 cd1
  refine (H6.out w9).mono ?_
  rintro e w10 ⟨rfl, b1⟩
  replace ka := ka.below b1
  replace kb := kb.below b1
  replace kc := kc.below b1
  replace kd := kd.below b1
  replace ks := ks.below b1
  replace kt := kt.below b1
  replace bb := Below.after bb b1
  clear b1 H6
  have cs0 := cel2_0' ks
  have cs1 := cel2_1' ks
  have ct0 := cel2_0' kt
  have ct1 := cel2_1' kt
  go_wp2_with fail
  clear cs0 cs1 ct0 ct1
  refine (H7.out w10).mono ?_
  rintro e w11 ⟨rfl, b1⟩
  replace ka := ka.below b1
  replace kb := kb.below b1
  replace kc := kc.below b1
  replace kd := kd.below b1
  replace ks := ks.below b1
  replace kt := kt.below b1
  replace bb := Below.after bb b1
  clear b1 H7
  have hy := HY.out
  go_wp2_with fail
  refine (HL.out _ bb).mono ?_
  rintro e wl ⟨rfl, bl⟩
  replace bb := Below.after bb bl
  go_wp2
  go_ret
  exact ⟨rfl, bb⟩
end Go.Proofs.YtkmlknaofnomeaaGreatDoor
