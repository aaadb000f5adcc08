/-
  Package whole: Print of a number that may not be; Div of any two.
-/
import Derived.Test.YtimmgjlojplccaaGreatDoorG39
import Derived.Test.YtimmgjlojplccaaGreatDoorG25
namespace Go.Proofs.YtimmgjlojplccaaGreatDoor
open Go.RowKit Go.Shelf

set_option maxRecDepth 100000 in
set_option maxHeartbeats 2000000 in
theorem read1_bad (B : Nat) (n0 : Bool) (s0 : ByteArray) (w : World) (hB : Cel w B [.bool n0, .string s0] 24) (hbad : chk n0 s0 ≠ 0) :
    Calls Tryz.prog 23 #[.slice (some ⟨B, 0, none⟩) 1 1] w fun e w' => e = .returned (.tuple #[.slice none 0 0, .int .i64 (chk n0 s0 : Nat)]) ∧ Below w.heap.size w w' := by
  have hmk := run_mk1 w
  obtain ⟨c, hcc⟩ : ∃ c, c = chk n0 s0 := ⟨_, rfl⟩
  rw [← hcc] at hbad ⊢
  have HCC := shut hcc
  clear hcc
  have hbad' : ¬ (c : Int) = 0 := by omega
  go_enter Tryz.func23, Tryz.ntmps23
  go_wp2
  go_loopw [15] (fun i wr => Below w.heap.size w wr ∧ i = .int .i64 0) (fun i _ => 2 - (intOf i).toNat)
  case atStart => exact ⟨(Below.refl _ _).alloc (Nat.le_refl _) _, rfl⟩
  case round =>
    obtain ⟨hbel, rfl⟩ := hrel
    have kB := hB.below hbel
    have b0 := cel2_0' kB
    have b1 := cel2_1' kB
    clear kB
    go_wp2_with fail
    obtain ⟨w1, hw1⟩ : ∃ w1, w1 = wr.alloc (.cells #[.bool n0, .string s0] 24) := ⟨_, rfl⟩
    have hb1 : Below wr.heap.size wr w1 := by rw [hw1]; exact (Below.refl _ _).alloc (Nat.le_refl _) _
    rw [← hw1]
    clear hw1 b0 b1
    refine (check_any n0 s0 w1).mono ?_
    rintro e w2 ⟨rfl, hb2⟩
    rw [← HCC.out]
    have bb2 := Below.after (Below.after hbel hb1) hb2
    go_wp2
    go_ret2
    exact ⟨rfl, bb2⟩

set_option maxRecDepth 100000 in
set_option maxHeartbeats 2000000 in
theorem print_bad (n0 : Bool) (s0 : ByteArray) (w : World) (hbad : chk n0 s0 ≠ 0) :
    Calls Tryz.prog 15 #[.agg #[.bool n0, .string s0]] w fun e w' => e = .returned (.tuple #[.string { data := #[] }, .int .i64 (chk n0 s0 : Nat)]) ∧ Below w.heap.size w w' := by
  have HR := shut (fun B wx hB => read1_bad B n0 s0 wx hB hbad)
  generalize chk n0 s0 = c at *
  have hbad' : ¬ (c : Int) = 0 := by omega
  go_enter Tryz.func15, Tryz.ntmps15
  go_wp2_with fail
  obtain ⟨w0, hw0, k0, k1, hb0⟩ := box2 w (.bool n0) (.string s0)
  rw [← hw0]
  clear hw0
  refine (HR.out _ w0 k1).mono ?_
  rintro e w1 ⟨rfl, hb⟩
  have bb := Below.after hb0 hb
  go_wp2
  go_ret2
  exact ⟨rfl, bb⟩

theorem print_all (n0 : Bool) (s0 : ByteArray) (w : World) (hT : TabP w) (z0 : s0.size ≤ 400) : ∃ T : ByteArray,
    ∀ w', Below w.heap.size w w' → Calls Tryz.prog 15 #[.agg #[.bool n0, .string s0]] w' fun e w'' => e = .returned (.tuple #[.string T, .int .i64 (chk n0 s0 : Nat)]) ∧ Below w'.heap.size w' w'' := by
  by_cases h : chk n0 s0 = 0
  · refine ⟨if dt (natOf s0) = [] then ⟨#[48]⟩ else if n0 then strB (45 :: dt (natOf s0)) else strB (dt (natOf s0)), fun w' b => ?_⟩
    rw [h]
    exact print_any n0 s0 w' (hT.below b hT.lt) ((chk_ok (by omega)).1 h) z0 _ rfl
  · exact ⟨_, fun w' _ => print_bad n0 s0 w' h⟩
theorem div_all (n0 n1 : Bool) (s0 s1 : ByteArray) (z0 : s0.size ≤ 400) (z1 : s1.size ≤ 400) : ∃ (nd ne : Bool) (sd se : ByteArray) (J : Int), (J = ((two n0 s0 n1 s1 : Nat) : Int) ∨ (((two n0 s0 n1 s1 : Nat) : Int) = 0 ∧ J = 3)) ∧
    ∀ w, Calls Tryz.prog 13 #[.agg #[.bool n0, .string s0], .agg #[.bool n1, .string s1]] w fun e w' => e = .returned (.tuple #[.agg #[.bool nd, .string sd], .agg #[.bool ne, .string se], .int .i64 J]) ∧ Below w.heap.size w w' := by
  by_cases h : two n0 s0 n1 s1 = 0
  · have o0 := (chk_zero (two_zero.1 h).1).2
    have o1 := (chk_zero (two_zero.1 h).2).2
    rcases Nat.eq_zero_or_pos (natOf s1) with hY | hY
    · exact ⟨_, _, _, _, 3, Or.inr ⟨by rw [h]; rfl, rfl⟩, fun w => zdiv_zero n0 n1 s0 s1 w o0 o1 (by omega) (by omega) hY⟩
    · exact ⟨_, _, _, _, 0, Or.inl (by rw [h]; rfl), fun w => zdiv_ok n0 n1 s0 s1 w o0 o1 (by omega) (by omega) hY⟩
  · exact ⟨_, _, _, _, _, Or.inl rfl, fun w => zdiv_bad n0 n1 s0 s1 w h⟩
end Go.Proofs.YtimmgjlojplccaaGreatDoor
