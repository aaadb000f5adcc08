/-
  gussetref03: Order, Sum, Negate, Less, walked.
  gussetref03: Lowest, where the divisor is below 0; Lowest, of any.
  gussetref03: Sum, the long way, walked.
  gussetref03: Order, Sum, Negate, Less, of any two.
-/
import Derived.Lib.AppendIntMem
import Derived.Shelf.LaysM
import Derived.Shelf.Strconv.Itoa2
import Derived.Test.YtgihiaaodkkkbaaGreatDoorG30
namespace Go.Proofs.YtgihiaaodkkkbaaGreatDoor
open Go.RowKit Go.Shelf

set_option maxRecDepth 100000 in
set_option maxHeartbeats 4000000 in
theorem rnegq_walk (n0 xN : Bool) (s0 d0 xS : ByteArray) (w : World)
  (H1 : Hid (∀ w1, Calls Tryz.prog 44 #[.agg #[.bool n0, .string s0]] w1 fun e w' => e = .returned (.agg #[.bool xN, .string xS]) ∧ Below w1.heap.size w1 w')) :
  Calls Tryz.prog 14 #[.agg #[.bool n0, .string s0, .string d0]] w fun e w' => e = .returned (.agg #[.bool xN, .string xS, .string d0]) ∧ Below w.heap.size w w' := by
 go_enter Tryz.func14, Tryz.ntmps14
 go_wp2_with fail
 obtain ⟨w1, hw, ka, kr, b1⟩ := mk2 w [.bool n0, .string s0, .string d0] [.bool false, .string { data := #[] }, .string { data := #[] }] 32 32
 rw [← hw]
 clear hw
 have sz := b1.size
 have ta := ka.lt
 have tr := kr.lt
 have bb := b1
 clear b1
 have qa : w.heap.size ≠ w.heap.size + 1 := by omega
 go_region_held3 (fun w' => w'.cell? ⟨w.heap.size, 0, none⟩ = some (.bool n0) ∧ w'.cell? ⟨w.heap.size, 1, none⟩ = some (.string s0) ∧ w'.cell? ⟨w.heap.size, 2, none⟩ = some (.string d0)) (first | exact ⟨cel3_0 ka, cel3_1 ka, cel3_2 ka⟩ | exact ⟨cel3_0 (Cel.other (Cel.other (Cel.other ka qa 0 _) qa 1 _) qa 2 _), cel3_1 (Cel.other (Cel.other (Cel.other ka qa 0 _) qa 1 _) qa 2 _), cel3_2 (Cel.other (Cel.other (Cel.other ka qa 0 _) qa 1 _) qa 2 _)⟩) (first | (go_at_call 44; go_fit (H1.out _); rintro e wn ⟨rfl, bn⟩; replace ka := ka.below ⟨bn.os, bn.tape, bn.output, bn.size, bn.block⟩; replace kr := kr.below ⟨bn.os, bn.tape, bn.output, bn.size, bn.block⟩; replace bb := Below.after bb ⟨bn.os, bn.tape, bn.output, bn.size, bn.block⟩; have e0 := cel3_0 kr; have f0 := Cel.frozen kr 0; have e1 := cel3_1 kr; have f1 := Cel.frozen kr 1; have e2 := cel3_2 kr; have f2 := Cel.frozen kr 2) | fail)
 go_wp2
 exact post_q (p := 2) (by kernel_rfl) rfl rfl (((kr.set 0 _).set 1 _).set 2 _) ⟨rfl, bset (bset (bset bb (by omega) 0 _) (by omega) 1 _) (by omega) 2 _⟩
end Go.Proofs.YtgihiaaodkkkbaaGreatDoor
namespace Go.Proofs.YtgihiaaodkkkbaaGreatDoor
open Go.RowKit Go.Shelf

set_option maxHeartbeats 1000000 in
theorem rneg_some (n : Bool) (s : ByteArray) (w : World) (hs : s.toList.isEmpty = false) :
  Calls Tryz.prog 44 #[.agg #[.bool n, .string s]] w fun e w' => e = .returned (.agg #[.bool (!n), .string s]) ∧ Below w.heap.size w w' := by
 cases n
 ·go_enter Tryz.func44, Tryz.ntmps44
  go_wp2
  obtain ⟨w0, hw, k0, k1, b⟩ := mk2 w [.bool false, .string s] [.bool true, .string s] 30 30
  rw [← hw]
  exact post_z (p := 2) (by kernel_rfl) rfl rfl k1 ⟨rfl, b⟩
 ·go_enter Tryz.func44, Tryz.ntmps44
  go_wp2
  obtain ⟨w0, hw, k0, k1, b⟩ := mk2 w [.bool true, .string s] [.bool false, .string s] 30 30
  rw [← hw]
  exact post_z (p := 2) (by kernel_rfl) rfl rfl k1 ⟨rfl, b⟩
set_option maxHeartbeats 1000000 in
theorem rneg_none (w : World) :
  Calls Tryz.prog 44 #[.agg #[.bool false, .string ByteArray.empty]] w fun e w' => e = .returned (.agg #[.bool false, .string ByteArray.empty]) ∧ Below w.heap.size w w' := by
 go_enter Tryz.func44, Tryz.ntmps44
 go_wp2
 obtain ⟨w0, hw, k0, k1, b⟩ := mk2 w [.bool false, .string ByteArray.empty] [.bool false, .string ByteArray.empty] 30 30
 rw [← hw]
 exact post_z (p := 2) (by kernel_rfl) rfl rfl k1 ⟨rfl, b⟩
/-- The negative, in its one form. -/
theorem rneg_ok (n : Bool) (s : ByteArray) (o : OkZ n s) : ∃ m, zOf m s = -zOf n s ∧ OkZ m s ∧ ∀ w, Calls Tryz.prog 44 #[.agg #[.bool n, .string s]] w fun e w' => e = .returned (.agg #[.bool m, .string s]) ∧ Below w.heap.size w w' := by
 by_cases hs : 0 < s.size
 ·exact ⟨!n, by cases n <;> simp [zOf], ⟨o.1, fun _ => hs⟩, fun w => rneg_some n s w (by simpa using toList_ne hs)⟩
 ·have g3 : s = ByteArray.empty := ByteArray.size_eq_zero_iff.1 (by omega)
  subst g3
  have hn : n = false := by
   cases n with
   | false => rfl
   | true => exact absurd (o.2 rfl) hs
  subst hn
  exact ⟨false, rfl, o, fun w => rneg_none w⟩
end Go.Proofs.YtgihiaaodkkkbaaGreatDoor
namespace Go.Proofs.YtgihiaaodkkkbaaGreatDoor
open Go.RowKit Go.Shelf

end Go.Proofs.YtgihiaaodkkkbaaGreatDoor
namespace Go.Proofs.YtgihiaaodkkkbaaGreatDoor
open Go.RowKit Go.Shelf

theorem toList_inj {d e : ByteArray} (h : (d.toList == e.toList) = true) : d = e := by
 have h2 := eq_of_beq h
 rw [ByteArray.toList_eq, ByteArray.toList_eq] at h2
 obtain ⟨⟨l⟩⟩ := d
 obtain ⟨⟨m⟩⟩ := e
 have h3 : l = m := h2
 rw [h3]
theorem rnegq_ok (n : Bool) (s d : ByteArray) (o : OkQ n s d) : ∃ m, OkQ m s d ∧ qOf m s d = -qOf n s d ∧ ∀ w, Calls Tryz.prog 14 #[.agg #[.bool n, .string s, .string d]] w fun e w' => e = .returned (.agg #[.bool m, .string s, .string d]) ∧ Below w.heap.size w w' := by
 obtain ⟨m, h1, h2, h3⟩ := rneg_ok n s o.1
 refine ⟨m, ⟨h2, o.2⟩, ?_, fun w => rnegq_walk n m s d s w h3⟩
 unfold qOf
 rw [h1, Rat.neg_mkRat]
end Go.Proofs.YtgihiaaodkkkbaaGreatDoor
