/-
  gussetref04: Check, Scale; gussetlaw04: VecScales, walked.
-/
import Derived.Lib.AppendIntMem
import Derived.Shelf.LaysM
import Derived.Shelf.Strconv.Itoa2
import Derived.Test.YtlpafjbbeljbhaaGreatDoorG39
namespace Go.Proofs.YtlpafjbbeljbhaaGreatDoor
open Go.RowKit Go.Shelf

set_option maxRecDepth 100000 in
set_option maxHeartbeats 4000000 in
theorem rchk4_walk (n0 n1 : Bool) (s0 d0 s1 d1 : ByteArray) (E : Int) (w : World)
  (H1 : Hid (∀ w1, Calls Tryz.prog 47 #[.agg #[.bool n0, .string s0, .string d0], .agg #[.bool n1, .string s1, .string d1]] w1 fun e w' => e = .returned (.int .i64 E) ∧ Below w1.heap.size w1 w')) :
  Calls Tryz.prog 17 #[.agg #[.bool n0, .string s0, .string d0, .bool n1, .string s1, .string d1]] w fun e w' => e = .returned (.int .i64 E) ∧ Below w.heap.size w w' := by
 go_enter Tryz.func17, Tryz.ntmps17
 go_wp2_with fail
 go_fit (H1.out _)
 rintro e w1 ⟨rfl, b1⟩
 obtain ⟨ka, b1⟩ := al1 b1
 have sz := b1.size
 have bb := b1
 clear b1
 have ta := ka.lt
 go_wp2
 go_ret
 exact ⟨rfl, bb⟩
set_option maxRecDepth 100000 in
set_option maxHeartbeats 8000000 in
theorem rscale_walk (n0 n1 n2 xN yN : Bool) (s0 d0 s1 d1 s2 d2 xS xD yS yD : ByteArray) (w : World)
  (H1 : Hid (∀ w1, Calls Tryz.prog 37 #[.agg #[.bool n0, .string s0, .string d0], .agg #[.bool n2, .string s2, .string d2]] w1 fun e w' => e = .returned (.agg #[.bool xN, .string xS, .string xD]) ∧ Below w1.heap.size w1 w'))
  (H2 : Hid (∀ w1, Calls Tryz.prog 37 #[.agg #[.bool n1, .string s1, .string d1], .agg #[.bool n2, .string s2, .string d2]] w1 fun e w' => e = .returned (.agg #[.bool yN, .string yS, .string yD]) ∧ Below w1.heap.size w1 w')) :
  Calls Tryz.prog 27 #[.agg #[.bool n0, .string s0, .string d0, .bool n1, .string s1, .string d1], .agg #[.bool n2, .string s2, .string d2]] w fun e w' => e = .returned (.agg #[.bool xN, .string xS, .string xD, .bool yN, .string yS, .string yD]) ∧ Below w.heap.size w w' := by
 go_enter Tryz.func27, Tryz.ntmps27
 go_wp2_with fail
 obtain ⟨w1, hw, ka, kk, kr, b1⟩ := mk3 w [.bool n0, .string s0, .string d0, .bool n1, .string s1, .string d1] [.bool n2, .string s2, .string d2] [.bool false, .string { data := #[] }, .string { data := #[] }, .bool false, .string { data := #[] }, .string { data := #[] }] 28 26 28
 rw [← hw]
 clear hw
 have sz := b1.size
 have ta := ka.lt
 have tk := kk.lt
 have tr := kr.lt
 have bb := b1
 clear b1
 have qa : w.heap.size ≠ w.heap.size + 1 + 1 := by omega
 have qk : w.heap.size + 1 ≠ w.heap.size + 1 + 1 := by omega
 have mkS : Hid (∀ w', Cel w' (w.heap.size) [.bool n0, .string s0, .string d0, .bool n1, .string s1, .string d1] 28 → Cel w' (w.heap.size + 1) [.bool n2, .string s2, .string d2] 26 → (w'.cell? ⟨w.heap.size, 0, none⟩ = some (.bool n0) ∧ w'.cell? ⟨w.heap.size, 1, none⟩ = some (.string s0) ∧ w'.cell? ⟨w.heap.size, 2, none⟩ = some (.string d0) ∧ w'.cell? ⟨w.heap.size, 3, none⟩ = some (.bool n1) ∧ w'.cell? ⟨w.heap.size, 4, none⟩ = some (.string s1) ∧ w'.cell? ⟨w.heap.size, 5, none⟩ = some (.string d1) ∧ w'.cell? ⟨w.heap.size + 1, 0, none⟩ = some (.bool n2) ∧ w'.cell? ⟨w.heap.size + 1, 1, none⟩ = some (.string s2) ∧ w'.cell? ⟨w.heap.size + 1, 2, none⟩ = some (.string d2))) := fun w' ha hk => ⟨cel6_0 ha, cel6_1 ha, cel6_2 ha, cel6_3 ha, cel6_4 ha, cel6_5 ha, cel3_0 hk, cel3_1 hk, cel3_2 hk⟩
 go_region_held3 (fun w' => w'.cell? ⟨w.heap.size, 0, none⟩ = some (.bool n0) ∧ w'.cell? ⟨w.heap.size, 1, none⟩ = some (.string s0) ∧ w'.cell? ⟨w.heap.size, 2, none⟩ = some (.string d0) ∧ w'.cell? ⟨w.heap.size, 3, none⟩ = some (.bool n1) ∧ w'.cell? ⟨w.heap.size, 4, none⟩ = some (.string s1) ∧ w'.cell? ⟨w.heap.size, 5, none⟩ = some (.string d1) ∧ w'.cell? ⟨w.heap.size + 1, 0, none⟩ = some (.bool n2) ∧ w'.cell? ⟨w.heap.size + 1, 1, none⟩ = some (.string s2) ∧ w'.cell? ⟨w.heap.size + 1, 2, none⟩ = some (.string d2)) (first | with_reducible exact mkS.out _ ka kk | with_reducible exact mkS.out _ (ka.alloc _) (kk.alloc _) | with_reducible exact mkS.out _ (Cel.other (Cel.other (Cel.other (Cel.other (Cel.other (Cel.other ka qa 0 _) qa 1 _) qa 2 _) qa 3 _) qa 4 _) qa 5 _) (Cel.other (Cel.other (Cel.other (Cel.other (Cel.other (Cel.other kk qk 0 _) qk 1 _) qk 2 _) qk 3 _) qk 4 _) qk 5 _) | exact mkS.out _ ka kk) (first | (go_at_call 37; go_fit (H1.out _); rintro e wn ⟨rfl, bn⟩; replace ka := ka.below ⟨bn.os, bn.tape, bn.output, bn.size, bn.block⟩; replace kk := kk.below ⟨bn.os, bn.tape, bn.output, bn.size, bn.block⟩; replace kr := kr.below ⟨bn.os, bn.tape, bn.output, bn.size, bn.block⟩; replace bb := Below.after bb ⟨bn.os, bn.tape, bn.output, bn.size, bn.block⟩) | (go_at_call 37; go_fit (H2.out _); rintro e wn ⟨rfl, bn⟩; replace ka := ka.below ⟨bn.os, bn.tape, bn.output, bn.size, bn.block⟩; replace kk := kk.below ⟨bn.os, bn.tape, bn.output, bn.size, bn.block⟩; replace kr := kr.below ⟨bn.os, bn.tape, bn.output, bn.size, bn.block⟩; replace bb := Below.after bb ⟨bn.os, bn.tape, bn.output, bn.size, bn.block⟩; have e0 := cel6_0 kr; have f0 := Cel.frozen kr 0; have e1 := cel6_1 kr; have f1 := Cel.frozen kr 1; have e2 := cel6_2 kr; have f2 := Cel.frozen kr 2; have e3 := cel6_3 kr; have f3 := Cel.frozen kr 3; have e4 := cel6_4 kr; have f4 := Cel.frozen kr 4; have e5 := cel6_5 kr; have f5 := Cel.frozen kr 5))
 go_wp2
 exact post_p (p := 4) (by kernel_rfl) rfl rfl (kr.set6 _ _ _ _ _ _) ⟨rfl, bset6 bb (by omega) _ _ _ _ _ _⟩
end Go.Proofs.YtlpafjbbeljbhaaGreatDoor
