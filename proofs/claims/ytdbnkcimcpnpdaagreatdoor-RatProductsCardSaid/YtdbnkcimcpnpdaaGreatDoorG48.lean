/-
  gussetref03: Sign, Over, Times.
  gussetref03: Times, Over, Sign, of any two.
-/
import Derived.Test.YtdbnkcimcpnpdaaGreatDoorG45
import Derived.Test.YtdbnkcimcpnpdaaGreatDoorG46
import Derived.Test.YtdbnkcimcpnpdaaGreatDoorG47
namespace Go.Proofs.YtdbnkcimcpnpdaaGreatDoor
open Go.RowKit Go.Shelf

set_option maxRecDepth 100000 in
set_option maxHeartbeats 4000000 in
theorem rover_walk (n0 n1 xN yN rN : Bool) (s0 d0 s1 d1 xS yS rS rD : ByteArray) (w : World)
  (H1 : Hid (∀ w1, Calls Tryz.prog 32 #[.agg #[.bool n0, .string s0], .agg #[.bool false, .string d1]] w1 fun e w' => e = .returned (.agg #[.bool xN, .string xS]) ∧ Below w1.heap.size w1 w'))
  (H2 : Hid (∀ w1, Calls Tryz.prog 32 #[.agg #[.bool false, .string d0], .agg #[.bool n1, .string s1]] w1 fun e w' => e = .returned (.agg #[.bool yN, .string yS]) ∧ Below w1.heap.size w1 w'))
  (H3 : Hid (∀ w1, Calls Tryz.prog 33 #[.agg #[.bool xN, .string xS], .agg #[.bool yN, .string yS]] w1 fun e w' => e = .returned (.agg #[.bool rN, .string rS, .string rD]) ∧ Below w1.heap.size w1 w')) :
  Calls Tryz.prog 22 #[.agg #[.bool n0, .string s0, .string d0], .agg #[.bool n1, .string s1, .string d1]] w fun e w' => e = .returned (.agg #[.bool rN, .string rS, .string rD]) ∧ Below w.heap.size w w' := by
 go_enter Tryz.func22, Tryz.ntmps22
 go_wp2_with fail
 obtain ⟨w1, hw, ka, kb, kr, b1⟩ := mk3 w [.bool n0, .string s0, .string d0] [.bool n1, .string s1, .string d1] [.bool false, .string { data := #[] }, .string { data := #[] }] 26 26 26
 rw [← hw]
 clear hw
 have sz := b1.size
 have ta := ka.lt
 have tb := kb.lt
 have tr := kr.lt
 have bb := b1
 clear b1
 have qa : w.heap.size ≠ w.heap.size + 1 + 1 := by omega
 have qb : w.heap.size + 1 ≠ w.heap.size + 1 + 1 := by omega
 go_region_held3 (fun w' => w'.cell? ⟨w.heap.size, 0, none⟩ = some (.bool n0) ∧ w'.cell? ⟨w.heap.size, 1, none⟩ = some (.string s0) ∧ w'.cell? ⟨w.heap.size, 2, none⟩ = some (.string d0) ∧ w'.cell? ⟨w.heap.size + 1, 0, none⟩ = some (.bool n1) ∧ w'.cell? ⟨w.heap.size + 1, 1, none⟩ = some (.string s1) ∧ w'.cell? ⟨w.heap.size + 1, 2, none⟩ = some (.string d1)) (first | exact ⟨cel3_0 ka, cel3_1 ka, cel3_2 ka, cel3_0 kb, cel3_1 kb, cel3_2 kb⟩ | exact ⟨cel3_0 (Cel.other (Cel.other (Cel.other ka qa 0 _) qa 1 _) qa 2 _), cel3_1 (Cel.other (Cel.other (Cel.other ka qa 0 _) qa 1 _) qa 2 _), cel3_2 (Cel.other (Cel.other (Cel.other ka qa 0 _) qa 1 _) qa 2 _), cel3_0 (Cel.other (Cel.other (Cel.other kb qb 0 _) qb 1 _) qb 2 _), cel3_1 (Cel.other (Cel.other (Cel.other kb qb 0 _) qb 1 _) qb 2 _), cel3_2 (Cel.other (Cel.other (Cel.other kb qb 0 _) qb 1 _) qb 2 _)⟩) (first | (go_at_call 48; go_fit (rden_any _ _ _ _); rintro e wn ⟨rfl, bn⟩; replace ka := ka.below ⟨bn.os, bn.tape, bn.output, bn.size, bn.block⟩; replace kb := kb.below ⟨bn.os, bn.tape, bn.output, bn.size, bn.block⟩; replace kr := kr.below ⟨bn.os, bn.tape, bn.output, bn.size, bn.block⟩; replace bb := Below.after bb ⟨bn.os, bn.tape, bn.output, bn.size, bn.block⟩) | (go_at_call 32; go_fit (H1.out _); rintro e wn ⟨rfl, bn⟩; replace ka := ka.below ⟨bn.os, bn.tape, bn.output, bn.size, bn.block⟩; replace kb := kb.below ⟨bn.os, bn.tape, bn.output, bn.size, bn.block⟩; replace kr := kr.below ⟨bn.os, bn.tape, bn.output, bn.size, bn.block⟩; replace bb := Below.after bb ⟨bn.os, bn.tape, bn.output, bn.size, bn.block⟩) | (go_at_call 32; go_fit (H2.out _); rintro e wn ⟨rfl, bn⟩; replace ka := ka.below ⟨bn.os, bn.tape, bn.output, bn.size, bn.block⟩; replace kb := kb.below ⟨bn.os, bn.tape, bn.output, bn.size, bn.block⟩; replace kr := kr.below ⟨bn.os, bn.tape, bn.output, bn.size, bn.block⟩; replace bb := Below.after bb ⟨bn.os, bn.tape, bn.output, bn.size, bn.block⟩) | (go_at_call 33; go_fit (H3.out _); rintro e wn ⟨rfl, bn⟩; replace ka := ka.below ⟨bn.os, bn.tape, bn.output, bn.size, bn.block⟩; replace kb := kb.below ⟨bn.os, bn.tape, bn.output, bn.size, bn.block⟩; replace kr := kr.below ⟨bn.os, bn.tape, bn.output, bn.size, bn.block⟩; replace bb := Below.after bb ⟨bn.os, bn.tape, bn.output, bn.size, bn.block⟩; have e0 := cel3_0 kr; have f0 := Cel.frozen kr 0; have e1 := cel3_1 kr; have f1 := Cel.frozen kr 1; have e2 := cel3_2 kr; have f2 := Cel.frozen kr 2))
 go_wp2
 exact post_q (p := 4) (by kernel_rfl) rfl rfl (((kr.set 0 _).set 1 _).set 2 _) ⟨rfl, bset (bset (bset bb (by omega) 0 _) (by omega) 1 _) (by omega) 2 _⟩
set_option maxRecDepth 100000 in
set_option maxHeartbeats 4000000 in
theorem rtimes_walk0 (n0 n1 xN yN rN : Bool) (s0 d0 s1 d1 xS yS rS rD : ByteArray) (h : (d0.toList == [1]) = false) (w : World)
  (H1 : Hid (∀ w1, Calls Tryz.prog 32 #[.agg #[.bool n0, .string s0], .agg #[.bool n1, .string s1]] w1 fun e w' => e = .returned (.agg #[.bool xN, .string xS]) ∧ Below w1.heap.size w1 w'))
  (H2 : Hid (∀ w1, Calls Tryz.prog 32 #[.agg #[.bool false, .string d0], .agg #[.bool false, .string d1]] w1 fun e w' => e = .returned (.agg #[.bool yN, .string yS]) ∧ Below w1.heap.size w1 w'))
  (H3 : Hid (∀ w1, Calls Tryz.prog 33 #[.agg #[.bool xN, .string xS], .agg #[.bool yN, .string yS]] w1 fun e w' => e = .returned (.agg #[.bool rN, .string rS, .string rD]) ∧ Below w1.heap.size w1 w')) :
  Calls Tryz.prog 21 #[.agg #[.bool n0, .string s0, .string d0], .agg #[.bool n1, .string s1, .string d1]] w fun e w' => e = .returned (.agg #[.bool rN, .string rS, .string rD]) ∧ Below w.heap.size w w' := by
 go_enter Tryz.func21, Tryz.ntmps21
 go_wp2_with fail
 obtain ⟨w1, hw, ka, kb, kr, b1⟩ := mk3 w [.bool n0, .string s0, .string d0] [.bool n1, .string s1, .string d1] [.bool false, .string { data := #[] }, .string { data := #[] }] 26 26 26
 rw [← hw]
 clear hw
 have sz := b1.size
 have ta := ka.lt
 have tb := kb.lt
 have tr := kr.lt
 have bb := b1
 clear b1
 have ca_0 := cel3_0 ka
 have ca_1 := cel3_1 ka
 have ca_2 := cel3_2 ka
 have cb_3 := cel3_0 kb
 have cb_4 := cel3_1 kb
 have cb_5 := cel3_2 kb
 go_wp2_with fail
 clear ca_0 ca_1 ca_2 cb_3 cb_4 cb_5
 have qa : w.heap.size ≠ w.heap.size + 1 + 1 := by omega
 have qb : w.heap.size + 1 ≠ w.heap.size + 1 + 1 := by omega
 go_region_held3 (fun w' => w'.cell? ⟨w.heap.size, 0, none⟩ = some (.bool n0) ∧ w'.cell? ⟨w.heap.size, 1, none⟩ = some (.string s0) ∧ w'.cell? ⟨w.heap.size, 2, none⟩ = some (.string d0) ∧ w'.cell? ⟨w.heap.size + 1, 0, none⟩ = some (.bool n1) ∧ w'.cell? ⟨w.heap.size + 1, 1, none⟩ = some (.string s1) ∧ w'.cell? ⟨w.heap.size + 1, 2, none⟩ = some (.string d1)) (first | exact ⟨cel3_0 ka, cel3_1 ka, cel3_2 ka, cel3_0 kb, cel3_1 kb, cel3_2 kb⟩ | exact ⟨cel3_0 (Cel.other (Cel.other (Cel.other ka qa 0 _) qa 1 _) qa 2 _), cel3_1 (Cel.other (Cel.other (Cel.other ka qa 0 _) qa 1 _) qa 2 _), cel3_2 (Cel.other (Cel.other (Cel.other ka qa 0 _) qa 1 _) qa 2 _), cel3_0 (Cel.other (Cel.other (Cel.other kb qb 0 _) qb 1 _) qb 2 _), cel3_1 (Cel.other (Cel.other (Cel.other kb qb 0 _) qb 1 _) qb 2 _), cel3_2 (Cel.other (Cel.other (Cel.other kb qb 0 _) qb 1 _) qb 2 _)⟩) (first | (go_at_call 32; go_fit (H1.out _); rintro e wn ⟨rfl, bn⟩; replace ka := ka.below ⟨bn.os, bn.tape, bn.output, bn.size, bn.block⟩; replace kb := kb.below ⟨bn.os, bn.tape, bn.output, bn.size, bn.block⟩; replace kr := kr.below ⟨bn.os, bn.tape, bn.output, bn.size, bn.block⟩; replace bb := Below.after bb ⟨bn.os, bn.tape, bn.output, bn.size, bn.block⟩) | (go_at_call 48; go_fit (rden_any _ _ _ _); rintro e wn ⟨rfl, bn⟩; replace ka := ka.below ⟨bn.os, bn.tape, bn.output, bn.size, bn.block⟩; replace kb := kb.below ⟨bn.os, bn.tape, bn.output, bn.size, bn.block⟩; replace kr := kr.below ⟨bn.os, bn.tape, bn.output, bn.size, bn.block⟩; replace bb := Below.after bb ⟨bn.os, bn.tape, bn.output, bn.size, bn.block⟩) | (go_at_call 32; go_fit (H2.out _); rintro e wn ⟨rfl, bn⟩; replace ka := ka.below ⟨bn.os, bn.tape, bn.output, bn.size, bn.block⟩; replace kb := kb.below ⟨bn.os, bn.tape, bn.output, bn.size, bn.block⟩; replace kr := kr.below ⟨bn.os, bn.tape, bn.output, bn.size, bn.block⟩; replace bb := Below.after bb ⟨bn.os, bn.tape, bn.output, bn.size, bn.block⟩) | (go_at_call 33; go_fit (H3.out _); rintro e wn ⟨rfl, bn⟩; replace ka := ka.below ⟨bn.os, bn.tape, bn.output, bn.size, bn.block⟩; replace kb := kb.below ⟨bn.os, bn.tape, bn.output, bn.size, bn.block⟩; replace kr := kr.below ⟨bn.os, bn.tape, bn.output, bn.size, bn.block⟩; replace bb := Below.after bb ⟨bn.os, bn.tape, bn.output, bn.size, bn.block⟩; have e0 := cel3_0 kr; have f0 := Cel.frozen kr 0; have e1 := cel3_1 kr; have f1 := Cel.frozen kr 1; have e2 := cel3_2 kr; have f2 := Cel.frozen kr 2))
 go_wp2
 exact post_q (p := 4) (by kernel_rfl) rfl rfl (((kr.set 0 _).set 1 _).set 2 _) ⟨rfl, bset (bset (bset bb (by omega) 0 _) (by omega) 1 _) (by omega) 2 _⟩
set_option maxRecDepth 100000 in
set_option maxHeartbeats 4000000 in
theorem rtimes_walk1 (n0 n1 xN yN rN : Bool) (s0 d0 s1 d1 xS yS rS rD : ByteArray) (h0 : (d0.toList == [1]) = true) (h : (d1.toList == [1]) = false) (w : World)
  (H1 : Hid (∀ w1, Calls Tryz.prog 32 #[.agg #[.bool n0, .string s0], .agg #[.bool n1, .string s1]] w1 fun e w' => e = .returned (.agg #[.bool xN, .string xS]) ∧ Below w1.heap.size w1 w'))
  (H2 : Hid (∀ w1, Calls Tryz.prog 32 #[.agg #[.bool false, .string d0], .agg #[.bool false, .string d1]] w1 fun e w' => e = .returned (.agg #[.bool yN, .string yS]) ∧ Below w1.heap.size w1 w'))
  (H3 : Hid (∀ w1, Calls Tryz.prog 33 #[.agg #[.bool xN, .string xS], .agg #[.bool yN, .string yS]] w1 fun e w' => e = .returned (.agg #[.bool rN, .string rS, .string rD]) ∧ Below w1.heap.size w1 w')) :
  Calls Tryz.prog 21 #[.agg #[.bool n0, .string s0, .string d0], .agg #[.bool n1, .string s1, .string d1]] w fun e w' => e = .returned (.agg #[.bool rN, .string rS, .string rD]) ∧ Below w.heap.size w w' := by
 go_enter Tryz.func21, Tryz.ntmps21
 go_wp2_with fail
 obtain ⟨w1, hw, ka, kb, kr, b1⟩ := mk3 w [.bool n0, .string s0, .string d0] [.bool n1, .string s1, .string d1] [.bool false, .string { data := #[] }, .string { data := #[] }] 26 26 26
 rw [← hw]
 clear hw
 have sz := b1.size
 have ta := ka.lt
 have tb := kb.lt
 have tr := kr.lt
 have bb := b1
 clear b1
 have ca_0 := cel3_0 ka
 have ca_1 := cel3_1 ka
 have ca_2 := cel3_2 ka
 have cb_3 := cel3_0 kb
 have cb_4 := cel3_1 kb
 have cb_5 := cel3_2 kb
 go_wp2_with fail
 clear ca_0 ca_1 ca_2 cb_3 cb_4 cb_5
 have qa : w.heap.size ≠ w.heap.size + 1 + 1 := by omega
 have qb : w.heap.size + 1 ≠ w.heap.size + 1 + 1 := by omega
 go_region_held3 (fun w' => w'.cell? ⟨w.heap.size, 0, none⟩ = some (.bool n0) ∧ w'.cell? ⟨w.heap.size, 1, none⟩ = some (.string s0) ∧ w'.cell? ⟨w.heap.size, 2, none⟩ = some (.string d0) ∧ w'.cell? ⟨w.heap.size + 1, 0, none⟩ = some (.bool n1) ∧ w'.cell? ⟨w.heap.size + 1, 1, none⟩ = some (.string s1) ∧ w'.cell? ⟨w.heap.size + 1, 2, none⟩ = some (.string d1)) (first | exact ⟨cel3_0 ka, cel3_1 ka, cel3_2 ka, cel3_0 kb, cel3_1 kb, cel3_2 kb⟩ | exact ⟨cel3_0 (Cel.other (Cel.other (Cel.other ka qa 0 _) qa 1 _) qa 2 _), cel3_1 (Cel.other (Cel.other (Cel.other ka qa 0 _) qa 1 _) qa 2 _), cel3_2 (Cel.other (Cel.other (Cel.other ka qa 0 _) qa 1 _) qa 2 _), cel3_0 (Cel.other (Cel.other (Cel.other kb qb 0 _) qb 1 _) qb 2 _), cel3_1 (Cel.other (Cel.other (Cel.other kb qb 0 _) qb 1 _) qb 2 _), cel3_2 (Cel.other (Cel.other (Cel.other kb qb 0 _) qb 1 _) qb 2 _)⟩) (first | (go_at_call 32; go_fit (H1.out _); rintro e wn ⟨rfl, bn⟩; replace ka := ka.below ⟨bn.os, bn.tape, bn.output, bn.size, bn.block⟩; replace kb := kb.below ⟨bn.os, bn.tape, bn.output, bn.size, bn.block⟩; replace kr := kr.below ⟨bn.os, bn.tape, bn.output, bn.size, bn.block⟩; replace bb := Below.after bb ⟨bn.os, bn.tape, bn.output, bn.size, bn.block⟩) | (go_at_call 48; go_fit (rden_any _ _ _ _); rintro e wn ⟨rfl, bn⟩; replace ka := ka.below ⟨bn.os, bn.tape, bn.output, bn.size, bn.block⟩; replace kb := kb.below ⟨bn.os, bn.tape, bn.output, bn.size, bn.block⟩; replace kr := kr.below ⟨bn.os, bn.tape, bn.output, bn.size, bn.block⟩; replace bb := Below.after bb ⟨bn.os, bn.tape, bn.output, bn.size, bn.block⟩) | (go_at_call 32; go_fit (H2.out _); rintro e wn ⟨rfl, bn⟩; replace ka := ka.below ⟨bn.os, bn.tape, bn.output, bn.size, bn.block⟩; replace kb := kb.below ⟨bn.os, bn.tape, bn.output, bn.size, bn.block⟩; replace kr := kr.below ⟨bn.os, bn.tape, bn.output, bn.size, bn.block⟩; replace bb := Below.after bb ⟨bn.os, bn.tape, bn.output, bn.size, bn.block⟩) | (go_at_call 33; go_fit (H3.out _); rintro e wn ⟨rfl, bn⟩; replace ka := ka.below ⟨bn.os, bn.tape, bn.output, bn.size, bn.block⟩; replace kb := kb.below ⟨bn.os, bn.tape, bn.output, bn.size, bn.block⟩; replace kr := kr.below ⟨bn.os, bn.tape, bn.output, bn.size, bn.block⟩; replace bb := Below.after bb ⟨bn.os, bn.tape, bn.output, bn.size, bn.block⟩; have e0 := cel3_0 kr; have f0 := Cel.frozen kr 0; have e1 := cel3_1 kr; have f1 := Cel.frozen kr 1; have e2 := cel3_2 kr; have f2 := Cel.frozen kr 2))
 go_wp2
 exact post_q (p := 4) (by kernel_rfl) rfl rfl (((kr.set 0 _).set 1 _).set 2 _) ⟨rfl, bset (bset (bset bb (by omega) 0 _) (by omega) 1 _) (by omega) 2 _⟩
end Go.Proofs.YtdbnkcimcpnpdaaGreatDoor
namespace Go.Proofs.YtdbnkcimcpnpdaaGreatDoor
open Go.RowKit Go.Shelf

set_option maxRecDepth 100000 in
set_option maxHeartbeats 4000000 in
theorem rtimes_ones (n0 n1 xN : Bool) (s0 s1 xS d0 d1 : ByteArray) (h0 : (d0.toList == [1]) = true) (h : (d1.toList == [1]) = true) (w : World)
  (H1 : Hid (∀ w1, Calls Tryz.prog 32 #[.agg #[.bool n0, .string s0], .agg #[.bool n1, .string s1]] w1 fun e w' => e = .returned (.agg #[.bool xN, .string xS]) ∧ Below w1.heap.size w1 w')) :
  Calls Tryz.prog 21 #[.agg #[.bool n0, .string s0, .string d0], .agg #[.bool n1, .string s1, .string d1]] w fun e w' => e = .returned (.agg #[.bool xN, .string xS, .string ⟨#[1]⟩]) ∧ Below w.heap.size w w' := by
 go_enter Tryz.func21, Tryz.ntmps21
 go_wp2_with fail
 obtain ⟨w1, hw, ka, kb, kr, b1⟩ := mk3 w [.bool n0, .string s0, .string d0] [.bool n1, .string s1, .string d1] [.bool false, .string { data := #[] }, .string { data := #[] }] 26 26 26
 rw [← hw]
 clear hw
 have sz := b1.size
 have ta := ka.lt
 have tb := kb.lt
 have tr := kr.lt
 have bb := b1
 clear b1
 have ca_0 := cel3_0 ka
 have ca_1 := cel3_1 ka
 have ca_2 := cel3_2 ka
 have cb_3 := cel3_0 kb
 have cb_4 := cel3_1 kb
 have cb_5 := cel3_2 kb
 go_wp2_with fail
 clear ca_0 ca_1 ca_2 cb_3 cb_4 cb_5
 go_fit (H1.out _)
 rintro e w2 ⟨rfl, b1⟩
 have sz := b1.size
 replace ka := ka.below b1
 replace kb := kb.below b1
 replace kr := kr.below b1
 replace bb := Below.after bb b1
 clear b1
 have cr_0 := cel3_0 kr
 have fr_1 := Cel.frozen kr 0
 have cr_2 := cel3_1 kr
 have fr_3 := Cel.frozen kr 1
 have cr_4 := cel3_2 kr
 have fr_5 := Cel.frozen kr 2
 go_wp2
 exact post_q (p := 4) (by kernel_rfl) rfl rfl (((kr.set 0 _).set 1 _).set 2 _) ⟨rfl, bset (bset (bset bb (by omega) 0 _) (by omega) 1 _) (by omega) 2 _⟩

theorem rtimesq_any (n0 n1 : Bool) (s0 d0 s1 d1 : ByteArray) (w : World) (o0 : OkQ n0 s0 d0) (o1 : OkQ n1 s1 d1) {K : Nat} (hK : K ≤ 4000) (z0 : s0.size ≤ K) (y0 : d0.size ≤ K) (z1 : s1.size ≤ K) (y1 : d1.size ≤ K) :
  Calls Tryz.prog 21 #[.agg #[.bool n0, .string s0, .string d0], .agg #[.bool n1, .string s1, .string d1]] w fun e w' => e = .returned (qI (qOf n0 s0 d0 * qOf n1 s1 d1)) ∧ Below w.heap.size w w' := by
 obtain ⟨nf, sf, hf, hok, hsz, hz, hnat, hneg, hstr, hnn, hfn⟩ := named0
 obtain ⟨nq, sq, dq, hq, -⟩ := named3
 have h1 := fun w1 => rtimes_any n0 n1 s0 s1 w1 (by omega) (by omega)
 have h2 := fun w1 => rtimes_any false false d0 d1 w1 (by omega) (by omega)
 have key : qOf n0 s0 d0 * qOf n1 s1 d1 = Rat.divInt (zOf n0 s0 * zOf n1 s1) (zOf false d0 * zOf false d1) := by
  unfold qOf
  rw [zOf_false, zOf_false, ← Rat.divInt_mul_divInt, ← Rat.divInt_ofNat, ← Rat.divInt_ofNat]
 have hp : 0 < natOf (sf (zOf false d0 * zOf false d1)) := by
  rw [zOf_false, zOf_false, ← Int.natCast_mul, hnn]
  exact Nat.mul_pos o0.2.2.1 o1.2.2.1
 have hl := fun w1 => low_any (nf (zOf n0 s0 * zOf n1 s1)) (nf (zOf false d0 * zOf false d1)) (sf (zOf n0 s0 * zOf n1 s1)) (sf (zOf false d0 * zOf false d1)) w1 (hok _) (hok _) (Nat.le_trans (hsz _ _ ((bd_zOf z0).mul (bd_zOf z1))) (by omega)) (Nat.le_trans (hsz _ _ ((bd_zOf y0).mul (bd_zOf y1))) (by omega)) hp
 rw [key]
 simp only [hf] at h1 h2
 simp only [hz, hq] at hl
 rw [hq]
 cases e0 : (d0.toList == [1]) with
 | false => exact rtimes_walk0 n0 n1 _ _ _ s0 d0 s1 d1 _ _ _ _ e0 w h1 h2 hl
 | true =>
  cases e1 : (d1.toList == [1]) with
  | false => exact rtimes_walk1 n0 n1 _ _ _ s0 d0 s1 d1 _ _ _ _ e0 e1 w h1 h2 hl
  | true =>
   rw [← hq, zOf_false, zOf_false, one_of e0, one_of e1, show ((1 : Nat) : Int) * ((1 : Nat) : Int) = 1 from rfl, show Rat.divInt (zOf n0 s0 * zOf n1 s1) 1 = ((zOf n0 s0 * zOf n1 s1 : Int) : Rat) from (by first | (rw [show (1 : Int) = ((1 : Nat) : Int) from rfl, Rat.divInt_ofNat, Rat.mkRat_one]) | (rw [show (1 : Int) = ((1 : Nat) : Int) from rfl, Rat.divInt_ofNat]; exact Rat.ext (Q.mk_low (by omega) (by simp)).1 (Q.mk_low (by omega) (by simp)).2)), qI_int _ (hf _)]
   exact rtimes_ones n0 n1 _ s0 s1 _ d0 d1 e0 e1 w h1
theorem roverq_any (n0 n1 : Bool) (s0 d0 s1 d1 : ByteArray) (w : World) (o0 : OkQ n0 s0 d0) {K : Nat} (hK : K ≤ 4000) (z0 : s0.size ≤ K) (y0 : d0.size ≤ K) (z1 : s1.size ≤ K) (y1 : d1.size ≤ K) (hs : 0 < natOf s1) :
  Calls Tryz.prog 22 #[.agg #[.bool n0, .string s0, .string d0], .agg #[.bool n1, .string s1, .string d1]] w fun e w' => e = .returned (qI (qOf n0 s0 d0 / qOf n1 s1 d1)) ∧ Below w.heap.size w w' := by
 obtain ⟨nf, sf, hf, hok, hsz, hz, hnat, hneg, hstr, hnn, hfn⟩ := named0
 obtain ⟨nq, sq, dq, hq, -⟩ := named3
 have h1 := fun w1 => rtimes_any n0 false s0 d1 w1 (by omega) (by omega)
 have h2 := fun w1 => rtimes_any false n1 d0 s1 w1 (by omega) (by omega)
 have key : qOf n0 s0 d0 / qOf n1 s1 d1 = Rat.divInt (zOf n0 s0 * zOf false d1) (zOf false d0 * zOf n1 s1) := by
  unfold qOf
  rw [zOf_false, zOf_false, Rat.div_def, ← Rat.divInt_ofNat, ← Rat.divInt_ofNat, Rat.inv_divInt, Rat.divInt_mul_divInt]
 have hp : 0 < natOf (sf (zOf false d0 * zOf n1 s1)) := by
  rw [hnat, Int.natAbs_mul, natAbs_zOf, natAbs_zOf]
  exact Nat.mul_pos o0.2.2.1 hs
 have hl := fun w1 => low_any (nf (zOf n0 s0 * zOf false d1)) (nf (zOf false d0 * zOf n1 s1)) (sf (zOf n0 s0 * zOf false d1)) (sf (zOf false d0 * zOf n1 s1)) w1 (hok _) (hok _) (Nat.le_trans (hsz _ _ ((bd_zOf z0).mul (bd_zOf y1))) (by omega)) (Nat.le_trans (hsz _ _ ((bd_zOf y0).mul (bd_zOf z1))) (by omega)) hp
 rw [key]
 simp only [hf] at h1 h2
 simp only [hz, hq] at hl
 rw [hq]
 exact rover_walk n0 n1 _ _ _ s0 d0 s1 d1 _ _ _ _ w h1 h2 hl

end Go.Proofs.YtdbnkcimcpnpdaaGreatDoor
